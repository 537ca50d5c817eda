/- The document's Writer and Point; samePairs. -/
import Derived.Test.YtnmlnjljmikmpabHa
namespace Go.Proofs.Ytnmlnjljmikmpab
open Go.RowKit Go.Shelf
set_option linter.unusedVariables false
set_option linter.unusedSimpArgs false
attribute [local go_sem ↓] Go.wp_at_zero Go.wp_at_succ

def writerM (s : Sy) : Bool := s.ms.any Mv.puts && s.ft == 1
theorem any_next {ms : List Mv} {j : Nat} {x : Mv} (h : ms[j]? = some x) (h0 : (ms.take j).any Mv.puts = false) (hx : x.wr = false) : (ms.take (j + 1)).any Mv.puts = false := by
  rw [take_nextM h, List.any_append, h0]
  simp [Mv.puts, hx]
theorem any_here {ms : List Mv} {j : Nat} {x : Mv} (h : ms[j]? = some x) (hx : x.wr = true) : ms.any Mv.puts = true := by
  rw [List.any_eq_true]
  exact ⟨x, List.mem_of_getElem? h, hx⟩
theorem pointM_yes {s : Sy} (h : writerM s = true) : pointM s = (s.ga, s.en) := by
  unfold writerM at h
  simp only [Bool.and_eq_true, beq_iff_eq] at h
  unfold pointM
  rw [if_pos ⟨h.2, h.1⟩]
theorem pointM_no {s : Sy} (h : writerM s = false) : pointM s = lastM (s.op, s.bg) (s.ms.filter Mv.out) := by
  unfold writerM at h
  unfold pointM
  rw [if_neg (fun ⟨a, b⟩ => by rw [b, a] at h; simp at h)]
theorem last_none {ms : List Mv} {d : Int × Int} (h : (ms.drop 0).filter Mv.out = []) : lastM d (ms.filter Mv.out) = d := by
  rw [List.drop_zero] at h
  rw [h]
  rfl
theorem last_here {ms : List Mv} {d : Int × Int} {j : Nat} {x : Mv} (hx : ms[j]? = some x) (h : (ms.drop (j + 1)).filter Mv.out = []) (ho : x.out = true) : lastM d (ms.filter Mv.out) = (x.ga, x.st) := by
  have e : ms = ms.take j ++ [x] ++ ms.drop (j + 1) := by rw [← take_nextM hx, List.take_append_drop]
  rw [e, List.filter_append, h, List.append_nil, List.filter_append, show [x].filter Mv.out = [x] by simp [ho], lastM_snoc]
theorem last_step {ms : List Mv} {j : Nat} {x : Mv} (hx : ms[j]? = some x) (h : (ms.drop (j + 1)).filter Mv.out = []) (ho : x.out = false) : (ms.drop j).filter Mv.out = [] := by
  obtain ⟨h1, h2⟩ := List.getElem?_eq_some_iff.1 hx
  rw [List.drop_eq_getElem_cons h1, List.filter_cons, h2, ho]
  exact h
end Go.Proofs.Ytnmlnjljmikmpab
