/- The document's examples: awake. -/
import Derived.Test.YtjljipbmbelmgaaJd
namespace Go.Proofs.Ytjljipbmbelmgaa
open Go.RowKit
set_option linter.unusedVariables false
set_option linter.unusedSimpArgs false
attribute [local go_sem ↓] Go.wp_at_zero Go.wp_at_succ

def cfgB : Cfg := ⟨1, 1, 1, 2, 1, 2⟩
def cfgA : Cfg := ⟨1, 1, 1, 3, 1, 2⟩
def two : List Vt := [⟨0, 0, 7, 0⟩, ⟨0, 0, 4, 0⟩]

set_option maxRecDepth 100000 in
theorem biased_any (w : World) : Calls Try.prog 20 #[] w fun e w' => e = .returned (.agg #[.int .i64 1, .int .i64 1, .int .i64 1, .int .i64 2, .int .i64 1, .int .i64 2]) ∧ Kept (fun _ => False) w w' := by
  have h0 := (St.nil w).box #[.int .i64 1, .int .i64 1, .int .i64 1, .int .i64 2, .int .i64 1, .int .i64 2] 23
  have hk := h0.same
  have c0 : (w.alloc (.cells #[.int .i64 1, .int .i64 1, .int .i64 1, .int .i64 2, .int .i64 1, .int .i64 2] 23)).cell? ⟨w.heap.size, 0, none⟩ = some (.int .i64 1) := h0.cell 0 rfl 0
  have c1 : (w.alloc (.cells #[.int .i64 1, .int .i64 1, .int .i64 1, .int .i64 2, .int .i64 1, .int .i64 2] 23)).cell? ⟨w.heap.size, 1, none⟩ = some (.int .i64 1) := h0.cell 0 rfl 1
  have c2 : (w.alloc (.cells #[.int .i64 1, .int .i64 1, .int .i64 1, .int .i64 2, .int .i64 1, .int .i64 2] 23)).cell? ⟨w.heap.size, 2, none⟩ = some (.int .i64 1) := h0.cell 0 rfl 2
  have c3 : (w.alloc (.cells #[.int .i64 1, .int .i64 1, .int .i64 1, .int .i64 2, .int .i64 1, .int .i64 2] 23)).cell? ⟨w.heap.size, 3, none⟩ = some (.int .i64 2) := h0.cell 0 rfl 3
  have c4 : (w.alloc (.cells #[.int .i64 1, .int .i64 1, .int .i64 1, .int .i64 2, .int .i64 1, .int .i64 2] 23)).cell? ⟨w.heap.size, 4, none⟩ = some (.int .i64 1) := h0.cell 0 rfl 4
  have c5 : (w.alloc (.cells #[.int .i64 1, .int .i64 1, .int .i64 1, .int .i64 2, .int .i64 1, .int .i64 2] 23)).cell? ⟨w.heap.size, 5, none⟩ = some (.int .i64 2) := h0.cell 0 rfl 5
  clear h0
  go_enter Try.func20, Try.ntmps20
  go_wp2
  exact bodyPost_ret (v := .agg #[.int .i64 1, .int .i64 1, .int .i64 1, .int .i64 2, .int .i64 1, .int .i64 2]) (by simp [results, Try.results20, go_sem, c0, c1, c2, c3, c4, c5]) rfl ⟨rfl, hk⟩

theorem two_in {o w : World} {its : List It} (h : St o its w) (i : Nat) {T : Nat} (hi : its[i]? = some (boxI T #[.int .i64 0, .int .i64 0, .int .i64 7, .int .i64 0, .int .i64 0, .int .i64 0, .int .i64 4, .int .i64 0] 46)) : VIn w (some ⟨T, 0, none⟩) 2 two := by
  refine ⟨rfl, fun _ => ⟨T, 0, rfl, fun j u hu => ?_⟩⟩
  rw [h.cell i hi]
  have e : (vtCells two).toArray = #[.int .i64 0, .int .i64 0, .int .i64 7, .int .i64 0, .int .i64 0, .int .i64 0, .int .i64 4, .int .i64 0] := rfl
  rw [← e, Nat.zero_add]
  simpa using hu

set_option maxRecDepth 100000 in
set_option maxHeartbeats 2000000 in
theorem up_any (w : World) : Calls Try.prog 7 #[] w fun e w' => e = .returned (.bool true) ∧ Kept (fun _ => False) w w' := by
  have h0 := (St.nil w).box #[.int .i64 0, .int .i64 0, .int .i64 7, .int .i64 0, .int .i64 0, .int .i64 0, .int .i64 4, .int .i64 0] 46
  go_enter Try.func7, Try.ntmps7
  go_upto_region 2 with fail
  generalize w.alloc (.cells #[.int .i64 0, .int .i64 0, .int .i64 7, .int .i64 0, .int .i64 0, .int .i64 0, .int .i64 4, .int .i64 0] 46) = w0 at *
  generalize w.heap.size = T at *
  go_wp2_with fail
  refine (biased_any _).mono ?_
  rintro e w1 ⟨rfl, k1⟩
  have h1 := h0.calm k1
  clear h0 k1
  go_wp2_with fail
  have hq : Calls Try.prog 12 #[.agg #[.int .i64 1, .int .i64 1, .int .i64 1, .int .i64 2, .int .i64 1, .int .i64 2]] w1 fun e w' => ∃ g, e = .returned (.tuple #[.pointer (some ⟨g, 0, none⟩), .int .i64 0]) ∧ St w [boxI g #[.int .i64 1, .int .i64 1, .int .i64 1, .int .i64 2, .int .i64 1, .int .i64 2, .int .i64 0] 56, boxI T #[.int .i64 0, .int .i64 0, .int .i64 7, .int .i64 0, .int .i64 0, .int .i64 0, .int .i64 4, .int .i64 0] 46] w' := new_st h1 cfgB rfl
  refine hq.mono ?_
  rintro e w2 ⟨J, rfl, h2⟩
  clear hq h1
  go_wp2_with fail
  have hq : Calls Try.prog 15 #[.pointer (some ⟨J, 0, none⟩), .int .i64 1, .slice (some ⟨T, 0, none⟩) 2 2] _ fun e w' => e = .returned (.int .i64 2) ∧ St w [boxI J #[.int .i64 1, .int .i64 1, .int .i64 1, .int .i64 2, .int .i64 1, .int .i64 2, .int .i64 1] 56, boxI T #[.int .i64 0, .int .i64 0, .int .i64 7, .int .i64 0, .int .i64 0, .int .i64 0, .int .i64 4, .int .i64 0] 46] w' := decide_st h2 0 (c := cfgB) (df := 0) rfl rfl (by omega) 1 (zs := two) (fun W h => two_in h 1 rfl) (by omega)
  refine hq.mono ?_
  rintro e w3 ⟨rfl, h3⟩
  clear hq h2
  go_wp2_with fail
  have hq : Calls Try.prog 15 #[.pointer (some ⟨J, 0, none⟩), .int .i64 1, .slice (some ⟨T, 0, none⟩) 2 2] _ fun e w' => e = .returned (.int .i64 2) ∧ St w [boxI J #[.int .i64 1, .int .i64 1, .int .i64 1, .int .i64 2, .int .i64 1, .int .i64 2, .int .i64 2] 56, boxI T #[.int .i64 0, .int .i64 0, .int .i64 7, .int .i64 0, .int .i64 0, .int .i64 0, .int .i64 4, .int .i64 0] 46] w' := decide_st h3 0 (c := cfgB) (df := 1) rfl rfl (by omega) 1 (zs := two) (fun W h => two_in h 1 rfl) (by omega)
  refine hq.mono ?_
  rintro e w4 ⟨rfl, h4⟩
  clear hq h3
  go_wp2_with fail
  have hq : Calls Try.prog 15 #[.pointer (some ⟨J, 0, none⟩), .int .i64 1, .slice (some ⟨T, 0, none⟩) 2 2] _ fun e w' => e = .returned (.int .i64 1) ∧ St w [boxI J #[.int .i64 1, .int .i64 1, .int .i64 1, .int .i64 2, .int .i64 1, .int .i64 2, .int .i64 2] 56, boxI T #[.int .i64 0, .int .i64 0, .int .i64 7, .int .i64 0, .int .i64 0, .int .i64 0, .int .i64 4, .int .i64 0] 46] w' := decide_st h4 0 (c := cfgB) (df := 2) rfl rfl (by omega) 1 (zs := two) (fun W h => two_in h 1 rfl) (by omega)
  refine hq.mono ?_
  rintro e w5 ⟨rfl, h5⟩
  clear hq h4
  go_wp2_with fail
  refine (biased_any _).mono ?_
  rintro e w6 ⟨rfl, k6⟩
  have h6 := (h5.calm k6).box #[.int .i64 1, .int .i64 1, .int .i64 1, .int .i64 3, .int .i64 1, .int .i64 2] 23
  clear h5 k6
  go_upto_region 10 with fail
  generalize w6.alloc (.cells #[.int .i64 1, .int .i64 1, .int .i64 1, .int .i64 3, .int .i64 1, .int .i64 2] 23) = w7 at *
  generalize w6.heap.size = G at *
  have c0 : w7.cell? ⟨G, 0, none⟩ = some (.int .i64 1) := h6.cell 0 rfl 0
  have c1 : w7.cell? ⟨G, 1, none⟩ = some (.int .i64 1) := h6.cell 0 rfl 1
  have c2 : w7.cell? ⟨G, 2, none⟩ = some (.int .i64 1) := h6.cell 0 rfl 2
  have c3 : w7.cell? ⟨G, 3, none⟩ = some (.int .i64 3) := h6.cell 0 rfl 3
  have c4 : w7.cell? ⟨G, 4, none⟩ = some (.int .i64 1) := h6.cell 0 rfl 4
  have c5 : w7.cell? ⟨G, 5, none⟩ = some (.int .i64 2) := h6.cell 0 rfl 5
  go_wp2_with fail
  have hq : Calls Try.prog 9 #[.agg #[.int .i64 1, .int .i64 1, .int .i64 1, .int .i64 3, .int .i64 1, .int .i64 2], .int .i64 5, .int .i64 0, .slice (some ⟨T, 0, none⟩) 2 2] w7 fun e w' => e = .returned (.tuple #[.int .i64 3, .int .i64 0]) ∧ Kept (fun _ => False) w7 w' := verdict_any cfgA 5 0 (some ⟨T, 0, none⟩) 2 2 two w7 (two_in h6 2 rfl) (by omega)
  refine hq.mono ?_
  rintro e w8 ⟨rfl, kk⟩
  have h8 := h6.calm kk
  clear hq h6 kk c0 c1 c2 c3 c4 c5
  have c0 : w8.cell? ⟨G, 0, none⟩ = some (.int .i64 1) := h8.cell 0 rfl 0
  have c1 : w8.cell? ⟨G, 1, none⟩ = some (.int .i64 1) := h8.cell 0 rfl 1
  have c2 : w8.cell? ⟨G, 2, none⟩ = some (.int .i64 1) := h8.cell 0 rfl 2
  have c3 : w8.cell? ⟨G, 3, none⟩ = some (.int .i64 3) := h8.cell 0 rfl 3
  have c4 : w8.cell? ⟨G, 4, none⟩ = some (.int .i64 1) := h8.cell 0 rfl 4
  have c5 : w8.cell? ⟨G, 5, none⟩ = some (.int .i64 2) := h8.cell 0 rfl 5
  go_wp2_with fail
  have hq : Calls Try.prog 9 #[.agg #[.int .i64 1, .int .i64 1, .int .i64 1, .int .i64 3, .int .i64 1, .int .i64 2], .int .i64 4, .int .i64 0, .slice (some ⟨T, 0, none⟩) 2 2] w8 fun e w' => e = .returned (.tuple #[.int .i64 1, .int .i64 0]) ∧ Kept (fun _ => False) w8 w' := verdict_any cfgA 4 0 (some ⟨T, 0, none⟩) 2 2 two w8 (two_in h8 2 rfl) (by omega)
  refine hq.mono ?_
  rintro e w9 ⟨rfl, kk⟩
  have h9 := h8.calm kk
  clear hq h8 kk c0 c1 c2 c3 c4 c5
  have c0 : w9.cell? ⟨G, 0, none⟩ = some (.int .i64 1) := h9.cell 0 rfl 0
  have c1 : w9.cell? ⟨G, 1, none⟩ = some (.int .i64 1) := h9.cell 0 rfl 1
  have c2 : w9.cell? ⟨G, 2, none⟩ = some (.int .i64 1) := h9.cell 0 rfl 2
  have c3 : w9.cell? ⟨G, 3, none⟩ = some (.int .i64 3) := h9.cell 0 rfl 3
  have c4 : w9.cell? ⟨G, 4, none⟩ = some (.int .i64 1) := h9.cell 0 rfl 4
  have c5 : w9.cell? ⟨G, 5, none⟩ = some (.int .i64 2) := h9.cell 0 rfl 5
  go_wp2_with fail
  have hq : Calls Try.prog 9 #[.agg #[.int .i64 1, .int .i64 1, .int .i64 1, .int .i64 3, .int .i64 1, .int .i64 2], .int .i64 4, .int .i64 (-1), .slice (some ⟨T, 0, none⟩) 2 2] w9 fun e w' => e = .returned (.tuple #[.int .i64 0, .int .i64 1]) ∧ Kept (fun _ => False) w9 w' := verdict_any cfgA 4 (-1) (some ⟨T, 0, none⟩) 2 2 two w9 (two_in h9 2 rfl) (by omega)
  refine hq.mono ?_
  rintro e w10 ⟨rfl, kk⟩
  have h10 := h9.calm kk
  clear hq h9 kk c0 c1 c2 c3 c4 c5
  have hq1 : Calls Try.prog 17 #[.pointer (some ⟨J, 0, none⟩)] w10 fun e w' => e = .returned (.int .i64 2) ∧ w' = w10 := defers_st h10 1 (c := cfgB) (df := 2) rfl
  have hq2 : Calls Try.prog 18 #[.pointer (some ⟨J, 0, none⟩)] w10 fun e w' => e = .returned (.bool true) ∧ St w _ w' := promoted_st h10 1 (c := cfgB) (df := 2) rfl
  clear h10
  go_wp2_with (first | (go_at_call 17; refine hq1.mono ?_; rintro e w11 ⟨rfl, rfl⟩) | (go_at_call 18; refine hq2.mono ?_; rintro e w12 ⟨rfl, h12⟩))
  go_ret
  exact ⟨rfl, h12.same⟩
end Go.Proofs.Ytjljipbmbelmgaa
