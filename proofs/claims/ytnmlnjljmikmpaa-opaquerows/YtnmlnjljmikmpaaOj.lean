/- Package opaque: newMemory, put, behind. -/
import Derived.Test.YtnmlnjljmikmpaaOi
namespace Go.Proofs.Ytnmlnjljmikmpaa
open Go.RowKit Go.Shelf
set_option linter.unusedVariables false
set_option linter.unusedSimpArgs false
attribute [local go_sem ↓] Go.wp_at_zero Go.wp_at_succ

set_option maxRecDepth 100000 in
set_option maxHeartbeats 4000000 in
theorem newMemory_any {o w : World} {R : List It} (h : St o R w) (sa : Option Addr) (sn sc : Nat) : Calls Try.prog 29 #[.slice sa sn sc] w fun e w' => ∃ mb, e = .returned (memV sa sn sc mb) ∧ St o (mapV mb [] :: R) w' := by
  have hmm := @run_makeMap Try.prog
  have s1 := h.box #[.slice none 0 0, .map none] 63
  generalize hw1 : w.alloc (.cells #[.slice none 0 0, .map none] 63) = w1 at *
  generalize hE : w.heap.size = E at *
  have s2 := s1.newMap
  generalize hw2 : w1.alloc (.map #[] 0) = w2 at *
  generalize hM : w1.heap.size = M at *
  have s3 := (s2.write 1 rfl 0 (.slice sa sn sc)).write 1 rfl 1 (.map (some M))
  have c0 := s2.cell 1 rfl 0
  have c1 := s2.cell 1 rfl 1
  have f0 := s2.frozen 1 rfl 0
  have f1 := s2.frozen 1 rfl 1
  have d0 := s3.cell 1 rfl 0
  have d1 := s3.cell 1 rfl 1
  have HS := hid (s3.perm (List.Perm.swap _ _ _)).pop
  clear s1 s2 s3 h
  go_enter Try.func29, Try.ntmps29
  go_wp2_with (first | simp only [hw1, hE] | simp only [hw2, hM])
  refine bodyPost_ret (v := memV sa sn sc M) ?_ rfl ⟨M, rfl, HS.out⟩
  simp [results, Try.f29, go_sem, d0, d1]
def ovL (ov : Int → Option Int) (ps : List Pr) : Int → Option Int := ps.foldl (fun o p => ownSet o p.1 p.2) ov
theorem ovL_mem (start : List Int) : ∀ (ps : List Pr) (ov : Int → Option Int), memO start (ovL ov ps) = updL (memO start ov) ps
  | [], ov => rfl
  | p :: ps, ov => by
    show memO start (ovL (ownSet ov p.1 p.2) ps) = updL (upd (memO start ov) p.1 p.2) ps
    rw [ovL_mem start ps, memO_set]
theorem ovL_next {ps : List Pr} {j : Nat} {p : Pr} {ov : Int → Option Int} (h : ps[j]? = some p) : ovL ov (ps.take (j + 1)) = ownSet (ovL ov (ps.take j)) p.1 p.2 := by
  rw [List.take_add_one, h]
  simp [ovL]
set_option maxRecDepth 100000 in
set_option maxHeartbeats 4000000 in
theorem put_any {o w : World} {R : List It} {sa aa la : Option Addr} {sn sc mb an ac ln lc : Nat} {ls : List Pr} {ov : Int → Option Int} {br : Bool} {ps : List Pr} (h : St o (mapV mb ls :: R) w) (hv : ValR ls ov) (hl : ∀ ls' W, St o (mapV mb ls' :: R) W → RIn pC W la ln ps) (hln : ln ≤ 2932031007317) (hp : ∀ p ∈ ps, -9223372036854775808 ≤ p.1 ∧ p.1 ≤ 9223372036854775807) :
    Calls Try.prog 32 #[memV sa sn sc mb, gistV br aa an ac la ln lc] w fun e w' => e = .returned (.tuple #[]) ∧ ∃ ls', ValR ls' (ovL ov ps) ∧ St o (mapV mb ls' :: R) w' := by
  have HLN := hid (hl ls w h).1
  have s1 := (h.box #[.slice sa sn sc, .map (some mb)] 63).box #[.bool br, .slice aa an ac, .slice la ln lc] 67
  rw [alloc_size] at s1
  unfold memV gistV
  generalize hw1 : (w.alloc (.cells #[.slice sa sn sc, .map (some mb)] 63)).alloc (.cells #[.bool br, .slice aa an ac, .slice la ln lc] 67) = w1 at *
  generalize hE : w.heap.size = E at *
  have c2 := s1.cell 0 rfl 2
  have HS1 := hid (St.move (l := [_, _, _]) s1 3 rfl [2, 1, 0] (by decide))
  have HL := hid hl
  have HP := hid hp
  have HV := hid hv
  have hln1 : (ln : Int) ≤ 2932031007317 := by omega
  clear s1 h hl hp hv hln
  go_enter Try.func32, Try.ntmps32
  go_upto_region 2 with (simp only [hw1, hE])
  clear c2 hw1 hE
  go_loopw [9] (fun i wr => ∃ (j : Nat) (ls' : List Pr), i = .int .i64 j ∧ j ≤ ln ∧ ValR ls' (ovL ov (ps.take j)) ∧ St o (mapV mb ls' :: boxI E #[.slice sa sn sc, .map (some mb)] 63 :: boxI (E + 1) #[.bool br, .slice aa an ac, .slice la ln lc] 67 :: R) wr) (fun i _ => ln - (intOf i).toNat)
  case atStart => exact ⟨0, ls, rfl, Nat.zero_le _, HV.out, HS1.out⟩
  case round =>
    clear HS1 HV
    obtain ⟨j, ls', rfl, hj, hv, hs⟩ := hrel
    by_cases hlt : j < ln
    · have hlt' : (j : Int) < (ln : Int) := by omega
      have hj0 : (0 : Int) ≤ (j : Int) := by omega
      have hs0 : St o (mapV mb ls' :: R) wr := (St.move (l := [_, _, _]) hs 3 rfl [1, 2, 0] (by decide)).pop.pop
      have hr := HL.out ls' wr hs0
      obtain ⟨g, off, rfl⟩ := hr.addr (by omega)
      obtain ⟨x, hx⟩ : ∃ x, ps[j]? = some x := ⟨_, List.getElem?_eq_getElem (by have := HLN.out; omega)⟩
      have hrg := HP.out x (List.mem_of_getElem? hx)
      have hnx := ovL_next (ov := ov) hx
      have q := fun i u hu => hr.at (k := 2) (fun _ => rfl) hx i u hu
      have q0 := q 0 _ rfl
      have q1 := q 1 _ rfl
      rw [Nat.add_zero] at q0
      obtain ⟨x0, x1⟩ := x
      simp only at q0 q1 hrg hnx
      have s1 := hs.box #[.int .i64 x0, .int .i64 x1] 86
      generalize hw4 : wr.alloc (.cells #[.int .i64 x0, .int .i64 x1] 86) = w4 at *
      generalize hB : wr.heap.size = B at *
      have c1 := s1.cell 2 rfl 1
      have e0 := s1.cell 0 rfl 0
      have e1 := s1.cell 0 rfl 1
      obtain ⟨w5, ls5, hup, hv5, s5⟩ := mapPut (St.move (l := [_, _, _, _]) s1 4 rfl [1, 2, 3, 0] (by decide)) hv x1 hrg
      have HS5 := hid (St.move (l := [_, _, _, _]) s5 4 rfl [3, 0, 1, 2] (by decide)).pop
      have HV5 : Hid (ValR ls5 (ovL ov (ps.take (j + 1)))) := hid (by rw [hnx]; exact hv5)
      have HJ : Hid (j + 1 ≤ ln ∧ ln - (j + 1) < ln - j) := hid ⟨by omega, by omega⟩
      clear q hs hs0 hr hx hrg hnx s1 s5 hv hv5 hj hlt
      go_wp2_with (first | simp only [hw4, hB] | simp only [hup])
      go_roundw
      case rel => exact ⟨j + 1, ls5, by simp, HJ.out.1, HV5.out, HS5.out⟩
      case measure => have := HJ.out.2; simp [intOf]; omega
    · have hlt' : ¬ (j : Int) < (ln : Int) := by omega
      have e : ps.take j = ps := List.take_of_length_le (by have := HLN.out; omega)
      rw [e] at hv
      have HS := hid ((St.move (l := [_, _, _]) hs 3 rfl [1, 2, 0] (by decide)).pop.pop)
      have HV2 := hid hv
      clear hs hv e
      go_wp2
      go_end0
      exact ⟨rfl, ls', HV2.out, HS.out⟩
theorem clone_any {o w : World} {its : List It} {i mb : Nat} {ls : List Pr} (h : St o its w) (hi : its[i]? = some (mapV mb ls)) : Calls Try.prog 53 #[.map (some mb)] w fun e w' => e = .returned (.map (some w.heap.size)) ∧ St o (mapV w.heap.size ls :: its) w' := by
  obtain ⟨es, clock, hb, hB⟩ : MapV w mb ls := h.get i hi
  refine Calls.mono (P := Try.prog) (f := 53) (AnyW.maps_Clone Try.cloneM mb es clock w hb) ?_
  rintro e w' ⟨rfl, rfl⟩
  exact ⟨rfl, h.push (mapV w.heap.size ls) (kept_alloc w _) ⟨es, clock, heap_alloc_new w _, hB⟩ (by simp [mapV]) (by simp [mapV])⟩
end Go.Proofs.Ytnmlnjljmikmpaa
