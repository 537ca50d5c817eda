/- The document's order: all of it. -/
import Derived.Test.YtnmlnjljmikmpaaRa2
namespace Go.Proofs.Ytnmlnjljmikmpaa
open Go.RowKit Go.Shelf
set_option linter.unusedVariables false
set_option linter.unusedSimpArgs false
attribute [local go_sem ↓] Go.wp_at_zero Go.wp_at_succ

set_option maxRecDepth 100000 in
set_option maxHeartbeats 8000000 in
theorem rOrder_any {w : World} {la : Option Addr} {n lc : Nat} {L : List Sm} (hl : LIn w la n L) (hn : n ≤ 1466015503701) :
    Calls Try.prog 11 #[.slice la n lc] w fun e w' => ∃ oa oc o, e = .returned (.slice oa n oc) ∧ Srt (fun i => ptOf ((smS L).getD i Sy.zero)) 0 n o ∧ RIn iC w' oa n (asI o) ∧ Kept (fun _ => False) w w' := by
  have HL := hid hl
  have hn1 : (n : Int) ≤ 1466015503701 := by omega
  have s0 := r_nil iC 3 1 (St.nil w)
  have HS0 := hid s0
  have HH := hid (fun W (va : Option Addr) (vc wd : Nat) (O : List Nat) (kk : Kept (fun _ => False) w W) (ho : RIn iC W va n (asI O)) (hB : Blk (fun i => ptOf ((smS L).getD i Sy.zero)) n wd O) (h0 : 0 < wd) (h1 : wd < n) =>
    (rHalves_any (lc := lc) (oc := vc) (hl.kept kk) ho hB h0 h1 hn).mono (fun e w' (h : ∃ va vc O', e = Ending.returned (.slice va n vc) ∧ RIn iC w' va n (asI O') ∧ Blk (fun i => ptOf ((smS L).getD i Sy.zero)) n (2 * wd) O' ∧ Kept (fun _ => False) W w') => (show ∃ va vc O', e = Ending.returned (.slice va n vc) ∧ RIn iC w' va n (asI O') ∧ Blk (fun i => ptOf ((smS L).getD i Sy.zero)) n (2 * wd) O' ∧ Kept (fun _ => False) w w' from by
      obtain ⟨va, vc, O', h1, h2, h3, h4⟩ := h
      exact ⟨va, vc, O', h1, h2, h3, kk.trans h4 (fun _ _ f => f)⟩)))
  have HB1 := hid (blk_one (fun i => ptOf ((smS L).getD i Sy.zero)) n)
  generalize hf : (fun i => ptOf ((smS L).getD i Sy.zero)) = f at *
  clear hf hl hn s0
  go_enter Try.func11, Try.ntmps11
  go_upto_region 3 with fail
  go_loopw [3, 4] (fun v i wr => ∃ (j : Nat), i = .int .i64 j ∧ j ≤ n ∧ St w [lstR iC 3 1 v (asI (List.range j))] wr) (fun _ i _ => n - (intOf i).toNat)
  case atStart => exact ⟨0, rfl, Nat.zero_le _, HS0.out⟩
  case round =>
    clear HS0
    obtain ⟨j, rfl, hj, hst⟩ := hrel
    by_cases hlt : j < n
    · have hlt' : (j : Int) < (n : Int) := by omega
      have hj0 : (0 : Int) ≤ (j : Int) := by omega
      have HJ : Hid (j + 1 ≤ n ∧ n - (j + 1) < n - j) := hid ⟨by omega, by omega⟩
      have HSZ : Hid (((asI (List.range j)).length + 1) * 8 ≤ 140737488355328) := hid (by rw [asI_len, List.length_range]; omega)
      have t2 := hst.alloc (.cells #[.int .i64 (j : Int)] 3)
      have hrr := r_box (f := iC) (k := 1) (fun _ => rfl) 3 hst (j : Int) _ rfl
      have hbs := buildI1 wr (j : Int)
      have HT2 := hid t2
      have HRR := hid hrr
      clear t2 hrr hst hj hlt
      go_wp2_with (first | simp only [hbs] | (at_builtin; refine wpList_appR Try.rowI HT2.out rfl _ _ rfl rfl (some ⟨(wr).heap.size, 0, none⟩) 1 1 rfl HRR.out (fun e => by cases e) HSZ.out ?_; intro v' w' s7'; have HEND := hid s7'; clear s7'))
      go_roundw
      case rel => exact ⟨j + 1, by simp, HJ.out.1, by have := HEND.out; rw [List.range_succ, asI, List.map_append]; exact this⟩
      case measure => have := HJ.out.2; simp [intOf]; omega
    · have hlt' : ¬ (j : Int) < (n : Int) := by omega
      obtain rfl : j = n := by omega
      obtain ⟨va, vc, rfl⟩ := r_form hst 0 rfl rfl (fun _ => rfl)
      have hLL : (asI (List.range j)).length = j := by simp [asI_len]
      have HR := hid (st_rin hst 0 rfl rfl (f := iC) (fun _ => rfl))
      have HK := hid hst.same
      rw [hLL] at HR
      rw [hLL] at *
      clear hst hj hlt hLL
      go_upto_region 7 with fail
      go_loopw [3, 5] (fun v i wr => ∃ (wd vc : Nat) (va : Option Addr) (O : List Nat), v = .slice va j vc ∧ i = .int .i64 wd ∧ 0 < wd ∧ Blk f j wd O ∧ RIn iC wr va j (asI O) ∧ Kept (fun _ => False) w wr) (fun _ i _ => j - (intOf i).toNat)
      case atStart => exact ⟨1, vc, va, List.range j, rfl, rfl, by omega, HB1.out, HR.out, HK.out⟩
      case round =>
        clear HB1 HR HK
        obtain ⟨wd, vc, va, O, rfl, rfl, hw0, hB, hR, hK⟩ := hrel
        by_cases hlt : wd < j
        · have hlt2 : (wd : Int) < (j : Int) := by omega
          have hw1 : (0 : Int) < (wd : Int) := by omega
          have hH := HH.out _ va vc wd O hK hR hB hw0 hlt
          have HJ : Hid (0 < 2 * wd ∧ j - (2 * wd) < j - wd) := hid ⟨by omega, by omega⟩
          clear hw0 hlt hB hR hK
          go_wp2_with (go_at_call 26; refine hH.mono ?_; rintro e w2 ⟨va2, vc2, O2, rfl, hr, hb, hk⟩; have HR2 := hid hr; have HB2 := hid hb; have HK2 := hid hk; clear hr hb hk)
          go_roundw
          case rel => exact ⟨2 * wd, vc2, va2, O2, rfl, by simp, HJ.out.1, HB2.out, HR2.out, HK2.out⟩
          case measure => have := HJ.out.2; simp [intOf]; omega
        · have hlt2 : ¬ (wd : Int) < (j : Int) := by omega
          have HS : Hid (Srt f 0 j O) := hid (by
            by_cases h0 : 0 < j
            · exact blk_all hB (by omega) h0
            · have := hB.1
              obtain rfl : j = 0 := by omega
              obtain rfl := List.eq_nil_of_length_eq_zero this
              exact ⟨by simp, List.Pairwise.nil⟩)
          have HR := hid hR
          have HK := hid hK
          clear hw0 hlt hB hR hK
          go_wp2
          go_ret
          exact ⟨va, ⟨vc, rfl⟩, O, HS.out, HR.out, HK.out⟩
end Go.Proofs.Ytnmlnjljmikmpaa
