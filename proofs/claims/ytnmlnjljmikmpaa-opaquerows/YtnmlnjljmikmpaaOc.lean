/- Package opaque: changes, pointOf, Order. -/
import Derived.Test.YtnmlnjljmikmpaaOb
import Derived.Test.YtnmlnjljmikmpaaShl
namespace Go.Proofs.Ytnmlnjljmikmpaa
open Go.RowKit Go.Shelf
set_option linter.unusedVariables false
set_option linter.unusedSimpArgs false
attribute [local go_sem ↓] Go.wp_at_zero Go.wp_at_succ

/-- A list of stories in memory, the moves of each too. -/
def LIn (w : World) (la : Option Addr) (n : Nat) (L : List Sm) : Prop := RIn sC w la n L ∧ ∀ m ∈ L, SIn w m
theorem SIn.kept {w w' : World} {m : Sm} (h : SIn w m) (k : Kept (fun _ => False) w w') : SIn w' m := ⟨h.1.kept k, h.2⟩
theorem LIn.kept {w w' : World} {la : Option Addr} {n : Nat} {L : List Sm} (h : LIn w la n L) (k : Kept (fun _ => False) w w') : LIn w' la n L := ⟨h.1.kept k, fun m hm => (h.2 m hm).kept k⟩
theorem changesP_any (m : Mv) (w : World) : Calls Try.prog 59 #[mvV m] w fun e w' => e = .returned (.bool m.puts) ∧ Kept (fun _ => False) w w' := by
  obtain ⟨a, b, c, d, e, f⟩ := m
  unfold mvV Mv.puts
  simp only
  go_enter Try.func59, Try.ntmps59
  go_wp2
  go_ret
  exact ⟨rfl, kept_alloc _ _⟩
set_option maxRecDepth 100000 in
set_option maxHeartbeats 4000000 in
theorem indexC_any {w : World} {la : Option Addr} {n lc : Nat} {ms : List Mv} (hl : RIn mC w la n ms) (hn : n ≤ 2932031007317) :
    Calls Try.prog 74 #[.slice la n lc, .func (.func 59) #[] #[]] w fun e w' => ∃ i : Int, e = .returned (.int .i64 i) ∧ decide (0 ≤ i) = ms.any Mv.puts ∧ Kept (fun _ => False) w w' := by
  have HQ : Hid (∀ (i : Int) w', decide (0 ≤ i) = ms.any Mv.puts → Kept (fun _ => False) w w' → (fun e w' => ∃ i : Int, e = .returned (.int .i64 i) ∧ decide (0 ≤ i) = ms.any Mv.puts ∧ Kept (fun _ => False) w w') (Ending.returned (.int .i64 i)) w') := hid (fun i w' h1 h2 => ⟨i, rfl, h1, h2⟩)
  generalize (fun (e : Ending) (w' : World) => ∃ i : Int, e = .returned (.int .i64 i) ∧ decide (0 ≤ i) = ms.any Mv.puts ∧ Kept (fun _ => False) w w') = Q at *
  have HL := hid hl
  have HLN := hid hl.1
  have hn1 : (n : Int) ≤ 2932031007317 := by omega
  clear hl hn
  go_enter Try.func74, Try.ntmps74
  go_wp2
  go_loopw [8] (fun i wr => ∃ (j : Nat), i = .int .i64 j ∧ j ≤ n ∧ (ms.take j).any Mv.puts = false ∧ Kept (fun _ => False) w wr) (fun i _ => n - (intOf i).toNat)
  case atStart => exact ⟨0, rfl, Nat.zero_le _, rfl, Kept.refl _ _⟩
  case round =>
    obtain ⟨j, rfl, hj, ha, hk⟩ := hrel
    by_cases hlt : j < n
    · have hlt' : (j : Int) < (n : Int) := by omega
      have hj0 : (0 : Int) ≤ (j : Int) := by omega
      have hr := HL.out.kept hk
      obtain ⟨g, off, rfl⟩ := hr.addr (by omega)
      obtain ⟨x, hx⟩ : ∃ x, ms[j]? = some x := ⟨_, List.getElem?_eq_getElem (by have := HLN.out; omega)⟩
      have q := fun i u hu => hr.at (k := 6) (fun _ => rfl) hx i u hu
      have q0 := q 0 _ rfl
      have q1 := q 1 _ rfl
      have q2 := q 2 _ rfl
      have q3 := q 3 _ rfl
      have q4 := q 4 _ rfl
      have q5 := q 5 _ rfl
      rw [Nat.add_zero] at q0
      have hP := changesP_any x wr
      have htk := take_snoc hx
      obtain ⟨r, hsp⟩ := take_split hx
      cases hp : Mv.puts x with
      | false =>
        rw [hp] at hP
        have HR : Hid ((ms.take (j + 1)).any Mv.puts = false) := hid (by rw [htk, List.any_append, ha]; simp [hp])
        have HJ : Hid (j + 1 ≤ n ∧ n - (j + 1) < n - j) := hid ⟨by omega, by omega⟩
        have HK := hid hk
        clear q hr hx htk hsp hp ha hk HL HLN hlt
        go_wp2_with (go_at_call 59; refine hP.mono ?_; rintro e w2 ⟨rfl, hk2⟩; have HK2 := hid (HK.out.trans hk2 (fun _ _ f => f)); clear hk2)
        go_roundw
        case rel => exact ⟨j + 1, by simp, HJ.out.1, HR.out, HK2.out⟩
        case measure => have := HJ.out.2; simp [intOf]; omega
      | true =>
        rw [hp] at hP
        have HR : Hid (∀ w', Kept (fun _ => False) w w' → Q (Ending.returned (.int .i64 j)) w') := hid (fun w' h => HQ.out _ _ (by rw [hsp, List.any_append, List.any_cons, hp]; simp) h)
        have HK := hid hk
        clear q hr hx htk hsp hp ha hk HL HLN hlt HQ
        go_wp2_with (go_at_call 59; refine hP.mono ?_; rintro e w2 ⟨rfl, hk2⟩; have HK2 := hid (HK.out.trans hk2 (fun _ _ f => f)); clear hk2)
        exact HR.out _ HK2.out
    · have hlt' : ¬ (j : Int) < (n : Int) := by omega
      have e : ms.take j = ms := List.take_of_length_le (by have := HLN.out; omega)
      rw [e] at ha
      have HR := hid (HQ.out (-1) wr (by rw [ha]; rfl) hk)
      clear ha hk HQ HL HLN e
      go_wp2
      exact HR.out
theorem containsC_any {w : World} {la : Option Addr} {n lc : Nat} {ms : List Mv} (hl : RIn mC w la n ms) (hn : n ≤ 2932031007317) :
    Calls Try.prog 55 #[.slice la n lc, .func (.func 59) #[] #[]] w fun e w' => e = .returned (.bool (ms.any Mv.puts)) ∧ Kept (fun _ => False) w w' := by
  have h := indexC_any (lc := lc) hl hn
  generalize ms.any Mv.puts = b at *
  clear hl
  go_enter Try.func55, Try.ntmps55
  go_wp2_with (go_at_call 74; refine h.mono ?_; rintro e w2 ⟨i, rfl, hi, hk2⟩; have HK2 := hid hk2; have HI := hid hi; clear hk2 hi)
  go_ret
  exact ⟨by rw [← HI.out]; rfl, HK2.out⟩
theorem point_one {w : World} {m : Sm} (hm : SIn w m) : Calls Try.prog 42 #[syV m] w fun e w' => e = .returned (.tuple #[.int .i64 (pointM m.s).1, .int .i64 (pointM m.s).2]) ∧ Kept (fun _ => False) w w' := by
  by_cases h : m.s.ft = 1 ∧ m.s.ms.any Mv.puts = true
  · exact point_yes m hm h
  · exact point_no m hm h
set_option maxRecDepth 100000 in
set_option maxHeartbeats 4000000 in
theorem changes_any {w : World} (m : Sm) (hm : SIn w m) : Calls Try.prog 43 #[syV m] w fun e w' => e = .returned (.bool (writerM m.s)) ∧ Kept (fun _ => False) w w' := by
  obtain ⟨hl, hb, -⟩ := hm
  obtain ⟨⟨z0, z1, z2, z3, z4, z5, z6, z7, z8, ms⟩, la, lc⟩ := m
  simp only at hl hb
  have a1 := (St.nil w).box #[.int .i64 z0, .int .i64 z1, .int .i64 z2, .int .i64 z3, .int .i64 z4, .int .i64 z5, .int .i64 z6, .int .i64 z7, .int .i64 z8, .slice la ms.length lc] 44
  have hk1 := kept_alloc w (.cells #[.int .i64 z0, .int .i64 z1, .int .i64 z2, .int .i64 z3, .int .i64 z4, .int .i64 z5, .int .i64 z6, .int .i64 z7, .int .i64 z8, .slice la ms.length lc] 44)
  unfold syV writerM
  simp only
  generalize hw1 : w.alloc (.cells #[.int .i64 z0, .int .i64 z1, .int .i64 z2, .int .i64 z3, .int .i64 z4, .int .i64 z5, .int .i64 z6, .int .i64 z7, .int .i64 z8, .slice la ms.length lc] 44) = w1 at *
  generalize hE : w.heap.size = E at *
  have c4 := a1.cell 0 rfl 4
  have c9 := a1.cell 0 rfl 9
  have hcw := containsC_any (lc := lc) (hl.kept hk1) hb
  generalize ms.any Mv.puts = b at *
  have HK1 := hid hk1
  clear hl a1 hk1
  by_cases h4 : z4 = 1
  · subst h4
    go_enter Try.func43, Try.ntmps43
    go_wp2_with (first | simp only [hw1, hE] | (go_at_call 55; refine hcw.mono ?_; rintro e w2 ⟨rfl, hk2⟩; have HK2 := hid hk2; clear hk2))
    go_ret
    exact ⟨by simp, HK1.out.trans HK2.out (fun _ _ f => f)⟩
  · have t4 : (z4 == 1) = false := by simpa using h4
    rw [t4]
    clear h4
    go_enter Try.func43, Try.ntmps43
    go_wp2_with (first | simp only [hw1, hE])
    go_ret
    exact ⟨by simp, HK1.out⟩
set_option maxRecDepth 100000 in
set_option maxHeartbeats 4000000 in
theorem pointOf_any {w : World} (m : Sm) (hm : SIn w m) : Calls Try.prog 20 #[syV m] w fun e w' => e = .returned (ptV (ptOf m.s)) ∧ Kept (fun _ => False) w w' := by
  have hp := fun W (k : Kept (fun _ => False) w W) => point_one (m := m) (hm.kept k)
  have hc := fun W (k : Kept (fun _ => False) w W) => changes_any m (hm.kept k)
  unfold ptOf ptV
  simp only
  clear hm
  generalize writerM m.s = b at *
  generalize (pointM m.s).1 = x at *
  generalize (pointM m.s).2 = y at *
  obtain ⟨⟨z0, z1, z2, z3, z4, z5, z6, z7, z8, ms⟩, la, lc⟩ := m
  unfold syV at *
  simp only at *
  have a1 := ((St.nil w).box #[.int .i64 z0, .int .i64 z1, .int .i64 z2, .int .i64 z3, .int .i64 z4, .int .i64 z5, .int .i64 z6, .int .i64 z7, .int .i64 z8, .slice la ms.length lc] 44).box #[.int .i64 0, .int .i64 0, .bool false] 51
  rw [alloc_size] at a1
  generalize hw1 : (w.alloc (.cells #[.int .i64 z0, .int .i64 z1, .int .i64 z2, .int .i64 z3, .int .i64 z4, .int .i64 z5, .int .i64 z6, .int .i64 z7, .int .i64 z8, .slice la ms.length lc] 44)).alloc (.cells #[.int .i64 0, .int .i64 0, .bool false] 51) = w1 at *
  generalize hE : w.heap.size = E at *
  have CE : Hid (∀ W, Kept (fun _ => False) w1 W → W.cell? ⟨E, 0, none⟩ = some (.int .i64 z0) ∧ W.cell? ⟨E, 1, none⟩ = some (.int .i64 z1) ∧ W.cell? ⟨E, 2, none⟩ = some (.int .i64 z2) ∧ W.cell? ⟨E, 3, none⟩ = some (.int .i64 z3) ∧ W.cell? ⟨E, 4, none⟩ = some (.int .i64 z4) ∧ W.cell? ⟨E, 5, none⟩ = some (.int .i64 z5) ∧ W.cell? ⟨E, 6, none⟩ = some (.int .i64 z6) ∧ W.cell? ⟨E, 7, none⟩ = some (.int .i64 z7) ∧ W.cell? ⟨E, 8, none⟩ = some (.int .i64 z8) ∧ W.cell? ⟨E, 9, none⟩ = some (.slice la ms.length lc)) := hid (fun W hW => by
    have hs := a1.calm hW
    exact ⟨hs.cell 1 rfl 0, hs.cell 1 rfl 1, hs.cell 1 rfl 2, hs.cell 1 rfl 3, hs.cell 1 rfl 4, hs.cell 1 rfl 5, hs.cell 1 rfl 6, hs.cell 1 rfl 7, hs.cell 1 rfl 8, hs.cell 1 rfl 9⟩)
  obtain ⟨c0, c1, c2, c3, c4, c5, c6, c7, c8, c9⟩ := CE.out _ (Kept.refl _ w1)
  have HA := hid a1
  have h1 := hp _ a1.same
  have HC := hid hc
  clear hp hc a1
  go_enter Try.func20, Try.ntmps20
  go_upto_region 2 with (first | simp only [hw1, hE] | (go_at_call 42; refine h1.mono ?_; rintro e w2 ⟨rfl, hk2⟩; have HK2 := hid hk2; clear hk2))
  clear c0 c1 c2 c3 c4 c5 c6 c7 c8 c9 h1
  obtain ⟨c0, c1, c2, c3, c4, c5, c6, c7, c8, c9⟩ := CE.out _ HK2.out
  have h2 := HC.out _ (HA.out.calm HK2.out).same
  have HA2 : Hid (∀ w3, Kept (fun _ => False) w2 w3 → ((w3.cell? ⟨E + 1, 0, none⟩ = some (.int .i64 0) ∧ w3.cell? ⟨E + 1, 1, none⟩ = some (.int .i64 0) ∧ w3.cell? ⟨E + 1, 2, none⟩ = some (.bool false)) ∧ (w3.frozen? ⟨E + 1, 0, none⟩ = false ∧ w3.frozen? ⟨E + 1, 1, none⟩ = false ∧ w3.frozen? ⟨E + 1, 2, none⟩ = false)) ∧ (let W := ((w3.setCell ⟨E + 1, 0, none⟩ (.int .i64 x)).setCell ⟨E + 1, 1, none⟩ (.int .i64 y)).setCell ⟨E + 1, 2, none⟩ (.bool b); (W.cell? ⟨E + 1, 0, none⟩ = some (.int .i64 x) ∧ W.cell? ⟨E + 1, 1, none⟩ = some (.int .i64 y) ∧ W.cell? ⟨E + 1, 2, none⟩ = some (.bool b)) ∧ Kept (fun _ => False) w W)) := hid (fun w3 hk => by
    have s := HA.out.calm (HK2.out.trans hk (fun _ _ f => f))
    have s1 := ((s.write 0 rfl 0 (.int .i64 x)).write 0 rfl 1 (.int .i64 y)).write 0 rfl 2 (.bool b)
    exact ⟨⟨⟨s.cell 0 rfl 0, s.cell 0 rfl 1, s.cell 0 rfl 2⟩, ⟨s.frozen 0 rfl 0, s.frozen 0 rfl 1, s.frozen 0 rfl 2⟩⟩, ⟨s1.cell 0 rfl 0, s1.cell 0 rfl 1, s1.cell 0 rfl 2⟩, s1.same⟩)
  clear HC CE
  go_wp2_with (first | (go_at_call 43; refine h2.mono ?_; rintro e w3 ⟨rfl, hk3⟩; obtain ⟨⟨⟨d0, d1, d2⟩, f0, f1, f2⟩, HE⟩ := HA2.out _ hk3; obtain ⟨⟨e0, e1, e2⟩, hk⟩ := HE; have HK := hid hk; clear hk3 hk HA2))
  refine bodyPost_ret (v := ptV ⟨x, y, b⟩) ?_ rfl ⟨rfl, HK.out⟩
  simp [results, Try.f20, go_sem, e0, e1, e2]
end Go.Proofs.Ytnmlnjljmikmpaa
