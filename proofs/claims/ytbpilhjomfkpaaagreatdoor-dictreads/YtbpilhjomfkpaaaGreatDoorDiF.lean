/- Package dict: Do. -/
import Derived.Test.YtbpilhjomfkpaaaGreatDoorDiE
namespace Go.Proofs.YtbpilhjomfkpaaaGreatDoor
open Go.RowKit
set_option linter.unusedVariables false
set_option linter.unusedSimpArgs false
attribute [local go_sem ↓] Go.wp_at_zero Go.wp_at_succ

def Rg (x : Int) : Prop := -9223372036854775808 ≤ x ∧ x ≤ 9223372036854775807
def okS (l : List Pr) (n : Int) (d : Dd) : Bool := decide (0 < roomS n) && (decide ((l.length : Int) ≤ n) && (risesP l && mayS d))
/-- How Do ends. -/
def DoE (l : List Pr) (n : Int) (d : Dd) (w : World) (e : Ending) (w' : World) : Prop :=
  if okS l n d = true then ∃ v t, e = .returned (.tuple #[v, t, .int .i64 0]) ∧ St w [ownI 2 1 t (doS l n d).2.length (xC (doS l n d).2), lstE v (doS l n d).1] w'
  else e = .returned (.tuple #[.slice none 0 0, .slice none 0 0, .int .i64 190]) ∧ Kept (fun _ => False) w w'
theorem take_new {l : List Pr} (h : Rises l) {j : Nat} (hj : j < l.length) : ∀ p ∈ (l.take j).reverse, p.1 ≠ (l.getD j (0, 0)).1 := by
  intro p hp e
  rw [List.mem_reverse] at hp
  obtain ⟨i, hi, rfl⟩ := List.getElem_of_mem hp
  rw [List.length_take] at hi
  have := List.pairwise_iff_getElem.1 h i j (by omega) hj (by omega)
  rw [List.getElem_take, List.getD_eq_getElem?_getD, List.getElem?_eq_getElem hj] at e
  simp only [Option.getD_some] at e
  omega
theorem take_rev {l : List Pr} {j : Nat} (hj : j < l.length) : (l.take (j + 1)).reverse = l.getD j (0, 0) :: (l.take j).reverse := by
  rw [List.take_succ_eq_append_getElem hj, List.reverse_append, List.getD_eq_getElem?_getD, List.getElem?_eq_getElem hj]
  rfl
theorem doS_len (l : List Pr) (n : Int) (d : Dd) : (doS l n d).1.length ≤ l.length + 1 := by
  have h1 : ∀ x v, (turnP l x v).length = l.length := fun x v => by simp [turnP]
  have h2 : ∀ x, (lackP l x).length ≤ l.length := fun x => List.length_filter_le _ _
  have h3 : ∀ p, (insP p l).length = l.length + 1 := fun p => by rw [(insP_perm p l).length_eq]; simp
  unfold doS
  split
  · simp
  · split
    · split
      · rw [h1]; omega
      · split
        · have := h2 d.x; simp only; omega
        · split
          · rw [h1]; omega
          · simp
    · split
      · split
        · simp
        · rw [h3]; omega
      · simp
set_option maxRecDepth 100000 in
set_option maxHeartbeats 8000000 in
theorem Do_any {w : World} {n : Int} {d : Dd} {la : Option Addr} {m lc : Nat} {l : List Pr} (hX : EIn w la m l) (hm63 : m ≤ 4611686018427387904) (hk : ∀ p ∈ l, Rg p.1) (hx : Rg d.x) : Calls Tryz.prog 22 #[.slice la m lc, .int .i64 n, d.val] w (DoE l n d w) := by
  have hml := hX.1
  have hR := fun W => Room_any n W
  have hB := fun W => smay_any d W
  have hdn := fun (b : Nat) (ls : List Pr) (R : List It) (W : World) (h : St w (mapV b ls :: R) W) (hp : ls.Perm l) (hm : mayS d = true) => done_any h hp n d hm hx
  obtain ⟨op, a, b, x, y⟩ := d
  have s1 := (St.nil w).box #[.int .i64 op, .int .i64 a, .int .i64 b, .int .i64 x, .int .i64 y] 45
  have HN : Hid (okS l n ⟨op, a, b, x, y⟩ = false → ∀ w', Kept (fun _ => False) w w' → DoE l n ⟨op, a, b, x, y⟩ w (.returned (.tuple #[.slice none 0 0, .slice none 0 0, .int .i64 190])) w') := hid (fun h w' k => by
    unfold DoE
    rw [if_neg (by rw [h]; decide)]
    exact ⟨rfl, k⟩)
  have HY : Hid (okS l n ⟨op, a, b, x, y⟩ = true → ∀ v t w' B R, St w (lstE v (doS l n ⟨op, a, b, x, y⟩).1 :: B :: ownI 2 1 t (doS l n ⟨op, a, b, x, y⟩).2.length (xC (doS l n ⟨op, a, b, x, y⟩).2) :: R) w' → DoE l n ⟨op, a, b, x, y⟩ w (.returned (.tuple #[v, t, .int .i64 0])) w') := hid (fun h v t w' B R s => by
    unfold DoE
    rw [if_pos h]
    refine ⟨v, t, rfl, ?_⟩
    have s2 : St w (lstE v (doS l n ⟨op, a, b, x, y⟩).1 :: ownI 2 1 t (doS l n ⟨op, a, b, x, y⟩).2.length (xC (doS l n ⟨op, a, b, x, y⟩).2) :: R) w' := (s.perm (List.Perm.swap _ _ _)).pop
    exact St.cut (A := [_, _]) (B := R) (s2.perm (List.Perm.swap _ _ _)))
  show Calls _ _ #[_, _, .agg #[.int .i64 op, .int .i64 a, .int .i64 b, .int .i64 x, .int .i64 y]] _ _
  have hB1 : ∀ W, Calls Tryz.prog 41 #[.agg #[.int .i64 op, .int .i64 a, .int .i64 b, .int .i64 x, .int .i64 y]] W fun e w' => e = .returned (.bool (mayS ⟨op, a, b, x, y⟩)) ∧ Kept (fun _ => False) W w' := hB
  clear hB
  generalize hw1 : w.alloc (.cells #[.int .i64 op, .int .i64 a, .int .i64 b, .int .i64 x, .int .i64 y] 45) = w1 at *
  generalize hM : w.heap.size = M at *
  have HK := hid s1.same
  have hR1 := hR w1
  clear hR
  by_cases h0 : 0 < roomS n
  · obtain ⟨hn1, hn2, hn3⟩ := roomS_pos h0
    rw [hn3] at hR1
    have t0 : ((1 + 3 * n) == 0) = false := by simp; omega
    by_cases h1 : (l.length : Int) ≤ n
    · have t1 : decide (n < (m : Int)) = false := by simp; omega
      have hri := rise_any la m lc l w1 (hX.kept HK.out) hm63
      have HS2 : Hid (∀ w2, Kept (fun _ => False) w1 w2 → St w [boxI M #[.int .i64 op, .int .i64 a, .int .i64 b, .int .i64 x, .int .i64 y] 45] w2) := hid (fun w2 k => s1.calm k)
      cases hr : risesP l with
      | false =>
        have hno := HN.out (by unfold okS; rw [hr]; simp)
        rw [hr] at hri
        generalize DoE l n ⟨op, a, b, x, y⟩ w = Q at *
        have HN2 := hid hno
        clear HN HY hdn hno s1 hX hml h0 hn3 h1 hr HS2 hk hx hB1
        go_enter Tryz.func22, Tryz.ntmps22
        go_wp2_with (first | simp only [hw1, hM] | (go_at_call 10; refine hR1.mono ?_; rintro e w1 ⟨rfl, rfl⟩) | (go_at_call 40; refine hri.mono ?_; rintro e w2 ⟨rfl, k2⟩))
        go_ret3
        exact HN2.out _ (HK.out.trans k2 (fun _ _ f => f))
      | true =>
        rw [hr] at hri
        have hrs := (rises_iff l).1 hr
        have HC : Hid (∀ W its, St w its W → boxI M #[.int .i64 op, .int .i64 a, .int .i64 b, .int .i64 x, .int .i64 y] 45 ∈ its → W.cell? ⟨M, 0, none⟩ = some (.int .i64 op) ∧ W.cell? ⟨M, 1, none⟩ = some (.int .i64 a) ∧ W.cell? ⟨M, 2, none⟩ = some (.int .i64 b) ∧ W.cell? ⟨M, 3, none⟩ = some (.int .i64 x) ∧ W.cell? ⟨M, 4, none⟩ = some (.int .i64 y)) := hid (fun W its hs hmem => by
          obtain ⟨i, hi, e⟩ := List.getElem_of_mem hmem
          have hi' : its[i]? = some (boxI M #[.int .i64 op, .int .i64 a, .int .i64 b, .int .i64 x, .int .i64 y] 45) := by rw [List.getElem?_eq_getElem hi, e]
          exact ⟨hs.cell i hi' 0, hs.cell i hi' 1, hs.cell i hi' 2, hs.cell i hi' 3, hs.cell i hi' 4⟩)
        have HB := hid hB1
        cases hmy : mayS ⟨op, a, b, x, y⟩ with
        | false =>
          have hno := HN.out (by unfold okS; rw [hmy]; simp)
          rw [hmy] at HB
          generalize DoE l n ⟨op, a, b, x, y⟩ w = Q at *
          have HN2 := hid hno
          clear HN HY hdn hno s1 hX hml h0 hn3 h1 hr hk hx hmy hB1 hrs
          go_enter Tryz.func22, Tryz.ntmps22
          go_wp2_with (first | simp only [hw1, hM] | (go_at_call 10; refine hR1.mono ?_; rintro e w1 ⟨rfl, rfl⟩) | (go_at_call 40; refine hri.mono ?_; rintro e w2 ⟨rfl, k2⟩; obtain ⟨d0, d1, d2, d3, d4⟩ := HC.out w2 _ (HS2.out w2 k2) (by simp); have hB2 := HB.out w2) | (go_at_call 41; refine hB2.mono ?_; rintro e w3 ⟨rfl, k3⟩))
          go_ret3
          exact HN2.out _ (HK.out.trans (k2.trans k3 (fun _ _ f => f)) (fun _ _ f => f))
        | true =>
          have hyes := hid (HY.out (by unfold okS; rw [hr, hmy]; simp [h0, h1]))
          have HD := hid (fun (b0 : Nat) (ls : List Pr) (R : List It) (W : World) (h : St w (mapV b0 ls :: R) W) (hp : ls.Perm l) => hdn b0 ls R W h hp hmy)
          rw [hmy] at HB
          have hdr := hid (doS_rises hrs n ⟨op, a, b, x, y⟩)
          have hdl : Hid ((doS l n ⟨op, a, b, x, y⟩).1.length ≤ 1000) := hid (by have := doS_len l n ⟨op, a, b, x, y⟩; omega)
          generalize DoE l n ⟨op, a, b, x, y⟩ w = Q at *
          have HX := hid hX
          have HRs := hid hrs
          have HKk := hid hk
          have hmm := @run_makeMap Tryz.prog
          have hm6 : (m : Int) ≤ 60 := by omega
          have HLn := hid hml
          clear HN HY hdn s1 hX h0 hn3 h1 hr hk hx hmy hB1 hrs hml
          go_enter Tryz.func22, Tryz.ntmps22
          go_wp2_with (first | simp only [hw1, hM] | (go_at_call 10; refine hR1.mono ?_; rintro e w1 ⟨rfl, rfl⟩) | (go_at_call 40; refine hri.mono ?_; rintro e w2 ⟨rfl, k2⟩; obtain ⟨d0, d1, d2, d3, d4⟩ := HC.out w2 _ (HS2.out w2 k2) (by simp); have hB2 := HB.out w2) | (go_at_call 41; refine hB2.mono ?_; rintro e w3 ⟨rfl, k3⟩))
          generalize hW3 : w3.alloc (.map #[] 0) = w4
          have s4 := (HS2.out w3 (k2.trans k3 (fun _ _ f => f))).newMap
          rw [hW3] at s4
          generalize w3.heap.size = B at *
          have HS4 := hid s4
          clear s4 hW3 k2 k3 d0 d1 d2 d3 d4 hB2 hri hR1 HB
          go_loopw [35] (fun i wr => ∃ j : Nat, i = .int .i64 j ∧ j ≤ m ∧ St w [mapV B (l.take j).reverse, boxI M #[.int .i64 op, .int .i64 a, .int .i64 b, .int .i64 x, .int .i64 y] 45] wr) (fun i _ => m - (intOf i).toNat)
          case atStart => exact ⟨0, rfl, Nat.zero_le _, HS4.out⟩
          case round =>
            obtain ⟨j, rfl, hj, hs⟩ := hrel
            by_cases hlt : j < m
            · have hjl : j < l.length := by rw [← HLn.out]; exact hlt
              obtain ⟨g, o, rfl⟩ := HX.out.addr (by omega)
              obtain ⟨e0, e1⟩ := (HX.out.kept hs.same).cells (j := j) hlt
              have hrg := HKk.out (l.getD j (0, 0)) (by rw [List.getD_eq_getElem?_getD, List.getElem?_eq_getElem hjl]; exact List.getElem_mem _)
              have hnew := take_new HRs.out hjl
              have htr := take_rev hjl
              have s5 := hs.box #[.int .i64 (l.getD j (0, 0)).1, .int .i64 (l.getD j (0, 0)).2] 41
              have HT := hid htr
              clear htr
              generalize l.getD j (0, 0) = kv at *
              obtain ⟨ky, vl⟩ := kv
              simp only at e0 e1 hrg hnew s5
              generalize hw5 : wr.alloc (.cells #[.int .i64 ky, .int .i64 vl] 41) = w5 at *
              generalize hN5 : wr.heap.size = N5 at *
              have s5' := s5.perm (List.Perm.swap _ _ _)
              have g0 : w5.cell? ⟨N5, 0, none⟩ = some (.int .i64 ky) := s5'.cell 1 rfl 0
              have g1 : w5.cell? ⟨N5, 1, none⟩ = some (.int .i64 vl) := s5'.cell 1 rfl 1
              obtain ⟨w6, hup, -, s6⟩ := storeV_new (P := Tryz.prog) (t := 78) (v := vl) s5' Tryz.underlying2 Tryz.underlying78 hrg hnew
              have HS6 := hid (e_drop1 s6)
              have t2 : (j : Int) < (m : Int) := by omega
              have t3 : (0 : Int) ≤ (j : Int) := by omega
              have HJ := hid hlt
              clear hs s5 s5' s6 hnew hrg HS4 hjl hlt hj
              go_wp2_with (first | simp only [hw5, hN5] | simp only [hup])
              go_roundw
              case rel => exact ⟨j + 1, by push_cast; rfl, HJ.out, by rw [HT.out]; exact HS6.out⟩
              case measure => have := HJ.out; simp [intOf]; omega
            · obtain rfl : j = m := by omega
              have hta : l.take j = l := List.take_of_length_le (by rw [← HLn.out]; exact Nat.le_refl _)
              rw [hta] at hs
              obtain ⟨d0, d1, d2, d3, d4⟩ := HC.out wr _ hs (by simp)
              have hd := HD.out B _ _ wr hs (List.reverse_perm l)
              have HT : Hid (∀ e w5, TellE w [boxI M #[.int .i64 op, .int .i64 a, .int .i64 b, .int .i64 x, .int .i64 y] 45] B (doS l n ⟨op, a, b, x, y⟩).1 (doS l n ⟨op, a, b, x, y⟩).2 e w5 → ∃ t, e = .returned t ∧ Calls Tryz.prog 37 #[.map (some B)] w5 fun e' w' => ∃ v, e' = .returned v ∧ Q (.returned (.tuple #[v, t, .int .i64 0])) w') := hid (fun e w5 hh => by
                obtain ⟨t, ls, he, hpp, s⟩ := hh
                refine ⟨t, he, ?_⟩
                refine (inOrder_any (s.perm (List.Perm.swap _ _ _)) hdr.out hpp.symm (by rw [hpp.length_eq]; exact hdl.out)).mono ?_
                rintro e' w' ⟨v, rfl, s7⟩
                exact ⟨v, rfl, hyes.out v t w' _ _ s7⟩)
              generalize TellE w [boxI M #[.int .i64 op, .int .i64 a, .int .i64 b, .int .i64 x, .int .i64 y] 45] B (doS l n ⟨op, a, b, x, y⟩).1 (doS l n ⟨op, a, b, x, y⟩).2 = TE at *
              have hd2 : Calls Tryz.prog 42 #[.map (some B), .int .i64 n, .agg #[.int .i64 op, .int .i64 a, .int .i64 b, .int .i64 x, .int .i64 y]] wr TE := hd
              clear hs hd HD hta hyes
              go_wp2_with (first | (go_at_call 42; refine hd2.mono ?_; intro e w5 hte; obtain ⟨t5, rfl, hio⟩ := HT.out e w5 hte; clear hte) | (go_at_call 37; refine hio.mono ?_; rintro e w6 ⟨v6, rfl, hQ6⟩; have HQ6 := hid hQ6; clear hQ6))
              go_ret3
              exact HQ6.out
    · have t1 : decide (n < (m : Int)) = true := by simp; omega
      have hno := HN.out (by unfold okS; simp [h1])
      generalize DoE l n ⟨op, a, b, x, y⟩ w = Q at *
      have HN2 := hid hno
      clear HN HY hdn hno s1 hX hml h0 hn3 h1 hk hx hB1
      go_enter Tryz.func22, Tryz.ntmps22
      go_wp2_with (first | simp only [hw1, hM] | (go_at_call 10; refine hR1.mono ?_; rintro e w1 ⟨rfl, rfl⟩))
      go_ret3
      exact HN2.out _ HK.out
  · rw [roomS_zero h0] at hR1
    have hno := HN.out (by unfold okS; simp [h0])
    generalize DoE l n ⟨op, a, b, x, y⟩ w = Q at *
    have HN2 := hid hno
    clear HN HY hdn hno s1 hX hml h0 hk hx hB1
    go_enter Tryz.func22, Tryz.ntmps22
    go_wp2_with (first | simp only [hw1, hM] | (go_at_call 10; refine hR1.mono ?_; rintro e w1 ⟨rfl, rfl⟩))
    go_ret3
    exact HN2.out _ HK.out
end Go.Proofs.YtbpilhjomfkpaaaGreatDoor
