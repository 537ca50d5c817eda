/- Begun, others, fitted. The law's fitted. -/
import Derived.Test.YtdfefjalamohjaaGreatDoorOwG
import Derived.Test.YtdfefjalamohjaaGreatDoorRnQ
import Derived.Test.YtdfefjalamohjaaGreatDoorCpD
import Derived.Deep.CutBlock
import Derived.Deep.RegionHeld3
import Derived.Test.YtdfefjalamohjaaGreatDoorRrB
namespace Go.Proofs.YtdfefjalamohjaaGreatDoor
open Go.RowKit
set_option linter.unusedVariables false
set_option linter.unusedSimpArgs false
attribute [local go_sem ↓] Go.wp_at_zero Go.wp_at_succ

/-- A list in memory, with its capacity. -/
def XV (w : World) (va : Option Addr) (n vc : Nat) (zs : List Int) : Prop := XIn w va n zs ∧ (va = none → n = 0 ∧ vc = 0) ∧ n ≤ vc
theorem XV.kept {w w' : World} {va : Option Addr} {n vc : Nat} {zs : List Int} (h : XV w va n vc zs) (k : Kept (fun _ => False) w w') : XV w' va n vc zs := ⟨h.1.kept k, h.2⟩
theorem xv_own {w : World} {v : Value} {zs : List Int} (h : w.ownsRow 0 2 1 v zs.length (xC zs)) : ∃ va vc, v = .slice va zs.length vc ∧ XV w va zs.length vc zs := by
  obtain ⟨va, vc, e, hx, hc, hn⟩ := own_xin h
  exact ⟨va, vc, e, hx, hn, hc⟩
/-- The document's Do, what it answers by itself. -/
def rDoX (l : List Int) (n : Int) (d : Dd) (w : World) (e : Ending) (w' : World) : Prop :=
  if okS l n d = true then ∃ va vc ta tc, e = .returned (.tuple #[.slice va (doS l n d).1.length vc, .slice ta (doS l n d).2.length tc, .bool true]) ∧ XV w' va (doS l n d).1.length vc (doS l n d).1 ∧ XV w' ta (doS l n d).2.length tc (doS l n d).2 ∧ Kept (fun _ => False) w w'
  else e = .returned (.tuple #[.slice none 0 0, .slice none 0 0, .bool false]) ∧ Kept (fun _ => False) w w'
theorem rDo_xv {l : List Int} {n : Int} {d : Dd} {w : World} {e : Ending} {w' : World} (h : rDoE l n d w e w') : rDoX l n d w e w' := by
  unfold rDoE at h
  unfold rDoX
  split
  · rename_i hk
    rw [if_pos hk] at h
    obtain ⟨v, t, rfl, s⟩ := h
    obtain ⟨ta, tc, rfl, ht⟩ := xv_own (show w'.ownsRow 0 2 1 t (doS l n d).2.length (xC (doS l n d).2) from s.get 0 rfl)
    obtain ⟨va, vc, rfl, hv⟩ := xv_own (show w'.ownsRow 0 2 1 v (doS l n d).1.length (xC (doS l n d).1) from s.get 1 rfl)
    exact ⟨va, vc, ta, tc, rfl, hv, ht, s.same⟩
  · rename_i hk
    rw [if_neg hk] at h
    exact h
def V0 (c s : Value) : OwV := ⟨c, s, .slice none 0 0, .slice none 0 0, .slice none 0 0, [.slice none 0 0, .int .i64 0, .slice none 0 0, .int .i64 0, .int .i64 0, .int .i64 0, .int .i64 0, .int .i64 0, .int .i64 0, .int .i64 0, .int .i64 0]⟩
def lc8 (l0 l1 l2 l3 l4 l5 l6 l7 : Int) : List Int := [l0, l1, l2, l3, l4, l5, l6, l7]
theorem nil_int {o w : World} {its : List It} (h : St o its w) : St o (ownI 3 1 (.slice none 0 0) 0 (xC []) :: its) w := h.own (Kept.refl _ _) (World.ownsRow_nil _ _ _ _)
theorem begun_at {w W wB : World} {cs : List Int} {m : Nat} (hm : m = cs.length) {vA vB : Value} {l0 l1 l2 l3 l4 l5 l6 l7 : Int} (k : Kept (fun _ => False) w W) (s : St W [ownI 2 1 vB 2 (xC [7, -7]), ownI 2 1 vA m (xC cs)] wB) :
    OwAt w wB.heap.size (V0 vA vB) (owB cs (lc8 l0 l1 l2 l3 l4 l5 l6 l7) 0) [] (wB.alloc (.cells (owL (V0 vA vB) (owB cs (lc8 l0 l1 l2 l3 l4 l5 l6 l7) 0)).toArray 64)) := by
  subst hm
  refine ⟨?_, rfl, rfl⟩
  refine St.box ?_ _ _
  have s1 := nil_int (lst_nil (lst_nil (s.base k)))
  exact s1.perm ((List.perm_append_comm (l₁ := [_, _, _]) (l₂ := [_, _])).trans (List.Perm.cons _ (List.Perm.cons _ ((List.Perm.swap _ _ [_]).trans ((List.Perm.swap _ _ []).cons _)))))
set_option maxRecDepth 100000 in
set_option maxHeartbeats 4000000 in
theorem Begun_any {w : World} {ca sa : Option Addr} {m cc sc : Nat} {cs : List Int} (hX : XIn w ca m cs) (hS : XIn w sa 2 [7, -7]) (hm : m ≤ 256) (l0 l1 l2 l3 l4 l5 l6 l7 : Int) :
    Calls Tryz.prog 28 #[.slice ca m cc, .slice sa 2 sc, .agg #[.int .i64 l0, .int .i64 l1, .int .i64 l2, .int .i64 l3, .int .i64 l4, .int .i64 l5, .int .i64 l6, .int .i64 l7]] w fun e w' => ∃ X V, e = .returned (.pointer (some ⟨X, 0, none⟩)) ∧ OwAt w X V (owB cs (lc8 l0 l1 l2 l3 l4 l5 l6 l7) 0) [] w' := by
  have s1 := (St.nil w).box #[.int .i64 l0, .int .i64 l1, .int .i64 l2, .int .i64 l3, .int .i64 l4, .int .i64 l5, .int .i64 l6, .int .i64 l7] 59
  have hml := hX.1
  generalize hw1 : w.alloc (.cells #[.int .i64 l0, .int .i64 l1, .int .i64 l2, .int .i64 l3, .int .i64 l4, .int .i64 l5, .int .i64 l6, .int .i64 l7] 59) = w1 at *
  generalize hM : w.heap.size = M at *
  have HA := hid (fun (W : World) (k : Kept (fun _ => False) w W) => Copied_any ca m cc cs W (hX.kept k) (by omega))
  have HB := hid (fun (W : World) (k : Kept (fun _ => False) w W) => Copied_any sa 2 sc [7, -7] W (hS.kept k) (by omega))
  have HC : Hid (∀ W, Kept (fun _ => False) w1 W → W.cell? ⟨M, 0, none⟩ = some (.int .i64 l0) ∧ W.cell? ⟨M, 1, none⟩ = some (.int .i64 l1) ∧ W.cell? ⟨M, 2, none⟩ = some (.int .i64 l2) ∧ W.cell? ⟨M, 3, none⟩ = some (.int .i64 l3) ∧ W.cell? ⟨M, 4, none⟩ = some (.int .i64 l4) ∧ W.cell? ⟨M, 5, none⟩ = some (.int .i64 l5) ∧ W.cell? ⟨M, 6, none⟩ = some (.int .i64 l6) ∧ W.cell? ⟨M, 7, none⟩ = some (.int .i64 l7)) := hid (fun W k => ⟨(s1.calm k).cell 0 rfl 0, (s1.calm k).cell 0 rfl 1, (s1.calm k).cell 0 rfl 2, (s1.calm k).cell 0 rfl 3, (s1.calm k).cell 0 rfl 4, (s1.calm k).cell 0 rfl 5, (s1.calm k).cell 0 rfl 6, (s1.calm k).cell 0 rfl 7⟩)
  have HT : Hid (∀ W, Kept (fun _ => False) w1 W → Kept (fun _ => False) w W) := hid (fun W k => s1.same.trans k (fun _ _ f => f))
  have RF := hid (Kept.refl (fun _ => False) w1)
  have HML := hid hml
  clear hX hS s1 hml
  go_enter Tryz.func28, Tryz.ntmps28
  go_upto_region 1 with (simp only [hw1, hM])
  go_region_held3 (fun W => W.cell? ⟨M, 0, none⟩ = some (.int .i64 l0) ∧ W.cell? ⟨M, 1, none⟩ = some (.int .i64 l1) ∧ W.cell? ⟨M, 2, none⟩ = some (.int .i64 l2) ∧ W.cell? ⟨M, 3, none⟩ = some (.int .i64 l3) ∧ W.cell? ⟨M, 4, none⟩ = some (.int .i64 l4) ∧ W.cell? ⟨M, 5, none⟩ = some (.int .i64 l5) ∧ W.cell? ⟨M, 6, none⟩ = some (.int .i64 l6) ∧ W.cell? ⟨M, 7, none⟩ = some (.int .i64 l7)) (first | exact HC.out _ RF.out.drew | exact HC.out _ kB | exact HC.out _ kA | exact HC.out _ (kB.alloc _) | exact HC.out _ (kA.alloc _)) (first
    | (go_at_call 16; with_reducible refine (HA.out w1.drew (HT.out _ RF.out.drew)).mono ?_; rintro e wA ⟨vA, rfl, sA⟩; obtain ⟨aA, cA, rfl⟩ := own_slice (show wA.ownsRow 0 2 1 vA m (xC cs) from sA.get 0 rfl); have kA := RF.out.drew.trans sA.same (fun _ _ f => f))
    | (go_at_call 16; with_reducible refine (HB.out w1.drew (HT.out _ RF.out.drew)).mono ?_; rintro e wB ⟨vB, rfl, sB⟩; obtain ⟨aB, cB, rfl⟩ := own_slice (show wB.ownsRow 0 2 1 vB 2 (xC [7, -7]) from sB.get 0 rfl); have kB := RF.out.drew.trans sB.same (fun _ _ f => f))
    | (go_at_call 16; with_reducible refine (HB.out wA (HT.out _ kA)).mono ?_; rintro e wB ⟨vB, rfl, sB⟩; obtain ⟨aB, cB, rfl⟩ := own_slice (show wB.ownsRow 0 2 1 vB 2 (xC [7, -7]) from sB.get 0 rfl); have kB := kA.trans sB.same (fun _ _ f => f))
    | (go_at_call 16; with_reducible refine (HA.out wB (HT.out _ kB)).mono ?_; rintro e wA ⟨vA, rfl, sA⟩; obtain ⟨aA, cA, rfl⟩ := own_slice (show wA.ownsRow 0 2 1 vA m (xC cs) from sA.get 0 rfl); have kA := kB.trans sA.same (fun _ _ f => f)))
  all_goals go_wp2
  all_goals go_ret
  all_goals first
    | exact ⟨_, _, rfl, begun_at HML.out (HT.out _ RF.out.drew) (sA.join sB)⟩
    | exact ⟨_, _, rfl, begun_at HML.out (HT.out _ RF.out.drew) ((sB.join sA).perm (List.Perm.swap _ _ _))⟩
set_option maxRecDepth 100000 in
set_option maxHeartbeats 4000000 in
theorem others_any {w : World} {ca cb : Option Addr} {m ka kb : Nat} {cs cs' : List Int} (hA : XIn w ca m cs') (hB : XIn w cb m cs) (b n : Nat) (hS : Same cs cs' b n) (hm : m ≤ 256) (hb : b + (3 + 2 * n) ≤ 256) :
    Calls Tryz.prog 30 #[.slice ca m ka, .slice cb m kb, .int .i64 b, .int .i64 (3 + 2 * (n : Int))] w fun e w' => e = .returned (.bool true) ∧ Kept (fun _ => False) w w' := by
  have HA := hid hA
  have HB := hid hB
  have HSm := hid hS
  have t0 : ((m : Int) != (m : Int)) = false := by simp
  clear hA hB hS
  go_enter Tryz.func30, Tryz.ntmps30
  go_wp2
  go_loopw [9] (fun i wr => ∃ j : Nat, i = .int .i64 j ∧ j ≤ m ∧ Kept (fun _ => False) w wr) (fun i _ => m - (intOf i).toNat)
  case atStart => exact ⟨0, rfl, Nat.zero_le _, Kept.refl _ _⟩
  case round =>
    obtain ⟨j, rfl, hj, hk⟩ := hrel
    by_cases hlt : j < m
    · obtain ⟨ga, oa, rfl⟩ := HA.out.addr (by omega)
      obtain ⟨gb, ob, rfl⟩ := HB.out.addr (by omega)
      have x0 := (HA.out.kept hk.drew).cell hlt
      have y0 := (HB.out.kept hk.drew).cell hlt
      have h0 : (0 : Int) ≤ (j : Int) := Int.natCast_nonneg _
      have h1 : (j : Int) < (m : Int) := by omega
      have hw : IntKind.i64.wrap ((b : Int) + (3 + 2 * (n : Int))) = (b : Int) + (3 + 2 * (n : Int)) := by rw [IntKind.wrap_i64]; omega
      have HJ := hid hlt
      by_cases hin : b ≤ j ∧ j < b + (3 + 2 * n)
      · have q1 : decide ((j : Int) < (b : Int)) = false := decide_eq_false (by omega)
        have q1' : decide (j < b) = false := decide_eq_false (by omega)
        have q2 : decide ((b : Int) + (3 + 2 * (n : Int)) ≤ (j : Int)) = false := decide_eq_false (by omega)
        generalize cs'.getD j 0 = x at *
        generalize cs.getD j 0 = y at *
        clear hin hj hlt
        cases hv : (x != y) with
        | true =>
          go_upto_region 6 with fail
          go_region
          all_goals go_wp2
          all_goals go_roundw
          all_goals first
            | exact ⟨j + 1, by simp, by have := HJ.out; omega, hk.drew⟩
            | (have := HJ.out; simp [intOf]; omega)
        | false =>
          go_upto_region 6 with fail
          go_region
          all_goals go_wp2
          all_goals go_roundw
          all_goals first
            | exact ⟨j + 1, by simp, by have := HJ.out; omega, hk.drew⟩
            | (have := HJ.out; simp [intOf]; omega)
      · have e := HSm.out.2 j (by omega)
        rw [e] at x0
        generalize cs.getD j 0 = y at *
        have hv : (y != y) = false := by simp
        clear hin hj hlt e
        go_upto_region 6 with fail
        go_region
        all_goals go_wp2
        all_goals go_roundw
        all_goals first
          | exact ⟨j + 1, by simp, by have := HJ.out; omega, hk.drew⟩
          | (have := HJ.out; simp [intOf]; omega)
    · have h1 : ¬ (j : Int) < (m : Int) := by omega
      go_wp2
      go_ret
      exact ⟨rfl, hk⟩
end Go.Proofs.YtdfefjalamohjaaGreatDoor

namespace Go.Proofs.YtdfefjalamohjaaGreatDoor
open Go.RowKit
set_option linter.unusedVariables false
set_option linter.unusedSimpArgs false
attribute [local go_sem ↓] Go.wp_at_zero Go.wp_at_succ

set_option maxRecDepth 100000 in
set_option maxHeartbeats 4000000 in
theorem fitted_any {w : World} {la : Option Addr} {m lc : Nat} {l : List Int} (n : Nat) (hX : XIn w la m l) (hn : n ≤ 60) (hm : m ≤ maxLen) :
    Calls Tryz.prog 49 #[.slice la m lc, .int .i64 n] w fun e w' => ∃ va vc l2, e = .returned (.slice va l2.length vc) ∧ XV w' va l2.length vc l2 ∧ risesB l2 = true ∧ l2.length ≤ n ∧ Kept (fun _ => False) w w' := by
  have HX := hid hX
  have HM : Hid (m ≤ 9223372036854775807) := hid (by unfold maxLen at hm; omega)
  have HN := hid hn
  have hb := fun W x => buildX1 W x
  have HS0 := hid (lst_nil (St.nil w))
  clear hX hm hn
  go_enter Tryz.func49, Tryz.ntmps49
  go_wp2
  go_loopw [5, 6] (fun ov iv wr => ∃ (i ol : Nat) (out : List Int) (va : Option Addr) (vc : Nat), iv = .int .i64 i ∧ i ≤ m ∧ ov = .slice va ol vc ∧ ol = out.length ∧ risesB out = true ∧ ol ≤ n ∧ St w [lstI (.slice va ol vc) out] wr) (fun _ iv _ => m - (intOf iv).toNat)
  case atStart => exact ⟨0, 0, [], none, 0, rfl, Nat.zero_le _, rfl, rfl, rfl, Nat.zero_le _, HS0.out⟩
  case round =>
    clear HS0
    obtain ⟨i, ol, out, va, vc, rfl, hi, rfl, hol, hri, hle, hs⟩ := hrel
    have hn6 := HN.out
    have hm6 := HM.out
    by_cases hgo : i < m ∧ ol < n
    · have t1 : (i : Int) < (m : Int) := by omega
      have t2 : (ol : Int) < (n : Int) := by omega
      have t3 : (0 : Int) ≤ (i : Int) := by omega
      obtain ⟨g, o, rfl⟩ := HX.out.addr (by omega)
      have x0 : wr.drew.cell? ⟨g, o + i, none⟩ = some (.int .i64 (l.getD i 0)) := (HX.out.kept hs.drew.same).cell hgo.1
      have hsd := hs.drew
      generalize l.getD i 0 = x at *
      by_cases he : ol = 0
      · have t4 : ((ol : Int) == 0) = true := by simp [he]
        have t4' : (ol == 0) = true := by simp [he]
        have HSd := hid hsd
        have HR2 := hid (rises_end (x := x) hri (.inl (List.length_eq_zero_iff.1 (by omega))))
        have HG := hid hgo
        have HOl := hid hol
        clear hs hsd hri hgo hle hol he
        go_upto_region 5 with fail
        go_region
        all_goals
          go_wp2_with (first | simp only [hb] | (at_builtin; refine wpList_app1_st HSd.out rfl (.tmp 35) (.tmp 40) rfl rfl x rfl (by have := HOl.out; omega) ?_; intro v4 w4 h4; obtain ⟨va2, vc2, rfl, -⟩ := xv_own (show w4.ownsRow 0 2 1 v4 (out ++ [x]).length (xC (out ++ [x])) from h4.get 0 rfl); have e4 : (out ++ [x]).length = ol + 1 := (by rw [List.length_append, ← HOl.out]; rfl); rw [e4] at h4 ⊢; have HS4 := hid h4; clear h4 e4))
          go_roundw
        case rel => exact ⟨i + 1, ol + 1, out ++ [x], va2, vc2, by push_cast; rfl, by have := HG.out; omega, rfl, by rw [List.length_append, ← HOl.out]; rfl, HR2.out, by have := HG.out; omega, HS4.out⟩
        case measure =>
          have := HG.out
          simp [intOf]
          omega
      · have t4 : ((ol : Int) == 0) = false := by simp; omega
        obtain ⟨ga, ca, e⟩ := hsd.form 0 rfl (by omega)
        simp only [Value.slice.injEq] at e
        obtain ⟨rfl, -, rfl⟩ := e
        have y0 := rowL_cell hsd 0 (by rfl) (by omega) (j := ol - 1) (by omega)
        have HG := hid hgo
        have HSd := hid hsd
        have HR := hid (fun (h : out.getD (ol - 1) 0 < x) => rises_end (x := x) hri (.inr (by rw [← hol]; exact h)))
        have HRi := hid hri
        have HOl := hid hol
        have t6 : (0 : Int) ≤ (ol : Int) - 1 := by omega
        have t7 : (ol : Int) - 1 < (ol : Int) := by omega
        have t8 : ((ol : Int) - 1).toNat = ol - 1 := by omega
        have t9 : (ol : Int) ≤ 60 := by omega
        have t10 : (1 : Int) ≤ (ol : Int) := by omega
        generalize out.getD (ol - 1) 0 = y at *
        by_cases hxy : y < x
        · have t5 : decide (y < x) = true := decide_eq_true hxy
          have HR2 := hid (HR.out hxy)
          clear hs hsd hri hgo hle HR hol hxy
          go_upto_region 5 with fail
          go_region
          all_goals
            go_wp2_with (first | simp only [hb] | (at_builtin; refine wpList_app1_st HSd.out rfl (.tmp 35) (.tmp 40) rfl rfl x rfl (by have := HOl.out; omega) ?_; intro v4 w4 h4; obtain ⟨va2, vc2, rfl, -⟩ := xv_own (show w4.ownsRow 0 2 1 v4 (out ++ [x]).length (xC (out ++ [x])) from h4.get 0 rfl); have e4 : (out ++ [x]).length = ol + 1 := (by rw [List.length_append, ← HOl.out]; rfl); rw [e4] at h4 ⊢; have HS4 := hid h4; clear h4 e4))
            go_roundw
          case rel => exact ⟨i + 1, ol + 1, out ++ [x], va2, vc2, by push_cast; rfl, by have := HG.out; omega, rfl, by rw [List.length_append, ← HOl.out]; rfl, HR2.out, by have := HG.out; omega, HS4.out⟩
          case measure =>
            have := HG.out
            simp [intOf]
            omega
        · have t5 : decide (y < x) = false := decide_eq_false hxy
          clear hs hsd hri hgo hle HR hol hxy
          go_upto_region 5 with fail
          go_region
          all_goals
            go_wp2
            go_roundw
          case rel => exact ⟨i + 1, ol, out, _, _, by push_cast; rfl, by have := HG.out; omega, rfl, HOl.out, HRi.out, by have := HG.out; omega, HSd.out⟩
          case measure =>
            have := HG.out
            simp [intOf]
            omega
    · have hend : (decide ((i : Int) < (m : Int)) = false ∧ decide (i < m) = false) ∨ ((decide ((i : Int) < (m : Int)) = true ∧ decide (i < m) = true) ∧ decide ((ol : Int) < (n : Int)) = false ∧ decide (ol < n) = false) := by
        by_cases h : i < m
        · exact .inr ⟨⟨decide_eq_true (by omega), decide_eq_true h⟩, decide_eq_false (by omega), decide_eq_false (by omega)⟩
        · exact .inl ⟨decide_eq_false (by omega), decide_eq_false h⟩
      subst hol
      obtain ⟨va', vc', e, hv⟩ := xv_own (show wr.ownsRow 0 2 1 (.slice va out.length vc) out.length (xC out) from hs.get 0 rfl)
      simp only [Value.slice.injEq] at e
      obtain ⟨rfl, -, rfl⟩ := e
      have HF := hid (And.intro hv (And.intro hri (And.intro hle hs.same)))
      clear hv hs hri hgo hle
      rcases hend with ⟨t1, t3⟩ | ⟨⟨t1, t3⟩, t2, t4⟩
      all_goals
        go_wp2
        go_ret
        exact ⟨_, _, out, rfl, HF.out⟩
end Go.Proofs.YtdfefjalamohjaaGreatDoor
