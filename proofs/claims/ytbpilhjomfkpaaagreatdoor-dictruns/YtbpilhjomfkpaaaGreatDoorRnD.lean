/- Begun, others, fitted. The law's fitted. The law's laid. -/
import Derived.Test.YtbpilhjomfkpaaaGreatDoorOwG
import Derived.Test.YtbpilhjomfkpaaaGreatDoorRnQ
import Derived.Test.YtbpilhjomfkpaaaGreatDoorCpD
import Derived.Deep.CutBlock
import Derived.Deep.RegionHeld3
import Derived.Test.YtbpilhjomfkpaaaGreatDoorLyR
namespace Go.Proofs.YtbpilhjomfkpaaaGreatDoor
open Go.RowKit
set_option linter.unusedVariables false
set_option linter.unusedSimpArgs false
attribute [local go_sem ↓] Go.wp_at_zero Go.wp_at_succ

/-- A list in memory, with its capacity. -/
def XV (w : World) (va : Option Addr) (n vc : Nat) (zs : List Int) : Prop := XIn w va n zs ∧ (va = none → n = 0 ∧ vc = 0) ∧ n ≤ vc
theorem XV.kept {w w' : World} {va : Option Addr} {n vc : Nat} {zs : List Int} (h : XV w va n vc zs) (k : Kept (fun _ => False) w w') : XV w' va n vc zs := ⟨h.1.kept k, h.2⟩
theorem xv_own {w : World} {v : Value} {zs : List Int} (h : w.ownsRow 0 2 1 v zs.length (xC zs)) : ∃ va vc, v = .slice va zs.length vc ∧ XV w va zs.length vc zs := by
  obtain ⟨va, vc, e, hx, hc, hn⟩ := own_xin h
  exact ⟨va, vc, e, hx, hn, hc⟩
def EV (w : World) (va : Option Addr) (n vc : Nat) (zs : List Pr) : Prop := EIn w va n zs ∧ (va = none → n = 0 ∧ vc = 0) ∧ n ≤ vc
theorem EV.kept {w w' : World} {va : Option Addr} {n vc : Nat} {zs : List Pr} (h : EV w va n vc zs) (k : Kept (fun _ => False) w w') : EV w' va n vc zs := ⟨h.1.kept k, h.2⟩
theorem ev_own {w : World} {v : Value} {zs : List Pr} (h : w.ownsRow 0 41 2 v zs.length (eC zs)) : ∃ va vc, v = .slice va zs.length vc ∧ EV w va zs.length vc zs := by
  obtain ⟨va, vc, e, hx, hc, hn⟩ := own_ein h
  exact ⟨va, vc, e, hx, hn, hc⟩
/-- The document's Do, what it answers by itself. -/
def rDoX (l : List Pr) (n : Int) (d : Dd) (w : World) (e : Ending) (w' : World) : Prop :=
  if okS l n d = true then ∃ va vc ta tc, e = .returned (.tuple #[.slice va (doS l n d).1.length vc, .slice ta (doS l n d).2.length tc, .bool true]) ∧ EV w' va (doS l n d).1.length vc (doS l n d).1 ∧ XV w' ta (doS l n d).2.length tc (doS l n d).2 ∧ Kept (fun _ => False) w w'
  else e = .returned (.tuple #[.slice none 0 0, .slice none 0 0, .bool false]) ∧ Kept (fun _ => False) w w'
theorem rDo_xv {l : List Pr} {n : Int} {d : Dd} {w : World} {e : Ending} {w' : World} (h : rDoE l n d w e w') : rDoX l n d w e w' := by
  unfold rDoE at h
  unfold rDoX
  split
  · rename_i hk
    rw [if_pos hk] at h
    obtain ⟨v, t, rfl, s⟩ := h
    obtain ⟨ta, tc, rfl, ht⟩ := xv_own (show w'.ownsRow 0 2 1 t (doS l n d).2.length (xC (doS l n d).2) from s.get 0 rfl)
    obtain ⟨va, vc, rfl, hv⟩ := ev_own (show w'.ownsRow 0 41 2 v (doS l n d).1.length (eC (doS l n d).1) from s.get 1 rfl)
    exact ⟨va, vc, ta, tc, rfl, hv, ht, s.same⟩
  · rename_i hk
    rw [if_neg hk] at h
    exact h
def V0 (c s : Value) : OwV := ⟨c, s, .slice none 0 0, .slice none 0 0, .slice none 0 0, [.slice none 0 0, .int .i64 0, .slice none 0 0, .int .i64 0, .int .i64 0, .int .i64 0, .int .i64 0, .int .i64 0, .int .i64 0, .int .i64 0, .int .i64 0]⟩
def lc8 (l0 l1 l2 l3 l4 l5 l6 l7 : Int) : List Int := [l0, l1, l2, l3, l4, l5, l6, l7]
theorem lst_nil {o w : World} {its : List It} (h : St o its w) : St o (ownI 2 1 (.slice none 0 0) 0 (xC []) :: its) w := h.own (Kept.refl _ _) (World.ownsRow_nil _ _ _ _)
theorem nil_int {o w : World} {its : List It} (h : St o its w) : St o (ownI 3 1 (.slice none 0 0) 0 (xC []) :: its) w := h.own (Kept.refl _ _) (World.ownsRow_nil _ _ _ _)
theorem begun_at {w W wB : World} {cs : List Int} {m : Nat} (hm : m = cs.length) {vA vB : Value} {l0 l1 l2 l3 l4 l5 l6 l7 : Int} (k : Kept (fun _ => False) w W) (s : St W [ownI 2 1 vB 2 (xC [7, -7]), ownI 2 1 vA m (xC cs)] wB) :
    OwAt w wB.heap.size (V0 vA vB) (owB cs (lc8 l0 l1 l2 l3 l4 l5 l6 l7) 0) [] (wB.alloc (.cells (owL (V0 vA vB) (owB cs (lc8 l0 l1 l2 l3 l4 l5 l6 l7) 0)).toArray 69)) := by
  subst hm
  refine ⟨?_, rfl, rfl⟩
  refine St.box ?_ _ _
  have s1 := nil_int (lst_nil (lst_nil (s.base k)))
  exact s1.perm ((List.perm_append_comm (l₁ := [_, _, _]) (l₂ := [_, _])).trans (List.Perm.cons _ (List.Perm.cons _ ((List.Perm.swap _ _ [_]).trans ((List.Perm.swap _ _ []).cons _)))))
set_option maxRecDepth 100000 in
set_option maxHeartbeats 4000000 in
theorem Begun_any {w : World} {ca sa : Option Addr} {m cc sc : Nat} {cs : List Int} (hX : XIn w ca m cs) (hS : XIn w sa 2 [7, -7]) (hm : m ≤ 256) (l0 l1 l2 l3 l4 l5 l6 l7 : Int) :
    Calls Tryz.prog 29 #[.slice ca m cc, .slice sa 2 sc, .agg #[.int .i64 l0, .int .i64 l1, .int .i64 l2, .int .i64 l3, .int .i64 l4, .int .i64 l5, .int .i64 l6, .int .i64 l7]] w fun e w' => ∃ X V, e = .returned (.pointer (some ⟨X, 0, none⟩)) ∧ OwAt w X V (owB cs (lc8 l0 l1 l2 l3 l4 l5 l6 l7) 0) [] w' := by
  have s1 := (St.nil w).box #[.int .i64 l0, .int .i64 l1, .int .i64 l2, .int .i64 l3, .int .i64 l4, .int .i64 l5, .int .i64 l6, .int .i64 l7] 64
  have hml := hX.1
  generalize hw1 : w.alloc (.cells #[.int .i64 l0, .int .i64 l1, .int .i64 l2, .int .i64 l3, .int .i64 l4, .int .i64 l5, .int .i64 l6, .int .i64 l7] 64) = w1 at *
  generalize hM : w.heap.size = M at *
  have HA := hid (fun (W : World) (k : Kept (fun _ => False) w W) => Copied_any ca m cc cs W (hX.kept k) (by omega))
  have HB := hid (fun (W : World) (k : Kept (fun _ => False) w W) => Copied_any sa 2 sc [7, -7] W (hS.kept k) (by omega))
  have HC : Hid (∀ W, Kept (fun _ => False) w1 W → W.cell? ⟨M, 0, none⟩ = some (.int .i64 l0) ∧ W.cell? ⟨M, 1, none⟩ = some (.int .i64 l1) ∧ W.cell? ⟨M, 2, none⟩ = some (.int .i64 l2) ∧ W.cell? ⟨M, 3, none⟩ = some (.int .i64 l3) ∧ W.cell? ⟨M, 4, none⟩ = some (.int .i64 l4) ∧ W.cell? ⟨M, 5, none⟩ = some (.int .i64 l5) ∧ W.cell? ⟨M, 6, none⟩ = some (.int .i64 l6) ∧ W.cell? ⟨M, 7, none⟩ = some (.int .i64 l7)) := hid (fun W k => ⟨(s1.calm k).cell 0 rfl 0, (s1.calm k).cell 0 rfl 1, (s1.calm k).cell 0 rfl 2, (s1.calm k).cell 0 rfl 3, (s1.calm k).cell 0 rfl 4, (s1.calm k).cell 0 rfl 5, (s1.calm k).cell 0 rfl 6, (s1.calm k).cell 0 rfl 7⟩)
  have HT : Hid (∀ W, Kept (fun _ => False) w1 W → Kept (fun _ => False) w W) := hid (fun W k => s1.same.trans k (fun _ _ f => f))
  have RF := hid (Kept.refl (fun _ => False) w1)
  have HML := hid hml
  clear hX hS s1 hml
  go_enter Tryz.func29, Tryz.ntmps29
  go_upto_region 1 with (simp only [hw1, hM])
  go_region_held3 (fun W => W.cell? ⟨M, 0, none⟩ = some (.int .i64 l0) ∧ W.cell? ⟨M, 1, none⟩ = some (.int .i64 l1) ∧ W.cell? ⟨M, 2, none⟩ = some (.int .i64 l2) ∧ W.cell? ⟨M, 3, none⟩ = some (.int .i64 l3) ∧ W.cell? ⟨M, 4, none⟩ = some (.int .i64 l4) ∧ W.cell? ⟨M, 5, none⟩ = some (.int .i64 l5) ∧ W.cell? ⟨M, 6, none⟩ = some (.int .i64 l6) ∧ W.cell? ⟨M, 7, none⟩ = some (.int .i64 l7)) (first | exact HC.out _ RF.out.drew | exact HC.out _ kB | exact HC.out _ kA | exact HC.out _ (kB.alloc _) | exact HC.out _ (kA.alloc _)) (first
    | (go_at_call 16; with_reducible refine (HA.out w1.drew (HT.out _ RF.out.drew)).mono ?_; rintro e wA ⟨vA, rfl, sA⟩; obtain ⟨aA, cA, rfl⟩ := own_slice (show wA.ownsRow 0 2 1 vA m (xC cs) from sA.get 0 rfl); have kA := RF.out.drew.trans sA.same (fun _ _ f => f))
    | (go_at_call 16; with_reducible refine (HB.out w1.drew (HT.out _ RF.out.drew)).mono ?_; rintro e wB ⟨vB, rfl, sB⟩; obtain ⟨aB, cB, rfl⟩ := own_slice (show wB.ownsRow 0 2 1 vB 2 (xC [7, -7]) from sB.get 0 rfl); have kB := RF.out.drew.trans sB.same (fun _ _ f => f))
    | (go_at_call 16; with_reducible refine (HB.out wA (HT.out _ kA)).mono ?_; rintro e wB ⟨vB, rfl, sB⟩; obtain ⟨aB, cB, rfl⟩ := own_slice (show wB.ownsRow 0 2 1 vB 2 (xC [7, -7]) from sB.get 0 rfl); have kB := kA.trans sB.same (fun _ _ f => f))
    | (go_at_call 16; with_reducible refine (HA.out wB (HT.out _ kB)).mono ?_; rintro e wA ⟨vA, rfl, sA⟩; obtain ⟨aA, cA, rfl⟩ := own_slice (show wA.ownsRow 0 2 1 vA m (xC cs) from sA.get 0 rfl); have kA := kB.trans sA.same (fun _ _ f => f)))
  all_goals go_wp2
  all_goals go_ret
  all_goals first
    | exact ⟨_, _, rfl, begun_at HML.out (HT.out _ RF.out.drew) (sA.join sB)⟩
    | exact ⟨_, _, rfl, begun_at HML.out (HT.out _ RF.out.drew) ((sB.join sA).perm (List.Perm.swap _ _ _))⟩
set_option maxRecDepth 100000 in
set_option maxHeartbeats 4000000 in
theorem others_any {w : World} {ca cb : Option Addr} {m ka kb : Nat} {cs cs' : List Int} (hA : XIn w ca m cs') (hB : XIn w cb m cs) (b n : Nat) (hS : Same cs cs' b n) (hm : m ≤ 256) (hb : b + (1 + 3 * n) ≤ 256) :
    Calls Tryz.prog 31 #[.slice ca m ka, .slice cb m kb, .int .i64 b, .int .i64 (1 + 3 * (n : Int))] w fun e w' => e = .returned (.bool true) ∧ Kept (fun _ => False) w w' := by
  have HA := hid hA
  have HB := hid hB
  have HSm := hid hS
  have t0 : ((m : Int) != (m : Int)) = false := by simp
  clear hA hB hS
  go_enter Tryz.func31, Tryz.ntmps31
  go_wp2
  go_loopw [9] (fun i wr => ∃ j : Nat, i = .int .i64 j ∧ j ≤ m ∧ Kept (fun _ => False) w wr) (fun i _ => m - (intOf i).toNat)
  case atStart => exact ⟨0, rfl, Nat.zero_le _, Kept.refl _ _⟩
  case round =>
    obtain ⟨j, rfl, hj, hk⟩ := hrel
    by_cases hlt : j < m
    · obtain ⟨ga, oa, rfl⟩ := HA.out.addr (by omega)
      obtain ⟨gb, ob, rfl⟩ := HB.out.addr (by omega)
      have x0 := (HA.out.kept hk.drew).cell hlt
      have y0 := (HB.out.kept hk.drew).cell hlt
      have h0 : (0 : Int) ≤ (j : Int) := Int.natCast_nonneg _
      have h1 : (j : Int) < (m : Int) := by omega
      have hw : IntKind.i64.wrap ((b : Int) + (1 + 3 * (n : Int))) = (b : Int) + (1 + 3 * (n : Int)) := by rw [IntKind.wrap_i64]; omega
      have HJ := hid hlt
      by_cases hin : b ≤ j ∧ j < b + (1 + 3 * n)
      · have q1 : decide ((j : Int) < (b : Int)) = false := decide_eq_false (by omega)
        have q1' : decide (j < b) = false := decide_eq_false (by omega)
        have q2 : decide ((b : Int) + (1 + 3 * (n : Int)) ≤ (j : Int)) = false := decide_eq_false (by omega)
        generalize cs'.getD j 0 = x at *
        generalize cs.getD j 0 = y at *
        clear hin hj hlt
        cases hv : (x != y) with
        | true =>
          go_upto_region 6 with fail
          go_region
          all_goals go_wp2
          all_goals go_roundw
          all_goals first
            | exact ⟨j + 1, by simp, by have := HJ.out; omega, hk.drew⟩
            | (have := HJ.out; simp [intOf]; omega)
        | false =>
          go_upto_region 6 with fail
          go_region
          all_goals go_wp2
          all_goals go_roundw
          all_goals first
            | exact ⟨j + 1, by simp, by have := HJ.out; omega, hk.drew⟩
            | (have := HJ.out; simp [intOf]; omega)
      · have e := HSm.out.2 j (by omega)
        rw [e] at x0
        generalize cs.getD j 0 = y at *
        have hv : (y != y) = false := by simp
        clear hin hj hlt e
        go_upto_region 6 with fail
        go_region
        all_goals go_wp2
        all_goals go_roundw
        all_goals first
          | exact ⟨j + 1, by simp, by have := HJ.out; omega, hk.drew⟩
          | (have := HJ.out; simp [intOf]; omega)
    · have h1 : ¬ (j : Int) < (m : Int) := by omega
      go_wp2
      go_ret
      exact ⟨rfl, hk⟩
end Go.Proofs.YtbpilhjomfkpaaaGreatDoor

namespace Go.Proofs.YtbpilhjomfkpaaaGreatDoor
open Go.RowKit
set_option linter.unusedVariables false
set_option linter.unusedSimpArgs false
attribute [local go_sem ↓] Go.wp_at_zero Go.wp_at_succ

set_option maxRecDepth 100000 in
set_option maxHeartbeats 4000000 in
theorem fitted_any {w : World} {la : Option Addr} {m lc : Nat} {l : List Pr} (n : Nat) (hX : EIn w la m l) (hn : n ≤ 60) (hm : m ≤ maxLen) :
    Calls Tryz.prog 52 #[.slice la m lc, .int .i64 n] w fun e w' => ∃ va vc l2, e = .returned (.slice va l2.length vc) ∧ EV w' va l2.length vc l2 ∧ Rises l2 ∧ l2.length ≤ n ∧ (∀ p ∈ l2, p ∈ l) ∧ Kept (fun _ => False) w w' := by
  have HX := hid hX
  have HM : Hid (m ≤ 9223372036854775807) := hid (by unfold maxLen at hm; omega)
  have HN := hid hn
  have hb := fun W x y => buildE1 W x y
  have HS0 := hid (e_nil (St.nil w))
  clear hX hm hn
  go_enter Tryz.func52, Tryz.ntmps52
  go_wp2
  go_loopw [5, 6] (fun ov iv wr => ∃ (i ol : Nat) (out : List Pr) (va : Option Addr) (vc : Nat), iv = .int .i64 i ∧ i ≤ m ∧ ov = .slice va ol vc ∧ ol = out.length ∧ Rises out ∧ ol ≤ n ∧ (∀ p ∈ out, p ∈ l) ∧ St w [lstE (.slice va ol vc) out] wr) (fun _ iv _ => m - (intOf iv).toNat)
  case atStart => exact ⟨0, 0, [], none, 0, rfl, Nat.zero_le _, rfl, rfl, List.Pairwise.nil, Nat.zero_le _, fun p hp => by simp at hp, HS0.out⟩
  case round =>
    clear HS0
    obtain ⟨i, ol, out, va, vc, rfl, hi, rfl, hol, hri, hle, hsub, hs⟩ := hrel
    have hn6 := HN.out
    have hm6 := HM.out
    by_cases hgo : i < m ∧ ol < n
    · have t1 : (i : Int) < (m : Int) := by omega
      have t2 : (ol : Int) < (n : Int) := by omega
      have t3 : (0 : Int) ≤ (i : Int) := by omega
      obtain ⟨g, o, rfl⟩ := HX.out.addr (by omega)
      obtain ⟨x0, x1⟩ := (HX.out.kept hs.drew.same).cells (j := i) hgo.1
      have hsd := hs.drew
      have hml := HX.out.1
      have hmem : l.getD i (0, 0) ∈ l := by rw [idx_getD (by omega)]; exact List.getElem_mem _
      have HSub : Hid (∀ p ∈ out ++ [l.getD i (0, 0)], p ∈ l) := hid (fun p hp => by
        rcases List.mem_append.1 hp with hp | hp
        · exact hsub p hp
        · rw [List.mem_singleton.1 hp]; exact hmem)
      have HSb := hid hsub
      obtain ⟨kv, hkv⟩ : ∃ kv, kv = l.getD i (0, 0) := ⟨_, rfl⟩
      rw [← hkv] at x0 x1 HSub
      clear hkv hmem hsub hml
      obtain ⟨x, y9⟩ := kv
      simp only at x0 x1
      by_cases he : ol = 0
      · have t4 : ((ol : Int) == 0) = true := by simp [he]
        have t4' : (ol == 0) = true := by simp [he]
        have HSd := hid hsd
        have HR2 := hid (rises_endE (p := (x, y9)) hri (.inl (List.length_eq_zero_iff.1 (by omega))))
        have HG := hid hgo
        have HOl := hid hol
        clear hs hsd hri hgo hle hol he
        go_upto_region 5 with fail
        go_region
        all_goals
          go_wp2_with (first | simp only [hb] | (at_builtin; refine wpList_appE_st (e_under HSd.out x y9) rfl (.tmp 37) (.tmp 42) rfl rfl (some ⟨wr.drew.heap.size, 0, none⟩) 1 1 rfl (ein_box HSd.out x y9) (fun e => by cases e) (by have := HOl.out; simp; omega) ?_; intro v4 w4 h4; replace h4 := e_drop1 h4; obtain ⟨va2, vc2, rfl, -⟩ := ev_own (show w4.ownsRow 0 41 2 v4 (out ++ [(x, y9)]).length (eC (out ++ [(x, y9)])) from h4.get 0 rfl); have e4 : (out ++ [(x, y9)]).length = ol + 1 := (by rw [List.length_append, ← HOl.out]; rfl); rw [e4] at h4 ⊢; have HS4 := hid h4; clear h4 e4))
          go_roundw
        case rel => exact ⟨i + 1, ol + 1, out ++ [(x, y9)], va2, vc2, by push_cast; rfl, by have := HG.out; omega, rfl, by rw [List.length_append, ← HOl.out]; rfl, HR2.out, by have := HG.out; omega, HSub.out, HS4.out⟩
        case measure =>
          have := HG.out
          simp [intOf]
          omega
      · have t4 : ((ol : Int) == 0) = false := by simp; omega
        obtain ⟨ga, ca, e⟩ := hsd.form 0 rfl (by omega)
        simp only [Value.slice.injEq] at e
        obtain ⟨rfl, -, rfl⟩ := e
        have y0 : wr.drew.cell? ⟨ga, (ol - 1) * 2, none⟩ = some (.int .i64 (out.getD (ol - 1) (0, 0)).1) := by
          have := ((st_ein hsd 0 (by rw [hol]; rfl) hol).cells (j := ol - 1) (by omega)).1
          rwa [Nat.zero_add] at this
        have HG := hid hgo
        have HSd := hid hsd
        have HR := hid (fun (h : (out.getD (ol - 1) (0, 0)).1 < x) => rises_endE (p := (x, y9)) hri (.inr (by rw [← hol]; exact h)))
        have HRi := hid hri
        have HOl := hid hol
        have t6 : (0 : Int) ≤ (ol : Int) - 1 := by omega
        have t7 : (ol : Int) - 1 < (ol : Int) := by omega
        have t8 : ((ol : Int) - 1).toNat = ol - 1 := by omega
        have t9 : (ol : Int) ≤ 60 := by omega
        have t10 : (1 : Int) ≤ (ol : Int) := by omega
        generalize (out.getD (ol - 1) (0, 0)).1 = y at *
        by_cases hxy : y < x
        · have t5 : decide (y < x) = true := decide_eq_true hxy
          have HR2 := hid (HR.out hxy)
          clear hs hsd hri hgo hle HR hol hxy
          go_upto_region 5 with fail
          go_region
          all_goals
            go_wp2_with (first | simp only [hb] | (at_builtin; refine wpList_appE_st (e_under HSd.out x y9) rfl (.tmp 37) (.tmp 42) rfl rfl (some ⟨wr.drew.heap.size, 0, none⟩) 1 1 rfl (ein_box HSd.out x y9) (fun e => by cases e) (by have := HOl.out; simp; omega) ?_; intro v4 w4 h4; replace h4 := e_drop1 h4; obtain ⟨va2, vc2, rfl, -⟩ := ev_own (show w4.ownsRow 0 41 2 v4 (out ++ [(x, y9)]).length (eC (out ++ [(x, y9)])) from h4.get 0 rfl); have e4 : (out ++ [(x, y9)]).length = ol + 1 := (by rw [List.length_append, ← HOl.out]; rfl); rw [e4] at h4 ⊢; have HS4 := hid h4; clear h4 e4))
            go_roundw
          case rel => exact ⟨i + 1, ol + 1, out ++ [(x, y9)], va2, vc2, by push_cast; rfl, by have := HG.out; omega, rfl, by rw [List.length_append, ← HOl.out]; rfl, HR2.out, by have := HG.out; omega, HSub.out, HS4.out⟩
          case measure =>
            have := HG.out
            simp [intOf]
            omega
        · have t5 : decide (y < x) = false := decide_eq_false hxy
          clear hs hsd hri hgo hle HR hol hxy
          go_upto_region 5 with fail
          go_region
          all_goals
            go_wp2
            go_roundw
          case rel => exact ⟨i + 1, ol, out, _, _, by push_cast; rfl, by have := HG.out; omega, rfl, HOl.out, HRi.out, by have := HG.out; omega, HSb.out, HSd.out⟩
          case measure =>
            have := HG.out
            simp [intOf]
            omega
    · have hend : (decide ((i : Int) < (m : Int)) = false ∧ decide (i < m) = false) ∨ ((decide ((i : Int) < (m : Int)) = true ∧ decide (i < m) = true) ∧ decide ((ol : Int) < (n : Int)) = false ∧ decide (ol < n) = false) := by
        by_cases h : i < m
        · exact .inr ⟨⟨decide_eq_true (by omega), decide_eq_true h⟩, decide_eq_false (by omega), decide_eq_false (by omega)⟩
        · exact .inl ⟨decide_eq_false (by omega), decide_eq_false h⟩
      subst hol
      obtain ⟨va', vc', e, hv⟩ := ev_own (show wr.ownsRow 0 41 2 (.slice va out.length vc) out.length (eC out) from hs.get 0 rfl)
      simp only [Value.slice.injEq] at e
      obtain ⟨rfl, -, rfl⟩ := e
      have HF := hid (And.intro hv (And.intro hri (And.intro hle (And.intro hsub hs.same))))
      clear hv hs hri hgo hle hsub
      rcases hend with ⟨t1, t3⟩ | ⟨⟨t1, t3⟩, t2, t4⟩
      all_goals
        go_wp2
        go_ret
        exact ⟨_, _, out, rfl, HF.out⟩
end Go.Proofs.YtbpilhjomfkpaaaGreatDoor

namespace Go.Proofs.YtbpilhjomfkpaaaGreatDoor
open Go.RowKit
set_option linter.unusedVariables false
set_option linter.unusedSimpArgs false
attribute [local go_sem ↓] Go.wp_at_zero Go.wp_at_succ

/-- Keys in their range. -/
def KeysR (l : List Pr) : Prop := ∀ p ∈ l, Rg p.1
/-- The first j cells of own stand from b on. -/
def PartIn (cs own : List Int) (b j : Nat) : Prop := ∀ i, i < j → cs.getD (b + i) 0 = own.getD i 0
theorem PartIn.step {cs own : List Int} {b j : Nat} (h : PartIn cs own b j) (hl : b + j < cs.length) : PartIn (cs.set (b + j) (own.getD j 0)) own b (j + 1) := fun i hi => by
  by_cases e : i = j
  · subst e
    exact at_same hl _
  · rw [at_other (by omega)]
    exact h i (by omega)
set_option maxRecDepth 100000 in
set_option maxHeartbeats 8000000 in
theorem laid_any {w : World} {base n0 seed : Int} {la ja da : Option Addr} {ml lc mj jc md dc : Nat} {l : List Pr} {js : List Int} (hb : Rg base) (hn : Rg n0) (hs : Rg seed) (hX : EIn w la ml l) (hlr : ∀ p ∈ l, Rg p.1) (hlc : ml ≤ maxLen) (hJ : XIn w ja mj js) :
    Calls Tryz.prog 28 #[.agg #[.int .i64 base, .int .i64 n0, .int .i64 seed, .slice la ml lc, .slice ja mj jc, .slice da md dc]] w fun e w' => ∃ (b n : Nat) (cs : List Int) (l2 : List Pr) (ca va : Option Addr) (cc vc : Nat), e = .returned (.tuple #[.slice ca cs.length cc, .int .i64 b, .int .i64 n, .slice va l2.length vc]) ∧ XIn w' ca cs.length cs ∧ EV w' va l2.length vc l2 ∧ DcIn cs b n l2 ∧ KeysR l2 ∧ Kept (fun _ => False) w w' := by
  have s1 := (St.nil w).box #[.int .i64 base, .int .i64 n0, .int .i64 seed, .slice la ml lc, .slice ja mj jc, .slice da md dc] 61
  generalize hw1 : w.alloc (.cells #[.int .i64 base, .int .i64 n0, .int .i64 seed, .slice la ml lc, .slice ja mj jc, .slice da md dc] 61) = w1 at *
  generalize hM : w.heap.size = M at *
  have HC : Hid (∀ W, Kept (fun _ => False) w1 W → W.cell? ⟨M, 0, none⟩ = some (.int .i64 base) ∧ W.cell? ⟨M, 1, none⟩ = some (.int .i64 n0) ∧ W.cell? ⟨M, 2, none⟩ = some (.int .i64 seed) ∧ W.cell? ⟨M, 3, none⟩ = some (.slice la ml lc) ∧ W.cell? ⟨M, 4, none⟩ = some (.slice ja mj jc)) := hid (fun W k => ⟨(s1.calm k).cell 0 rfl 0, (s1.calm k).cell 0 rfl 1, (s1.calm k).cell 0 rfl 2, (s1.calm k).cell 0 rfl 3, (s1.calm k).cell 0 rfl 4⟩)
  have HT : Hid (∀ W, Kept (fun _ => False) w1 W → Kept (fun _ => False) w W) := hid (fun W k => s1.same.trans k (fun _ _ f => f))
  have hp1 := fun W => pick_any n0 60 W (by omega) (by omega) hn.1 hn.2
  obtain ⟨c0, c1, c2, c3, c4⟩ := HC.out w1 (Kept.refl _ _)
  have HX := hid hX
  have HLr := hid hlr
  have HJ := hid hJ
  have HB := hid hb
  have HSd := hid hs
  clear s1 hX hJ hb hn hs hlr
  go_enter Tryz.func28, Tryz.ntmps28
  go_upto_region 2 with (first | simp only [hw1, hM] | (go_at_call 21; refine (hp1 _).mono ?_; rintro e w2 ⟨⟨k0, hk0, rfl⟩, hw2⟩; obtain rfl : w1 = w2 := hw2.symm; clear hw2))
  obtain ⟨n, hn⟩ : ∃ n : Nat, n = 1 + k0 := ⟨_, rfl⟩
  rw [show (1 : Int) + (k0 : Int) = (n : Int) by omega]
  have hn1 : 1 ≤ n := by omega
  have hn2 : n ≤ 60 := by omega
  have hR : roomS (n : Int) = 1 + 3 * (n : Int) := by unfold roomS; rw [if_pos (by omega)]
  have hr := fun W => rRoom_any (n : Int) W
  rw [hR] at hr
  have hp2 := fun W => pick_any base (256 - 3 * n) W (by omega) (by omega) HB.out.1 HB.out.2
  have e1 : (257 : Int) - (1 + 3 * (n : Int)) = ((256 - 3 * n : Nat) : Int) := by omega
  have hft := fitted_any (w := w1) (lc := lc) n (HX.out.kept (HT.out _ (Kept.refl _ _))) hn2 hlc
  clear hn hk0 hp1 hR hw1 hM
  go_upto_region 5 with (first | (go_at_call 12; refine (hr _).mono ?_; rintro e w2 ⟨rfl, hw2⟩; obtain rfl : w1 = w2 := hw2.symm; clear hw2) | (go_at_call 21; refine (hp2 _).mono ?_; rintro e w2 ⟨⟨b, hbb, rfl⟩, hw2⟩; obtain rfl : w1 = w2 := hw2.symm; clear hw2) | (go_at_call 52; refine hft.mono ?_; rintro e w3 ⟨va, vc, l2, rfl, hx3, hri3, hle3, hsb3, k3⟩))
  have HL2 := hid hle3
  have HRI := hid hri3
  have HSB := hid (fun p (hp : p ∈ l2) => HLr.out p (hsb3 p hp))
  clear hle3 hri3 hsb3
  have HX3 := hid hx3
  have HK3 := hid k3
  clear hx3 hft hr hp2 e1 c0 c1 c2 c3 c4
  obtain ⟨c0, c1, c2, c3, c4⟩ := HC.out w3 k3
  obtain ⟨N, hN⟩ : ∃ N : Nat, N = b + (1 + 3 * n) := ⟨_, rfl⟩
  have hm3 := makeX N ((b : Int) + (1 + 3 * (n : Int))) (by omega) (by omega) w3
  have s3 : St w3 (rowI w3.heap.size N N (List.replicate N 0) :: []) (w3.alloc (.cells (xC (List.replicate N 0)).toArray 2)) := by
    have := (St.nil w3).new64 (List.replicate N 0) (by rw [List.length_replicate]; unfold maxLen; omega)
    rw [List.length_replicate] at this
    exact this
  have HS3 : Hid (∃ zs, St w3 [rowI w3.heap.size N N zs] (w3.alloc (.cells (xC (List.replicate N 0)).toArray 2))) := hid ⟨_, s3⟩
  have HNN := hid hN
  have q0 : (b : Int) + (1 + 3 * (n : Int)) ≤ 1000 := by omega
  have q1 : (0 : Int) ≤ (b : Int) + (1 + 3 * (n : Int)) := by omega
  generalize xC (List.replicate N 0) = zz at *
  clear hN
  go_upto_region 6 with (simp only [hm3])
  have k4 := s3.same
  obtain ⟨c0, c1, c2, c3, c4⟩ := HC.out _ (k3.trans k4 (fun _ _ f => f))
  clear s3 k3
  generalize hw4 : w3.alloc (.cells zz.toArray 2) = w4 at *
  have HK4 := hid k4
  clear k4 hw4 hm3
  generalize w3.heap.size = g4 at *
  have HBn := hid (show b + (1 + 3 * n) ≤ N ∧ N ≤ 256 by have := HNN.out; omega)
  obtain ⟨N5, hN5⟩ : ∃ N5 : Nat, N5 = 256 := ⟨_, rfl⟩
  have hm5 := makeX N5 256 (by omega) (by omega) w4
  have s5 : St w4 (rowI w4.heap.size N5 N5 (List.replicate N5 0) :: []) (w4.alloc (.cells (xC (List.replicate N5 0)).toArray 2)) := by
    have := (St.nil w4).new64 (List.replicate N5 0) (by rw [List.length_replicate]; unfold maxLen; omega)
    rw [List.length_replicate] at this
    exact this
  have HS5 : Hid (∃ zs, St w3 [rowI w4.heap.size N5 N5 zs] (w4.alloc (.cells (xC (List.replicate N5 0)).toArray 2))) := hid ⟨_, s5.base HK4.out⟩
  have HB5 := hid (show b + (1 + 3 * n) ≤ N5 ∧ N5 ≤ 256 by omega)
  clear s5 hN5
  generalize xC (List.replicate N5 0) = z5 at *
  generalize hw5 : w4.alloc (.cells z5.toArray 2) = w5 at *
  generalize w4.heap.size = g5 at *
  by_cases hfull : N < 256
  · have t1 : decide (((N : Nat) : Int) < 256) = true := decide_eq_true (by omega)
    have t1' : decide (N < 256) = true := decide_eq_true hfull
    cases hbit : decide (0 < bits BinOp.and IntKind.i64 seed 1) with
    | true =>
      have HSN := HS5
      have HBn := HB5
      clear HS3
      go_wp2_with (simp only [hm5, hw5])
      go_loopw [11] (fun i wr => ∃ (j : Nat) (zs : List Int), i = .int .i64 j ∧ j ≤ N5 ∧ St w3 [rowI g5 N5 N5 zs] wr) (fun i _ => N5 - (intOf i).toNat)
      case atStart => obtain ⟨zs, hz⟩ := HSN.out; exact ⟨0, zs, rfl, Nat.zero_le _, hz⟩
      case round =>
        clear HSN
        obtain ⟨j, zs, rfl, hj, hst⟩ := hrel
        obtain ⟨hBn, hBm⟩ := HBn.out
        obtain ⟨c0, c1, c2, c3, c4⟩ := HC.out wr (HK3.out.trans hst.same (fun _ _ f => f))
        obtain ⟨d0, d1, d2, d3, d4⟩ := HC.out wr.drew (HK3.out.trans hst.drew.same (fun _ _ f => f))
        by_cases hgo : j < N5 ∧ 0 < mj
        · have t1 : (j : Int) < ((N5 : Nat) : Int) := by omega
          have t2 : (0 : Int) < (mj : Int) := by omega
          have t3 : (0 : Int) ≤ (j : Int) := by omega
          obtain ⟨gj, oj, rfl⟩ := HJ.out.addr hgo.2
          have hmd : j % mj < mj := Nat.mod_lt _ hgo.2
          have x1 : wr.drew.cell? ⟨gj, oj + j % mj, none⟩ = some (.int .i64 (js.getD (j % mj) 0)) := (HJ.out.kept (HT.out _ (HK3.out.trans hst.drew.same (fun _ _ f => f)))).cell hmd
          have f2 : wr.drew.frozen? ⟨g5, j, none⟩ = false := row_frozen hst.drew _
          obtain ⟨u2, c9⟩ : ∃ u, wr.drew.cell? ⟨g5, j, none⟩ = some u := ⟨_, row_cell hst.drew (j := j) hgo.1⟩
          have HT1 := hid (row_set hst.drew (j := j) hgo.1 (js.getD (j % mj) 0))
          have HT2 := hid (row_set hst (j := j) hgo.1 (js.getD (j % mj) 0)).drew
          have e1 : (j : Int) % (mj : Int) = ((j % mj : Nat) : Int) := by push_cast; rfl
          have e2 : (j : Int).tmod (mj : Int) = ((j % mj : Nat) : Int) := by rw [Int.tmod_eq_emod_of_nonneg (by omega)]; push_cast; rfl
          generalize js.getD (j % mj) 0 = jv at *
          generalize j % mj = r at *
          have z1 : (0 : Int) ≤ (r : Int) := by omega
          have z2 : (r : Int) < (mj : Int) := by omega
          have z3 : ((mj : Int) == 0) = false := by simp; omega
          have z4 : ¬ (mj : Int) = 0 := by omega
          have z5 : (j : Int) ≤ 1000 := by omega
          have HJJ := hid hgo
          clear hst hj hgo hmd
          go_upto_region 11 with fail
          go_region_with fail
          all_goals go_wp2
          all_goals go_roundw
          all_goals first
            | exact ⟨j + 1, _, by push_cast; rfl, by have := HJJ.out; omega, HT1.out⟩
            | exact ⟨j + 1, _, by push_cast; rfl, by have := HJJ.out; omega, HT2.out⟩
            | (have := HJJ.out; simp [intOf]; omega)
        · have hend : (decide ((j : Int) < ((N5 : Nat) : Int)) = false ∧ decide (j < N5) = false) ∨ ((decide ((j : Int) < ((N5 : Nat) : Int)) = true ∧ decide (j < N5) = true) ∧ mj = 0) := by
            by_cases h : j < N5
            · exact .inr ⟨⟨decide_eq_true (by omega), decide_eq_true h⟩, by omega⟩
            · exact .inl ⟨decide_eq_false (by omega), decide_eq_false h⟩
          have hL := LayR_any va l2.length vc l2 n seed wr ((HX3.out.kept hst.same).1) HSB.out HRI.out HL2.out hn1 hn2 HSd.out
          have HST := hid hst
          have hzl : N5 = zs.length := row_len hst
          have HZL := hid hzl
          clear hst hj hgo d0 d1 d2 d3 d4 hzl
          generalize hll : l2.length = ll at *
          have HLL := hid hll
          clear hll
          rcases hend with ⟨t1, t2⟩ | ⟨⟨t1, t2⟩, rfl⟩
          all_goals
            go_upto_region 13 with (go_at_call 20; refine hL.mono ?_; rintro e w6 ⟨g6, own, rfl, ho6, hr6, s6⟩)
            have HS6 : Hid (St w3 [rowI g5 N5 N5 zs, rowI g6 (1 + 3 * n) (1 + 3 * n) own] w6) := hid ((HST.out.join s6).perm (List.Perm.swap _ _ _))
            have HO6 := hid ho6
            have HR6 := hid hr6
            clear s6 ho6 hr6 hL HST c0 c1 c2 c3 c4
            go_wp2
            go_loopw [13] (fun i wr => ∃ (q : Nat) (cs : List Int), i = .int .i64 q ∧ q ≤ 1 + 3 * n ∧ PartIn cs own b q ∧ St w3 [rowI g5 N5 N5 cs, rowI g6 (1 + 3 * n) (1 + 3 * n) own] wr) (fun i _ => 1 + 3 * n - (intOf i).toNat)
            case atStart => exact ⟨0, zs, rfl, Nat.zero_le _, fun i hi => by omega, HS6.out⟩
            case round =>
              clear HS6
              obtain ⟨q, cs, rfl, hq, hpi, hst⟩ := hrel
              obtain ⟨hBn, hBm⟩ := HBn.out
              have hcl : N5 = cs.length := row_len hst
              by_cases hlt : q < 1 + 3 * n
              · have y1 : (q : Int) < 1 + 3 * (n : Int) := by omega
                have y2 : (0 : Int) ≤ (q : Int) := by omega
                have y3 : (q : Int) < ((1 + 3 * n : Nat) : Int) := by omega
                have y4 : (0 : Int) ≤ (b : Int) + (q : Int) := by omega
                have y5 : (b : Int) + (q : Int) < ((N5 : Nat) : Int) := by omega
                have y6 : ((b : Int) + (q : Int)).toNat = b + q := by omega
                have x1 : wr.cell? ⟨g6, q, none⟩ = some (.int .i64 (own.getD q 0)) := by
                  rw [hst.ownCell 1 rfl q (by omega)]
                  exact xC_at own q (by have := HO6.out.len; omega)
                have f2 : wr.frozen? ⟨g5, b + q, none⟩ = false := row_frozen hst _
                obtain ⟨u2, c9⟩ : ∃ u, wr.cell? ⟨g5, b + q, none⟩ = some u := ⟨_, row_cell hst (j := b + q) (by omega)⟩
                have HT1 := hid (row_set hst (j := b + q) (by omega) (own.getD q 0))
                have HP1 := hid (hpi.step (by omega))
                generalize own.getD q 0 = ov at *
                have HQ := hid hlt
                clear hst hpi hq hlt hcl hBn hBm
                go_wp2
                go_roundw
                case rel => exact ⟨q + 1, _, by push_cast; rfl, by have := HQ.out; omega, HP1.out, HT1.out⟩
                case measure =>
                  have := HQ.out
                  simp [intOf]
                  omega
              · have y1 : ¬ (q : Int) < 1 + 3 * (n : Int) := by omega
                obtain rfl : q = 1 + 3 * n := by omega
                have hall := HO6.out.moved HRI.out (by rw [HLL.out]; exact HR6.out) (by omega) hn2 (show b + (1 + 3 * n) ≤ cs.length by omega) (by omega) hpi
                have hdq : DcIn cs b n l2 := hall
                have hxc : XIn wr (some ⟨g5, 0, none⟩) N5 cs := row_xin hst
                have HFin : Hid (∃ (b' n' : Nat) (cs' : List Int) (l2' : List Pr) (ca va' : Option Addr) (cc vc' : Nat), Ending.returned (.tuple #[.slice (some ⟨g5, 0, none⟩) N5 N5, .int .i64 b, .int .i64 n, .slice va ll vc]) = .returned (.tuple #[.slice ca cs'.length cc, .int .i64 b', .int .i64 n', .slice va' l2'.length vc']) ∧ XIn wr ca cs'.length cs' ∧ EV wr va' l2'.length vc' l2' ∧ DcIn cs' b' n' l2' ∧ KeysR l2' ∧ Kept (fun _ => False) w wr) := hid ⟨b, n, cs, l2, some ⟨g5, 0, none⟩, va, N5, vc, by rw [← hcl, HLL.out], by rw [← hcl]; exact hxc, by rw [HLL.out]; exact HX3.out.kept hst.same, hdq, HSB.out, HT.out _ (HK3.out.trans hst.same (fun _ _ f => f))⟩
                clear hst hpi hq hlt hcl hBn hBm hall hdq hxc
                go_wp2
                refine bodyPost_ret (v := .tuple #[.slice (some ⟨g5, 0, none⟩) N5 N5, .int .i64 b, .int .i64 n, .slice va ll vc]) (by simp [results, Tryz.results28, go_sem]) rfl ?_
                exact HFin.out
    | false =>
      have HSN := HS3
      clear HS5
      go_wp2
      go_loopw [11] (fun i wr => ∃ (j : Nat) (zs : List Int), i = .int .i64 j ∧ j ≤ N ∧ St w3 [rowI g4 N N zs] wr) (fun i _ => N - (intOf i).toNat)
      case atStart => obtain ⟨zs, hz⟩ := HSN.out; exact ⟨0, zs, rfl, Nat.zero_le _, hz⟩
      case round =>
        clear HSN
        obtain ⟨j, zs, rfl, hj, hst⟩ := hrel
        obtain ⟨hBn, hBm⟩ := HBn.out
        obtain ⟨c0, c1, c2, c3, c4⟩ := HC.out wr (HK3.out.trans hst.same (fun _ _ f => f))
        obtain ⟨d0, d1, d2, d3, d4⟩ := HC.out wr.drew (HK3.out.trans hst.drew.same (fun _ _ f => f))
        by_cases hgo : j < N ∧ 0 < mj
        · have t1 : (j : Int) < ((N : Nat) : Int) := by omega
          have t2 : (0 : Int) < (mj : Int) := by omega
          have t3 : (0 : Int) ≤ (j : Int) := by omega
          obtain ⟨gj, oj, rfl⟩ := HJ.out.addr hgo.2
          have hmd : j % mj < mj := Nat.mod_lt _ hgo.2
          have x1 : wr.drew.cell? ⟨gj, oj + j % mj, none⟩ = some (.int .i64 (js.getD (j % mj) 0)) := (HJ.out.kept (HT.out _ (HK3.out.trans hst.drew.same (fun _ _ f => f)))).cell hmd
          have f2 : wr.drew.frozen? ⟨g4, j, none⟩ = false := row_frozen hst.drew _
          obtain ⟨u2, c9⟩ : ∃ u, wr.drew.cell? ⟨g4, j, none⟩ = some u := ⟨_, row_cell hst.drew (j := j) hgo.1⟩
          have HT1 := hid (row_set hst.drew (j := j) hgo.1 (js.getD (j % mj) 0))
          have HT2 := hid (row_set hst (j := j) hgo.1 (js.getD (j % mj) 0)).drew
          have e1 : (j : Int) % (mj : Int) = ((j % mj : Nat) : Int) := by push_cast; rfl
          have e2 : (j : Int).tmod (mj : Int) = ((j % mj : Nat) : Int) := by rw [Int.tmod_eq_emod_of_nonneg (by omega)]; push_cast; rfl
          generalize js.getD (j % mj) 0 = jv at *
          generalize j % mj = r at *
          have z1 : (0 : Int) ≤ (r : Int) := by omega
          have z2 : (r : Int) < (mj : Int) := by omega
          have z3 : ((mj : Int) == 0) = false := by simp; omega
          have z4 : ¬ (mj : Int) = 0 := by omega
          have z5 : (j : Int) ≤ 1000 := by omega
          have HJJ := hid hgo
          clear hst hj hgo hmd
          go_upto_region 11 with fail
          go_region_with fail
          all_goals go_wp2
          all_goals go_roundw
          all_goals first
            | exact ⟨j + 1, _, by push_cast; rfl, by have := HJJ.out; omega, HT1.out⟩
            | exact ⟨j + 1, _, by push_cast; rfl, by have := HJJ.out; omega, HT2.out⟩
            | (have := HJJ.out; simp [intOf]; omega)
        · have hend : (decide ((j : Int) < ((N : Nat) : Int)) = false ∧ decide (j < N) = false) ∨ ((decide ((j : Int) < ((N : Nat) : Int)) = true ∧ decide (j < N) = true) ∧ mj = 0) := by
            by_cases h : j < N
            · exact .inr ⟨⟨decide_eq_true (by omega), decide_eq_true h⟩, by omega⟩
            · exact .inl ⟨decide_eq_false (by omega), decide_eq_false h⟩
          have hL := LayR_any va l2.length vc l2 n seed wr ((HX3.out.kept hst.same).1) HSB.out HRI.out HL2.out hn1 hn2 HSd.out
          have HST := hid hst
          have hzl : N = zs.length := row_len hst
          have HZL := hid hzl
          clear hst hj hgo d0 d1 d2 d3 d4 hzl
          generalize hll : l2.length = ll at *
          have HLL := hid hll
          clear hll
          rcases hend with ⟨t1, t2⟩ | ⟨⟨t1, t2⟩, rfl⟩
          all_goals
            go_upto_region 13 with (go_at_call 20; refine hL.mono ?_; rintro e w6 ⟨g6, own, rfl, ho6, hr6, s6⟩)
            have HS6 : Hid (St w3 [rowI g4 N N zs, rowI g6 (1 + 3 * n) (1 + 3 * n) own] w6) := hid ((HST.out.join s6).perm (List.Perm.swap _ _ _))
            have HO6 := hid ho6
            have HR6 := hid hr6
            clear s6 ho6 hr6 hL HST c0 c1 c2 c3 c4
            go_wp2
            go_loopw [13] (fun i wr => ∃ (q : Nat) (cs : List Int), i = .int .i64 q ∧ q ≤ 1 + 3 * n ∧ PartIn cs own b q ∧ St w3 [rowI g4 N N cs, rowI g6 (1 + 3 * n) (1 + 3 * n) own] wr) (fun i _ => 1 + 3 * n - (intOf i).toNat)
            case atStart => exact ⟨0, zs, rfl, Nat.zero_le _, fun i hi => by omega, HS6.out⟩
            case round =>
              clear HS6
              obtain ⟨q, cs, rfl, hq, hpi, hst⟩ := hrel
              obtain ⟨hBn, hBm⟩ := HBn.out
              have hcl : N = cs.length := row_len hst
              by_cases hlt : q < 1 + 3 * n
              · have y1 : (q : Int) < 1 + 3 * (n : Int) := by omega
                have y2 : (0 : Int) ≤ (q : Int) := by omega
                have y3 : (q : Int) < ((1 + 3 * n : Nat) : Int) := by omega
                have y4 : (0 : Int) ≤ (b : Int) + (q : Int) := by omega
                have y5 : (b : Int) + (q : Int) < ((N : Nat) : Int) := by omega
                have y6 : ((b : Int) + (q : Int)).toNat = b + q := by omega
                have x1 : wr.cell? ⟨g6, q, none⟩ = some (.int .i64 (own.getD q 0)) := by
                  rw [hst.ownCell 1 rfl q (by omega)]
                  exact xC_at own q (by have := HO6.out.len; omega)
                have f2 : wr.frozen? ⟨g4, b + q, none⟩ = false := row_frozen hst _
                obtain ⟨u2, c9⟩ : ∃ u, wr.cell? ⟨g4, b + q, none⟩ = some u := ⟨_, row_cell hst (j := b + q) (by omega)⟩
                have HT1 := hid (row_set hst (j := b + q) (by omega) (own.getD q 0))
                have HP1 := hid (hpi.step (by omega))
                generalize own.getD q 0 = ov at *
                have HQ := hid hlt
                clear hst hpi hq hlt hcl hBn hBm
                go_wp2
                go_roundw
                case rel => exact ⟨q + 1, _, by push_cast; rfl, by have := HQ.out; omega, HP1.out, HT1.out⟩
                case measure =>
                  have := HQ.out
                  simp [intOf]
                  omega
              · have y1 : ¬ (q : Int) < 1 + 3 * (n : Int) := by omega
                obtain rfl : q = 1 + 3 * n := by omega
                have hall := HO6.out.moved HRI.out (by rw [HLL.out]; exact HR6.out) (by omega) hn2 (show b + (1 + 3 * n) ≤ cs.length by omega) (by omega) hpi
                have hdq : DcIn cs b n l2 := hall
                have hxc : XIn wr (some ⟨g4, 0, none⟩) N cs := row_xin hst
                have HFin : Hid (∃ (b' n' : Nat) (cs' : List Int) (l2' : List Pr) (ca va' : Option Addr) (cc vc' : Nat), Ending.returned (.tuple #[.slice (some ⟨g4, 0, none⟩) N N, .int .i64 b, .int .i64 n, .slice va ll vc]) = .returned (.tuple #[.slice ca cs'.length cc, .int .i64 b', .int .i64 n', .slice va' l2'.length vc']) ∧ XIn wr ca cs'.length cs' ∧ EV wr va' l2'.length vc' l2' ∧ DcIn cs' b' n' l2' ∧ KeysR l2' ∧ Kept (fun _ => False) w wr) := hid ⟨b, n, cs, l2, some ⟨g4, 0, none⟩, va, N, vc, by rw [← hcl, HLL.out], by rw [← hcl]; exact hxc, by rw [HLL.out]; exact HX3.out.kept hst.same, hdq, HSB.out, HT.out _ (HK3.out.trans hst.same (fun _ _ f => f))⟩
                clear hst hpi hq hlt hcl hBn hBm hall hdq hxc
                go_wp2
                refine bodyPost_ret (v := .tuple #[.slice (some ⟨g4, 0, none⟩) N N, .int .i64 b, .int .i64 n, .slice va ll vc]) (by simp [results, Tryz.results28, go_sem]) rfl ?_
                exact HFin.out
  · have t1 : decide (((N : Nat) : Int) < 256) = false := decide_eq_false (by omega)
    have t1' : decide (N < 256) = false := decide_eq_false hfull
    have HSN := HS3
    clear HS5
    go_wp2
    go_loopw [11] (fun i wr => ∃ (j : Nat) (zs : List Int), i = .int .i64 j ∧ j ≤ N ∧ St w3 [rowI g4 N N zs] wr) (fun i _ => N - (intOf i).toNat)
    case atStart => obtain ⟨zs, hz⟩ := HSN.out; exact ⟨0, zs, rfl, Nat.zero_le _, hz⟩
    case round =>
      clear HSN
      obtain ⟨j, zs, rfl, hj, hst⟩ := hrel
      obtain ⟨hBn, hBm⟩ := HBn.out
      obtain ⟨c0, c1, c2, c3, c4⟩ := HC.out wr (HK3.out.trans hst.same (fun _ _ f => f))
      obtain ⟨d0, d1, d2, d3, d4⟩ := HC.out wr.drew (HK3.out.trans hst.drew.same (fun _ _ f => f))
      by_cases hgo : j < N ∧ 0 < mj
      · have t1 : (j : Int) < ((N : Nat) : Int) := by omega
        have t2 : (0 : Int) < (mj : Int) := by omega
        have t3 : (0 : Int) ≤ (j : Int) := by omega
        obtain ⟨gj, oj, rfl⟩ := HJ.out.addr hgo.2
        have hmd : j % mj < mj := Nat.mod_lt _ hgo.2
        have x1 : wr.drew.cell? ⟨gj, oj + j % mj, none⟩ = some (.int .i64 (js.getD (j % mj) 0)) := (HJ.out.kept (HT.out _ (HK3.out.trans hst.drew.same (fun _ _ f => f)))).cell hmd
        have f2 : wr.drew.frozen? ⟨g4, j, none⟩ = false := row_frozen hst.drew _
        obtain ⟨u2, c9⟩ : ∃ u, wr.drew.cell? ⟨g4, j, none⟩ = some u := ⟨_, row_cell hst.drew (j := j) hgo.1⟩
        have HT1 := hid (row_set hst.drew (j := j) hgo.1 (js.getD (j % mj) 0))
        have HT2 := hid (row_set hst (j := j) hgo.1 (js.getD (j % mj) 0)).drew
        have e1 : (j : Int) % (mj : Int) = ((j % mj : Nat) : Int) := by push_cast; rfl
        have e2 : (j : Int).tmod (mj : Int) = ((j % mj : Nat) : Int) := by rw [Int.tmod_eq_emod_of_nonneg (by omega)]; push_cast; rfl
        generalize js.getD (j % mj) 0 = jv at *
        generalize j % mj = r at *
        have z1 : (0 : Int) ≤ (r : Int) := by omega
        have z2 : (r : Int) < (mj : Int) := by omega
        have z3 : ((mj : Int) == 0) = false := by simp; omega
        have z4 : ¬ (mj : Int) = 0 := by omega
        have z5 : (j : Int) ≤ 1000 := by omega
        have HJJ := hid hgo
        clear hst hj hgo hmd
        go_upto_region 11 with fail
        go_region_with fail
        all_goals go_wp2
        all_goals go_roundw
        all_goals first
          | exact ⟨j + 1, _, by push_cast; rfl, by have := HJJ.out; omega, HT1.out⟩
          | exact ⟨j + 1, _, by push_cast; rfl, by have := HJJ.out; omega, HT2.out⟩
          | (have := HJJ.out; simp [intOf]; omega)
      · have hend : (decide ((j : Int) < ((N : Nat) : Int)) = false ∧ decide (j < N) = false) ∨ ((decide ((j : Int) < ((N : Nat) : Int)) = true ∧ decide (j < N) = true) ∧ mj = 0) := by
          by_cases h : j < N
          · exact .inr ⟨⟨decide_eq_true (by omega), decide_eq_true h⟩, by omega⟩
          · exact .inl ⟨decide_eq_false (by omega), decide_eq_false h⟩
        have hL := LayR_any va l2.length vc l2 n seed wr ((HX3.out.kept hst.same).1) HSB.out HRI.out HL2.out hn1 hn2 HSd.out
        have HST := hid hst
        have hzl : N = zs.length := row_len hst
        have HZL := hid hzl
        clear hst hj hgo d0 d1 d2 d3 d4 hzl
        generalize hll : l2.length = ll at *
        have HLL := hid hll
        clear hll
        rcases hend with ⟨t1, t2⟩ | ⟨⟨t1, t2⟩, rfl⟩
        all_goals
          go_upto_region 13 with (go_at_call 20; refine hL.mono ?_; rintro e w6 ⟨g6, own, rfl, ho6, hr6, s6⟩)
          have HS6 : Hid (St w3 [rowI g4 N N zs, rowI g6 (1 + 3 * n) (1 + 3 * n) own] w6) := hid ((HST.out.join s6).perm (List.Perm.swap _ _ _))
          have HO6 := hid ho6
          have HR6 := hid hr6
          clear s6 ho6 hr6 hL HST c0 c1 c2 c3 c4
          go_wp2
          go_loopw [13] (fun i wr => ∃ (q : Nat) (cs : List Int), i = .int .i64 q ∧ q ≤ 1 + 3 * n ∧ PartIn cs own b q ∧ St w3 [rowI g4 N N cs, rowI g6 (1 + 3 * n) (1 + 3 * n) own] wr) (fun i _ => 1 + 3 * n - (intOf i).toNat)
          case atStart => exact ⟨0, zs, rfl, Nat.zero_le _, fun i hi => by omega, HS6.out⟩
          case round =>
            clear HS6
            obtain ⟨q, cs, rfl, hq, hpi, hst⟩ := hrel
            obtain ⟨hBn, hBm⟩ := HBn.out
            have hcl : N = cs.length := row_len hst
            by_cases hlt : q < 1 + 3 * n
            · have y1 : (q : Int) < 1 + 3 * (n : Int) := by omega
              have y2 : (0 : Int) ≤ (q : Int) := by omega
              have y3 : (q : Int) < ((1 + 3 * n : Nat) : Int) := by omega
              have y4 : (0 : Int) ≤ (b : Int) + (q : Int) := by omega
              have y5 : (b : Int) + (q : Int) < ((N : Nat) : Int) := by omega
              have y6 : ((b : Int) + (q : Int)).toNat = b + q := by omega
              have x1 : wr.cell? ⟨g6, q, none⟩ = some (.int .i64 (own.getD q 0)) := by
                rw [hst.ownCell 1 rfl q (by omega)]
                exact xC_at own q (by have := HO6.out.len; omega)
              have f2 : wr.frozen? ⟨g4, b + q, none⟩ = false := row_frozen hst _
              obtain ⟨u2, c9⟩ : ∃ u, wr.cell? ⟨g4, b + q, none⟩ = some u := ⟨_, row_cell hst (j := b + q) (by omega)⟩
              have HT1 := hid (row_set hst (j := b + q) (by omega) (own.getD q 0))
              have HP1 := hid (hpi.step (by omega))
              generalize own.getD q 0 = ov at *
              have HQ := hid hlt
              clear hst hpi hq hlt hcl hBn hBm
              go_wp2
              go_roundw
              case rel => exact ⟨q + 1, _, by push_cast; rfl, by have := HQ.out; omega, HP1.out, HT1.out⟩
              case measure =>
                have := HQ.out
                simp [intOf]
                omega
            · have y1 : ¬ (q : Int) < 1 + 3 * (n : Int) := by omega
              obtain rfl : q = 1 + 3 * n := by omega
              have hall := HO6.out.moved HRI.out (by rw [HLL.out]; exact HR6.out) (by omega) hn2 (show b + (1 + 3 * n) ≤ cs.length by omega) (by omega) hpi
              have hdq : DcIn cs b n l2 := hall
              have hxc : XIn wr (some ⟨g4, 0, none⟩) N cs := row_xin hst
              have HFin : Hid (∃ (b' n' : Nat) (cs' : List Int) (l2' : List Pr) (ca va' : Option Addr) (cc vc' : Nat), Ending.returned (.tuple #[.slice (some ⟨g4, 0, none⟩) N N, .int .i64 b, .int .i64 n, .slice va ll vc]) = .returned (.tuple #[.slice ca cs'.length cc, .int .i64 b', .int .i64 n', .slice va' l2'.length vc']) ∧ XIn wr ca cs'.length cs' ∧ EV wr va' l2'.length vc' l2' ∧ DcIn cs' b' n' l2' ∧ KeysR l2' ∧ Kept (fun _ => False) w wr) := hid ⟨b, n, cs, l2, some ⟨g4, 0, none⟩, va, N, vc, by rw [← hcl, HLL.out], by rw [← hcl]; exact hxc, by rw [HLL.out]; exact HX3.out.kept hst.same, hdq, HSB.out, HT.out _ (HK3.out.trans hst.same (fun _ _ f => f))⟩
              clear hst hpi hq hlt hcl hBn hBm hall hdq hxc
              go_wp2
              refine bodyPost_ret (v := .tuple #[.slice (some ⟨g4, 0, none⟩) N N, .int .i64 b, .int .i64 n, .slice va ll vc]) (by simp [results, Tryz.results28, go_sem]) rfl ?_
              exact HFin.out
end Go.Proofs.YtbpilhjomfkpaaaGreatDoor
