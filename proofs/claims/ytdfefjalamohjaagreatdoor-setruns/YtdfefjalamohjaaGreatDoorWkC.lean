/- Package set: keys, and the library's Values: what they hand on. Package set: rising. -/
import Derived.Test.YtdfefjalamohjaaGreatDoorWkA
import Derived.Maps.OwnIn
namespace Go.Proofs.YtdfefjalamohjaaGreatDoor
open Go.RowKit Go.Shelf
set_option linter.unusedVariables false
set_option linter.unusedSimpArgs false
attribute [local go_sem ↓] Go.wp_at_zero Go.wp_at_succ
attribute [local go_sem] Oper.semAt_some

set_option maxHeartbeats 1000000 in
theorem Values_any {o w : World} {R : List It} (h : St o R w) (la : Option Addr) (m lc : Nat) : Calls Tryz.prog 38 #[.slice la m lc] w fun e w' =>
    ∃ bp, e = .returned (.func (.func 61) #[] #[.pointer (some ⟨bp, 0, none⟩)]) ∧ St o (boxI bp #[.slice la m lc] 24 :: R) w' := by
  have HS := hid (h.box #[.slice la m lc] 24)
  clear h
  go_enter Tryz.func38, Tryz.ntmps38
  go_wp2
  go_ret
  exact ⟨_, rfl, HS.out⟩
set_option maxHeartbeats 1000000 in
theorem keys_any {o w : World} {R : List It} (h : St o R w) (la : Option Addr) (m lc : Nat) : Calls Tryz.prog 35 #[.slice la m lc] w fun e w' =>
    ∃ bp, e = .returned (.func (.func 59) #[] #[.pointer (some ⟨bp, 0, none⟩)]) ∧ St o (boxI bp #[.slice la m lc] 24 :: R) w' := by
  have HS := hid (h.box #[.slice la m lc] 24)
  clear h
  go_enter Tryz.func35, Tryz.ntmps35
  go_wp2
  go_ret
  exact ⟨_, rfl, HS.out⟩
/-- An iterator that tells the list zs. -/
abbrev TellsL (P : Program) (o : World) (g : Nat) (lb : Array Value) (zs : List Int) (Rq : List It) : Prop :=
  Tells P o g lb (Value.int .i64) (fun pre x => pre ++ [x] <+: zs) (fun xs => xs = zs) (fun pre => pre <+: zs) Rq
theorem take_snoc (zs : List Int) {k : Nat} (hk : k < zs.length) : zs.take (k + 1) = zs.take k ++ [zs.getD k 0] := by
  rw [List.take_succ_eq_append_getElem hk]
  simp [List.getD_eq_getElem?_getD, hk]
set_option maxRecDepth 100000 in
set_option maxHeartbeats 4000000 in
theorem values_tells {o : World} {la : Option Addr} {m lc : Nat} {zs : List Int} (hX : XIn o la m zs) (hm : m ≤ 9223372036854775807) (bp : Nat) :
    TellsL Tryz.prog o 61 #[.pointer (some ⟨bp, 0, none⟩)] zs [boxI bp #[.slice la m lc] 24] := by
  generalize hRQ : [boxI bp #[.slice la m lc] 24] = RQ
  intro l K Kx T N W hN hY h0
  show CallsIn _ _ _ _ #[.func (.yield l) #[] #[], .pointer (some ⟨bp, 0, none⟩)] _ _
  have HF : ∀ pre W', Sat o K (RQ ++ T) pre W' → W'.cell? ⟨bp, 0, none⟩ = some (.slice la m lc) ∧ XIn W' la m zs := fun pre W' hs => by
    obtain ⟨X, _, hs⟩ := hs
    subst hRQ
    exact ⟨box_at hs (k := bp) (cs := #[.slice la m lc]) (t := 24) (by simp) 0, hX.kept hs.same⟩
  have c0 := (HF [] W h0).1
  clear hRQ
  have hz := hid hX.1
  replace HF := hid HF
  replace hY := hid hY
  clear hN hX
  refine callsIn_of_wp Tryz.func61 rfl trivial ?_ rfl
  simp only [Tryz.ntmps61, List.size_toArray, List.length_cons, List.length_nil, Nat.reduceAdd, Nat.reduceSub, Array.replicate_succ, Array.replicate_zero, List.push_toArray, List.append_toArray, List.nil_append, List.cons_append]
  gi_wp2
  clear c0
  gi_loopw [7] (fun i wr => ∃ k : Nat, k ≤ m ∧ i = .int .i64 k ∧ Sat o K (RQ ++ T) (zs.take k) wr) (fun i _ => m - (intOf i).toNat)
  case atStart => exact ⟨0, Nat.zero_le _, rfl, h0⟩
  case round =>
    obtain ⟨k, hk, rfl, hS⟩ := hrel
    by_cases hlt : k < m
    · have hpre : zs.take k ++ [zs.getD k 0] <+: zs := by
        rw [← take_snoc zs (by have := hz.out; omega)]
        exact List.take_prefix _ _
      obtain ⟨fn, tmps, assign, body, hy, hR⟩ := hY.out T _ (zs.getD k 0) wr hpre hS
      have hX := (HF.out _ _ hS).2
      obtain ⟨g, off, rfl⟩ := hX.addr (by omega)
      have c1 := hX.cell hlt
      have hsn := hid (take_snoc zs (k := k) (by have := hz.out; omega))
      replace hpre := hid hpre
      clear hX
      generalize zs.getD k 0 = z at *
      have t0 : (0 : Int) ≤ (k : Int) := by omega
      have t1 : (k : Int) < (m : Int) := by omega
      gi_wp2
      refine (roundIn_any hR).mono ?_
      rintro e W3 (⟨rfl, hS3⟩ | ⟨rfl, hS3⟩)
      · clear hR hy c1
        gi_wp2
        go_roundw
        case rel => exact ⟨k + 1, by omega, by simp, by rw [hsn.out]; exact hS3⟩
        case measure => simp [intOf]; omega
      · gi_wp2
        refine bodyPost_ret (results_none rfl _ _ _) rfl ?_
        exact ⟨⟨_, rfl⟩, .inr ⟨_, hpre.out, hS3⟩⟩
    · obtain rfl : k = m := by omega
      have he := hid (List.take_of_length_le (l := zs) (i := k) (by have := hz.out; omega))
      gi_wp2
      go_end0
      exact ⟨⟨_, rfl⟩, .inl ⟨zs, rfl, by rw [← he.out]; exact hS⟩⟩
theorem perm_keys (y p : It) (Y Q T : List It) : ((y :: p :: Y) ++ (Q ++ T)).Perm (Y ++ ([p] ++ (y :: (Q ++ T)))) := by
  have h1 : (p :: (Y ++ (Q ++ T))).Perm (Y ++ p :: (Q ++ T)) := perm_in p Y (Q ++ T)
  have h2 : (y :: (Y ++ p :: (Q ++ T))).Perm (Y ++ p :: y :: (Q ++ T)) := by
    have := perm_in y (Y ++ [p]) (Q ++ T)
    simpa only [List.append_assoc, List.cons_append, List.nil_append] using this
  exact (h1.cons y).trans h2
theorem perm_keys0 (y p : It) (Y Q T : List It) : (Q ++ (y :: (Y ++ p :: T))).Perm ((y :: p :: Y) ++ (Q ++ T)) := by
  have h1 : (Q ++ (y :: (Y ++ p :: T))).Perm (y :: (Q ++ (Y ++ p :: T))) := (perm_in y Q _).symm
  have h2 : (Q ++ (Y ++ p :: T)).Perm (p :: (Q ++ (Y ++ T))) := by
    have := (perm_in p (Q ++ Y) T).symm
    simpa only [List.append_assoc] using this
  have h3 : (Q ++ (Y ++ T)).Perm (Y ++ (Q ++ T)) := List.perm_append_comm_assoc _ _ _
  exact h1.trans (((h2.trans (h3.cons p))).cons y)
theorem perm_keys9 (y p d : It) (Y Q T : List It) : ((y :: p :: Y) ++ (d :: (Q ++ T))).Perm (d :: ((Y ++ ([p] ++ T)) ++ (y :: Q))) := by
  have h1 : ((y :: p :: Y) ++ (d :: (Q ++ T))).Perm (d :: ((y :: p :: Y) ++ (Q ++ T))) := (perm_in d (y :: p :: Y) (Q ++ T)).symm
  have h2 := perm_keys y p Y Q T
  have h3 : (y :: (Q ++ T)).Perm (T ++ y :: Q) := by
    have := List.perm_append_comm (l₁ := y :: Q) (l₂ := T)
    simpa only [List.cons_append] using this
  have h4 : (Y ++ ([p] ++ (y :: (Q ++ T)))).Perm ((Y ++ ([p] ++ T)) ++ (y :: Q)) := by
    have := (h3.append_left [p]).append_left Y
    simpa only [List.append_assoc] using this
  exact h1.trans ((h2.trans h4).cons d)
set_option maxRecDepth 100000 in
set_option maxHeartbeats 4000000 in
theorem keys_tells {o : World} {g off lc n : Nat} {L ns : List Int} (hX : XIn o (some ⟨g, off, none⟩) (3 + 2 * n) L) (hn : n ≤ 60) (bp : Nat) (hT : Tr L n (L.getD 0 0) ns 0) (hns : ∀ k ∈ ns, isN n k = true) :
    TellsL Tryz.prog o 59 #[.pointer (some ⟨bp, 0, none⟩)] (ns.map (keyM L)) [boxI bp #[.slice (some ⟨g, off, none⟩) (3 + 2 * n) lc] 24] := by
  intro l K Kx T N W hN hY h0
  obtain ⟨X0, hK0, hs0⟩ := h0
  show CallsIn _ _ _ _ #[.func (.yield l) #[] #[], .pointer (some ⟨bp, 0, none⟩)] _ _
  have hwt := hid fun bf bp' => walk_tells (lc := lc) hX hn bf bp' (L.getD 0 0)
  have hs1 := hs0.box #[.func (.yield l) #[] #[]] 113
  have cell0 : ∀ W' its, St o its W' → XIn W' (some ⟨g, off, none⟩) (3 + 2 * n) L := fun W' its hs => hX.kept hs.same
  generalize hw1 : W.alloc (.cells #[.func (.yield l) #[] #[]] 113) = w1 at *
  generalize hM : W.heap.size = M at *
  have c1 : w1.drew.cell? ⟨bp, 0, none⟩ = some (.slice (some ⟨g, off, none⟩) (3 + 2 * n) lc) := box_at hs1.drew (k := bp) (cs := #[.slice (some ⟨g, off, none⟩) (3 + 2 * n) lc]) (t := 24) (by simp) 0
  have c2 : w1.drew.cell? ⟨g, off, none⟩ = some (.int .i64 (L.getD 0 0)) := (cell0 _ _ hs1.drew).cell (j := 0) (by omega)
  have hb0 : (0 : Int) < ((3 + 2 * n : Nat) : Int) := by omega
  have hw := walk_any hs1.drew (some ⟨g, off, none⟩) (3 + 2 * n) lc (L.getD 0 0)
  have hf1 : Fence.wide.fn 57 := trivial
  have hf2 : Fence.wide.fn 60 := trivial
  have hmx : (Tryz.prog).follows .mixedOrders = true := by kernel_rfl
  replace cell0 := hid cell0
  replace hT := hid hT
  replace hns := hid hns
  replace hN := hid hN
  replace hY := hid hY
  clear hs0 hs1 hX
  generalize hf : L.getD 0 0 = f at *
  clear hf
  have hm := hid (show 3 + 2 * n = 3 + 2 * n from rfl)
  refine callsIn_of_wp_marks Tryz.func59 rfl trivial ?_
  simp only [Tryz.ntmps59, List.size_toArray, List.length_cons, List.length_nil, Nat.reduceAdd, Nat.reduceSub, Array.replicate_succ, Array.replicate_zero, List.push_toArray, List.append_toArray, List.nil_append, List.cons_append]
  gi_wp2_with (simp only [hw1, hM])
  refine (fun key : ?KEY ∧ True => ?main) ⟨?keyproof, trivial⟩
  case main =>
    gi_region_with_o (gi_at_call 57; refine (callsIn_wide.2 hw).mono ?_; rintro e w2 ⟨bf, bp', rfl, hs2⟩)
    all_goals
      gi_wp2
      revert hs2
      revert w2 bf bp'
      exact key.1
  case keyproof =>
    intro w2 bf bp' hs2
    clear c1 hw1 hM hb0
    refine rf_law (o := o) (T := T) (enc := Value.int .i64) rfl (enters_of Tryz.func78 (by kernel_rfl) rfl) (hwt.out bf bp') rfl
      (fun ms X => ∃ Y, X = boxI M #[.func (.yield l) #[] #[]] 113 :: boxI bp #[.slice (some ⟨g, off, none⟩) (3 + 2 * n) lc] 24 :: Y ∧ K (ms.map (keyM L)) Y)
      (fun c ms X => c = .ret ∧ ∃ Y, X = boxI M #[.func (.yield l) #[] #[]] 113 :: boxI bp #[.slice (some ⟨g, off, none⟩) (3 + 2 * n) lc] 24 :: Y ∧ Kx (ms.map (keyM L)) Y)
      N (fun pre X hX => by obtain ⟨Y, _, hY⟩ := hX; simpa using hN.out _ _ hY) ⟨_, ⟨X0, rfl, hK0⟩, hs2.perm (perm_keys0 _ _ X0 [_, _] T)⟩
      (fun x => { tmps := #[.func (.yield l) #[] #[], .pointer (some ⟨bp, 0, none⟩), .pointer (some ⟨M, 0, none⟩), .int .i64 x, .slice (some ⟨g, off, none⟩) (3 + 2 * n) lc, .slice (some ⟨g, off, none⟩) (3 + 2 * n) lc, .pointer (some ⟨g, off, none⟩), .int .i64 f, .func (.func 78) #[] #[.pointer (some ⟨bf, 0, none⟩), .pointer (some ⟨bp', 0, none⟩)], .int .i64 x, undef, undef, undef, undef, undef, undef, undef, undef], defers := [] }) ?assign ?round ?done ?stop
    case assign =>
      intro l' x W' C hC
      gi_wp2
      exact hC
    case round =>
      rintro l' T' pre x W' ⟨hTr, hx0⟩ ⟨_, ⟨Y, rfl, hK⟩, hs⟩
      have hpre : pre ++ [x] <+: ns := hT.out.pre (hTr.snoc hx0)
      have hxn : isN n x = true := hns.out x (hpre.subset (by simp))
      obtain ⟨hx1, hx2⟩ := isN_iff.1 hxn
      obtain ⟨kx, rfl⟩ : ∃ kx : Nat, x = (kx : Int) := ⟨x.toNat, by omega⟩
      have hmp : pre.map (keyM L) ++ [keyM L kx] <+: ns.map (keyM L) := by
        have := hpre.map (keyM L)
        simpa using this
      have hs' := hs.drew
      have hyy := hY.out (boxI M #[.func (.yield l) #[] #[]] 113 :: (wkRq bf bp' g off n lc f ++ T')) (pre.map (keyM L)) (keyM L kx) W'.drew hmp ⟨Y, hK, hs'.perm (perm_keys _ _ Y _ T')⟩
      have d1 : W'.drew.cell? ⟨M, 0, none⟩ = some (.func (.yield l) #[] #[]) := box_at hs' (k := M) (cs := #[.func (.yield l) #[] #[]]) (t := 113) (by simp) 0
      have d2 : W'.drew.cell? ⟨bp, 0, none⟩ = some (.slice (some ⟨g, off, none⟩) (3 + 2 * n) lc) := box_at hs' (k := bp) (cs := #[.slice (some ⟨g, off, none⟩) (3 + 2 * n) lc]) (t := 24) (by simp) 0
      have d3 : W'.drew.cell? ⟨g, off + (1 + 2 * kx), none⟩ = some (.int .i64 (keyM L kx)) := by
        rw [(cell0.out _ _ hs').cell (j := 1 + 2 * kx) (by omega)]
        simp [keyM]
      have hb1 : ((1 + 2 * kx : Nat) : Int) < ((3 + 2 * n : Nat) : Int) := by omega
      have hb0 : (0 : Int) ≤ ((1 + 2 * kx : Nat) : Int) := by omega
      have hl := keyAt_any kx (by omega)
      have hsn := hid (show (pre ++ [(kx : Int)]).map (keyM L) = pre.map (keyM L) ++ [keyM L kx] by simp)
      generalize keyM L kx = y at *
      generalize hq : 1 + 2 * kx = q at *
      generalize hm : 3 + 2 * n = m at *
      clear hq hm hpre hxn hx1 hx2 hs hs' hTr hx0 hmp cell0
      obtain ⟨fn, tmps, assign, body, hy, hR⟩ := hyy
      generalize hRQ : wkRq bf bp' g off n lc f = RQ at *
      have HE : Hid (∀ a W3, Sat o K ([boxI bp #[.slice (some ⟨g, off, none⟩) m lc] 24] ++ (boxI M #[.func (.yield l) #[] #[]] 113 :: (RQ ++ T'))) (pre.map (keyM L) ++ [y]) W3 → EndsR o (fun ms X => ∃ Y, X = boxI M #[.func (.yield l) #[] #[]] 113 :: boxI bp #[.slice (some ⟨g, off, none⟩) m lc] 24 :: Y ∧ K (ms.map (keyM L)) Y)
          (fun c ms X => c = .ret ∧ ∃ Y, X = boxI M #[.func (.yield l) #[] #[]] 113 :: boxI bp #[.slice (some ⟨g, off, none⟩) m lc] 24 :: Y ∧ Kx (ms.map (keyM L)) Y) (RQ ++ T') (pre ++ [(kx : Int)]) .normal a W3) := fun a W3 h3 => by
        obtain ⟨Y', hK', h3⟩ := h3
        exact ⟨_, ⟨Y', rfl, by rw [hsn.out]; exact hK'⟩, h3.perm (perm_keys _ _ Y' RQ T').symm⟩
      have HX : Hid (∀ a W3, Sat o Kx ([boxI bp #[.slice (some ⟨g, off, none⟩) m lc] 24] ++ (boxI M #[.func (.yield l) #[] #[]] 113 :: (RQ ++ T'))) (pre.map (keyM L) ++ [y]) W3 → EndsR o (fun ms X => ∃ Y, X = boxI M #[.func (.yield l) #[] #[]] 113 :: boxI bp #[.slice (some ⟨g, off, none⟩) m lc] 24 :: Y ∧ K (ms.map (keyM L)) Y)
          (fun c ms X => c = .ret ∧ ∃ Y, X = boxI M #[.func (.yield l) #[] #[]] 113 :: boxI bp #[.slice (some ⟨g, off, none⟩) m lc] 24 :: Y ∧ Kx (ms.map (keyM L)) Y) (RQ ++ T') (pre ++ [(kx : Int)]) .ret a W3) := fun a W3 h3 => by
        obtain ⟨Y', hK', h3⟩ := h3
        exact ⟨_, ⟨rfl, Y', rfl, by rw [hsn.out]; exact hK'⟩, h3.perm (perm_keys _ _ Y' RQ T').symm⟩
      have hR2 : RoundIn Fence.wide 9 Tryz.prog l fn tmps assign body W'.drew fun e W3 => ∃ b, e = .returned (.bool b) ∧ Hid (if b = true then Sat o K ([boxI bp #[.slice (some ⟨g, off, none⟩) m lc] 24] ++ (boxI M #[.func (.yield l) #[] #[]] 113 :: (RQ ++ T'))) (pre.map (keyM L) ++ [y]) W3 else Sat o Kx ([boxI bp #[.slice (some ⟨g, off, none⟩) m lc] 24] ++ (boxI M #[.func (.yield l) #[] #[]] 113 :: (RQ ++ T'))) (pre.map (keyM L) ++ [y]) W3) := hR.mono (by
        rintro e W3 (⟨rfl, h3⟩ | ⟨rfl, h3⟩)
        · exact ⟨true, rfl, h3⟩
        · exact ⟨false, rfl, h3⟩)
      generalize EndsR o _ _ (RQ ++ T') (pre ++ [(kx : Int)]) = E at *
      clear hR hsn hY hK hRQ hwt hT hns hN
      gi_wp2
      refine (fun key2 : ?KEY2 ∧ True => ?main2) ⟨?keyproof2, trivial⟩
      case main2 =>
        gi_region_with_o (first | (gi_at_call 60; refine (callsIn_in (hl _)).mono ?_; rintro e w' ⟨rfl, rfl⟩) | (refine (roundIn_in hR2).mono ?_; rintro e W3 ⟨b, rfl, h3⟩))
        all_goals
          revert h3
          revert W3 b
          exact key2.1
      case keyproof2 =>
        intro W3 b h3
        cases b with
        | true =>
          gi_wp2
          exact HE.out _ _ h3
        | false =>
          gi_wp2
          exact HX.out _ _ h3
    case done =>
      rintro D xs W' hS ⟨_, ⟨Y, rfl, hK⟩, hs⟩
      have hs' := hs.perm (perm_keys9 _ _ _ Y _ T)
      have hd : W'.heap[D]? = some (.deferred (some [])) := hs'.get 0 rfl
      have hs2 := hid hs'.shutD.cut
      have he := hid (hS.uniq hT.out)
      clear hs hs'
      gi_wp2
      refine ⟨by simp, .inl ⟨_, _, rfl, run_takeDeferred hd, ?_⟩⟩
      exact ⟨_, results_none rfl _ _ _, ⟨_, rfl⟩, .inl ⟨_, rfl, Y, by rw [← he.out]; exact hK, hs2.out⟩⟩
    case stop =>
      rintro D c pre W' ⟨p, x, rfl, hTr, hx0⟩ ⟨_, ⟨rfl, Y, rfl, hK⟩, hs⟩
      have hs' := hs.perm (perm_keys9 _ _ _ Y _ T)
      have hd : W'.heap[D]? = some (.deferred (some [])) := hs'.get 0 rfl
      have hs2 := hid hs'.shutD.cut
      have he := hid ((hT.out.pre (hTr.snoc hx0)).map (keyM L))
      clear hs hs' hTr
      gi_wp2
      refine ⟨by simp, .inl ⟨_, _, rfl, run_takeDeferred hd, ?_⟩⟩
      exact ⟨_, results_none rfl _ _ _, ⟨_, rfl⟩, .inr ⟨_, he.out, Y, hK, hs2.out⟩⟩
end Go.Proofs.YtdfefjalamohjaaGreatDoor

namespace Go.Proofs.YtdfefjalamohjaaGreatDoor
open Go.RowKit Go.Shelf
set_option linter.unusedVariables false
set_option linter.unusedSimpArgs false
attribute [local go_sem ↓] Go.wp_at_zero Go.wp_at_succ
attribute [local go_sem] Oper.semAt_some

/-- What rising keeps: its results' boxes, the list and its box. -/
abbrev rsX (B1 B2 B3 : Nat) (v : Value) (pre : List Int) : List It := [boxI B3 #[v] 24, ownI 2 1 v pre.length (xC pre), boxI B1 #[.slice none 0 0] 24, boxI B2 #[.bool false] 4]
section
variable {o w : World} {B1 B2 B3 : Nat} {v : Value} {pre : List Int} {R : List It}
theorem rs_grow {c : Nat} (h : St o (rsX B1 B2 B3 v pre ++ R) w) {ob : Obj} {x : Int} {v' : Value} {w1 : World} (hown : w1.ownsRow 0 2 1 v' (pre.length + 1) (xC pre ++ [.int .i64 x])) (hg : (w.alloc ob).grownBy w1 v.ownBlock) (hat : v'.ownBlock = v.ownBlock ∨ v'.ownBlock = some (w.alloc ob).heap.size) :
    w1.cell? ⟨B3, 0, none⟩ = some v ∧ w1.frozen? ⟨B3, 0, none⟩ = false ∧ St o (rsX B1 B2 B3 v' (pre ++ [x]) ++ R) (w1.setCell ⟨B3, 0, none⟩ v') := by
  have s1 := h.ownGrow 1 rfl hown (((Kept.refl _ w).alloc ob).grown hg (fun k e => .inl e)) (by
    rcases hat with e | e
    · exact .inl e
    · exact .inr ⟨_, e, by rw [alloc_size]; omega⟩)
  have s2 := s1.write 0 rfl 0 v'
  refine ⟨s1.cell 0 rfl 0, s1.frozen 0 rfl 0, ?_⟩
  have e1 : (pre ++ [x]).length = pre.length + 1 := by simp
  have e2 : xC (pre ++ [x]) = xC pre ++ [.int .i64 x] := by simp [xC]
  show St o (boxI B3 #[v'] 24 :: ownI 2 1 v' (pre ++ [x]).length (xC (pre ++ [x])) :: _) _
  rw [e1, e2]
  exact s2
end
theorem last_cell {w : World} {v : Value} {pre : List Int} (h : w.ownsRow 0 2 1 v pre.length (xC pre)) (h0 : 0 < pre.length) : ∃ g cap, v = .slice (some ⟨g, 0, none⟩) pre.length cap ∧ w.cell? ⟨g, pre.length - 1, none⟩ = some (.int .i64 (pre.getD (pre.length - 1) 0)) := by
  obtain ⟨g, cap, e, _, _⟩ := h.form h0
  subst e
  refine ⟨g, cap, rfl, ?_⟩
  rw [h.cellAt (pre.length - 1) (by rw [Nat.mul_one]; omega)]
  exact xC_at pre _ (by omega)
theorem wpListIn_append_one {F : Fence} {nF : Nat} {ops : Array Oper} {rest : List Oper} {o : Oper} {a : Act} {Q : Exit → Act → World → Prop} (w : World) (hgd : o.guard = none) (s x : Operand)
    (ho : o.op = .call { callee := .builtin .append, args := #[s, x], argTypes := #[24, 24] })
    (v : Value) (n : Nat) (xs : List Value) (hs : a.eval s = v) (hown : w.ownsRow 0 2 1 v n xs) (ad : Addr) (z : Int) (hx : a.eval x = .slice (some ad) 1 1) (hc : w.cell? ad = some (.int .i64 z))
    (h63 : n + 1 ≤ maxLen) (hb : (n + 1) * 8 ≤ 140737488355328)
    (h : ∀ g cap w', w'.ownsRow 0 2 1 (.slice (some ⟨g, 0, none⟩) (n + 1) cap) (n + 1) (xs ++ [.int .i64 z]) → w.grownBy w' v.ownBlock → ((Value.slice (some ⟨g, 0, none⟩) (n + 1) cap).ownBlock = v.ownBlock ∨ (Value.slice (some ⟨g, 0, none⟩) (n + 1) cap).ownBlock = some w.heap.size) → wpListIn F nF Tryz.prog ops Q rest (a.put o.dst (.slice (some ⟨g, 0, none⟩) (n + 1) cap)) w') :
    wpListIn F nF Tryz.prog ops Q (o :: rest) a w := by
  obtain ⟨i0, hi0, hz0, hz1, hz2⟩ := info_parts Tryz.infoX
  refine wpListIn_append_own_at w hgd s x 24 ho 0 2 i0 _ 1 8 Tryz.underlying24 hi0 hz0 hz1 hz2 rfl (by omega) v n xs hs hown ad 1 1 [.int .i64 z] hx rfl ?_ (by simp [Value.oneCell']) h63 hb (Nat.zero_le _) ?_
  · intro j u hu
    obtain ⟨hj, rfl⟩ := List.getElem?_eq_some_iff.1 hu
    obtain rfl : j = 0 := by simpa using hj
    simpa [Addr.add] using hc
  · intro v' w1 hown' hgrow _ hat
    obtain ⟨g', cap', e, _, _⟩ := hown'.form (Nat.succ_pos _)
    subst e
    exact h g' cap' w1 hown' hgrow hat
set_option maxRecDepth 100000 in
set_option maxHeartbeats 8000000 in
theorem rising_any {o w : World} {gf : Nat} {lb : Array Value} {zs : List Int} {Rq T : List It} (ht : TellsL Tryz.prog o gf lb zs Rq) (eg : ∀ args w, (callFunc gf args).run Tryz.prog w = .ok (.enter gf args) w) (h : St o (Rq ++ T) w) (hz : zs.length * 8 ≤ 140737488355328) :
    Calls Tryz.prog 34 #[.func (.func gf) #[] lb] w fun e w' =>
      if risesB zs = true then ∃ v, e = .returned (.tuple #[v, .bool true]) ∧ St o (ownI 2 1 v zs.length (xC zs) :: (Rq ++ T)) w' else e = .returned (.tuple #[.slice none 0 0, .bool false]) ∧ St o (Rq ++ T) w' := by
  have HP1 : Hid (risesB zs = true → ∀ v w', St o (ownI 2 1 v zs.length (xC zs) :: (Rq ++ T)) w' → (fun e w' => if risesB zs = true then ∃ v, e = .returned (.tuple #[v, .bool true]) ∧ St o (ownI 2 1 v zs.length (xC zs) :: (Rq ++ T)) w' else e = .returned (.tuple #[.slice none 0 0, .bool false]) ∧ St o (Rq ++ T) w') (Ending.returned (.tuple #[v, .bool true])) w') := fun hr v w' h' => by
    simp only [if_pos hr]
    exact ⟨v, rfl, h'⟩
  have HP2 : Hid (risesB zs = false → ∀ w', St o (Rq ++ T) w' → (fun e w' => if risesB zs = true then ∃ v, e = .returned (.tuple #[v, .bool true]) ∧ St o (ownI 2 1 v zs.length (xC zs) :: (Rq ++ T)) w' else e = .returned (.tuple #[.slice none 0 0, .bool false]) ∧ St o (Rq ++ T) w') (Ending.returned (.tuple #[.slice none 0 0, .bool false])) w') := fun hr w' h' => by
    show if risesB zs = true then _ else _
    rw [if_neg (by rw [hr]; decide)]
    exact ⟨rfl, h'⟩
  generalize (fun (e : Ending) (w' : World) => if risesB zs = true then ∃ v, e = .returned (.tuple #[v, .bool true]) ∧ St o (ownI 2 1 v zs.length (xC zs) :: (Rq ++ T)) w' else e = .returned (.tuple #[.slice none 0 0, .bool false]) ∧ St o (Rq ++ T) w') = Qp at *
  refine callsIn_wide (n := 9) |>.1 ?_
  have hbs := buildX0 ((w.alloc (.cells #[.slice none 0 0] 24)).alloc (.cells #[.bool false] 4))
  have s1 := ((h.box #[.slice none 0 0] 24).box #[.bool false] 4)
  have s2 := s1.new64 [] (by simp)
  have s3 := s2.box #[.slice (some ⟨w.heap.size + 1 + 1, 0, none⟩) 0 0] 24
  simp only [alloc_size, xC, List.map_nil, List.length_nil] at s3 hbs
  have s4 : St o (rsX w.heap.size (w.heap.size + 1) (w.heap.size + 1 + 1 + 1) (.slice (some ⟨w.heap.size + 1 + 1, 0, none⟩) 0 0) [] ++ (Rq ++ T)) _ := s3.perm (by
    refine List.Perm.cons _ (List.Perm.cons _ (List.Perm.swap _ _ _)))
  clear s1 s2 s3 h
  refine callsIn_of_wp_marks Tryz.func34 rfl trivial ?_
  simp only [Tryz.ntmps34, List.size_toArray, List.length_cons, List.length_nil, Nat.reduceAdd, Nat.reduceSub, Array.replicate_succ, Array.replicate_zero, List.push_toArray, List.append_toArray, List.nil_append, List.cons_append]
  gi_wp2_with (simp only [hbs])
  generalize w.heap.size + 1 + 1 + 1 = B3 at *
  generalize w.heap.size + 1 + 1 = G0 at *
  generalize w.heap.size + 1 = B2 at *
  generalize w.heap.size = B1 at *
  generalize hw5 : World.alloc _ (Obj.cells #[Value.slice (some { block := G0, off := 0 }) 0 0] 24) = w5 at *
  clear hw5 hbs
  refine rf_law (o := o) (T := T) (enc := Value.int .i64) rfl eg ht rfl
    (fun pre X => ∃ v, X = rsX B1 B2 B3 v pre ∧ Hid (risesB pre = true) ∧ Hid (pre.length ≤ zs.length))
    (fun c pre X => c = .ret ∧ Hid (risesB pre = false) ∧ ∃ v xs, X = rsX B1 B2 B3 v xs)
    zs.length (fun pre X hX => by obtain ⟨v, _, _, h⟩ := hX; exact h.out) ⟨_, ⟨_, rfl, hid rfl, hid (Nat.zero_le _)⟩, s4⟩
    (fun x => { tmps := #[.func (.func gf) #[] lb, undef, .pointer (some ⟨B1, 0, none⟩), .pointer (some ⟨B2, 0, none⟩), .pointer (some ⟨B3, 0, none⟩), .int .i64 x, .slice (some ⟨G0, 0, none⟩) 0 0, .func (.func gf) #[] lb, .int .i64 x, undef, undef, undef, undef, undef, undef, undef, undef, undef, undef, undef, undef, undef, undef, undef, undef, undef, undef], defers := [] }) ?assign ?round ?done ?stop
  case assign =>
    intro l' x W' C hC
    gi_wp2
    exact hC
  case round =>
    rintro l' T' pre x W' hpre ⟨_, ⟨v, rfl, hri, hle⟩, hs⟩
    have hlen : (pre ++ [x]).length ≤ zs.length := hpre.length_le
    rw [List.length_append, List.length_cons, List.length_nil] at hlen
    have hsn := rises_snoc pre x hri.out
    have hE1 : Hid (risesB (pre ++ [x]) = true → ∀ a v' W3, St o (rsX B1 B2 B3 v' (pre ++ [x]) ++ (Rq ++ T')) W3 → EndsR o (fun pre X => ∃ v, X = rsX B1 B2 B3 v pre ∧ Hid (risesB pre = true) ∧ Hid (pre.length ≤ zs.length)) (fun c pre X => c = .ret ∧ Hid (risesB pre = false) ∧ ∃ v xs, X = rsX B1 B2 B3 v xs) (Rq ++ T') (pre ++ [x]) .normal a W3) := fun hr a v' W3 h3 => ⟨_, ⟨v', rfl, hid hr, hid (by simpa using hlen)⟩, h3⟩
    have hE2 : Hid (risesB (pre ++ [x]) = false → ∀ a W3, St o (rsX B1 B2 B3 v pre ++ (Rq ++ T')) W3 → EndsR o (fun pre X => ∃ v, X = rsX B1 B2 B3 v pre ∧ Hid (risesB pre = true) ∧ Hid (pre.length ≤ zs.length)) (fun c pre X => c = .ret ∧ Hid (risesB pre = false) ∧ ∃ v xs, X = rsX B1 B2 B3 v xs) (Rq ++ T') (pre ++ [x]) .ret a W3) := fun hr a W3 h3 => ⟨_, ⟨rfl, hid hr, v, pre, rfl⟩, h3⟩
    generalize EndsR o _ _ (Rq ++ T') (pre ++ [x]) = E at *
    have c1 : W'.cell? ⟨B3, 0, none⟩ = some v := hs.cell 0 rfl 0
    have p1 : W'.ownsRow 0 2 1 v pre.length (xC pre) := hs.get 1 rfl
    have b1 : W'.cell? ⟨B1, 0, none⟩ = some (.slice none 0 0) := hs.cell 2 rfl 0
    have b2 : W'.cell? ⟨B2, 0, none⟩ = some (.bool false) := hs.cell 3 rfl 0
    have g1 : W'.frozen? ⟨B1, 0, none⟩ = false := hs.frozen 2 rfl 0
    have s1 := hs.write 2 rfl 0 (.slice none 0 0)
    have g2 : (W'.setCell ⟨B1, 0, none⟩ (.slice none 0 0)).frozen? ⟨B2, 0, none⟩ = false := s1.frozen 3 rfl 0
    have b3 : (W'.setCell ⟨B1, 0, none⟩ (.slice none 0 0)).cell? ⟨B2, 0, none⟩ = some (.bool false) := s1.cell 3 rfl 0
    have s2 := hid (s1.write 3 rfl 0 (.bool false))
    clear s1
    have hbx := buildX1 W' x
    have hcx : (W'.alloc (.cells #[.int .i64 x] 2)).cell? ⟨W'.heap.size, 0, none⟩ = some (.int .i64 x) := cell_of_heap (heap_alloc_new W' _)
    have hrow : (W'.alloc (.cells #[.int .i64 x] 2)).ownsRow 0 2 1 v pre.length (xC pre) := p1.alloc _
    have HG := hid (fun (v' : Value) (w1 : World) => rs_grow (c := 0) hs (ob := .cells #[.int .i64 x] 2) (x := x) (v' := v') (w1 := w1))
    replace hri := hid hri
    clear hle hpre hri
    have hl8 := hid hlen
    have hzz := hid hz
    have hbd1 : Hid (pre.length + 1 ≤ maxLen) := hid (by unfold maxLen; omega)
    have hbd2 : Hid ((pre.length + 1) * 8 ≤ 140737488355328) := hid (by omega)
    by_cases h0 : pre.length = 0
    · obtain rfl : pre = [] := List.length_eq_zero_iff.1 h0
      obtain ⟨la, lc, rfl, -, -, -⟩ := own_xin p1
      have hE3 := hid (hE1.out hsn)
      clear hE1 hE2 h0 p1 hsn b1 b2 b3 g1 g2 s2 hs
      simp only [List.length_nil] at c1 hrow hbd1 hbd2
      gi_wp2_with (first | (gi_at_builtin; refine wpListIn_append_one _ rfl (.tmp 22) (.tmp 24) rfl _ _ _ rfl hrow ⟨W'.heap.size, 0, none⟩ x rfl hcx hbd1.out hbd2.out ?_; intro g' cap' w1 hown' hgrow hat; obtain ⟨hc1, hf1, hS1⟩ := HG.out _ _ hown' hgrow hat; have HS1 := hid hS1; clear hS1) | simp only [hbx])
      exact hE3.out _ _ _ HS1.out
    · obtain ⟨g, cap, rfl, c2⟩ := last_cell p1 (by omega)
      rw [show pre.isEmpty = false by simpa [List.isEmpty_iff] using fun e => h0 (by rw [e]; rfl), Bool.false_or] at hsn
      have hp0 : (0 : Int) < (pre.length : Int) := by omega
      have hp1 : ((pre.length : Int) - 1) = ((pre.length - 1 : Nat) : Int) := by omega
      have hp2 : ((pre.length - 1 : Nat) : Int) < (pre.length : Int) := by omega
      have hp3 : (0 : Int) ≤ ((pre.length - 1 : Nat) : Int) := by omega
      have hp4 : (pre.length : Int) ≤ 9223372036854775807 := by have := hl8.out; have := hzz.out; omega
      clear p1 hs h0
      generalize hy : pre.getD (pre.length - 1) 0 = y at *
      clear hy
      generalize hm : pre.length - 1 = m at *
      generalize hn : pre.length = n at *
      by_cases hlt : y < x
      · have hE3 := hid (hE1.out (by rw [hsn]; simpa using hlt))
        have t1 : decide (x ≤ y) = false := by simpa using hlt
        clear hE1 hE2 hsn hlt b1 b2 b3 g1 g2 s2 hm hn
        gi_wp2_with (first | (gi_at_builtin; refine wpListIn_append_one _ rfl (.tmp 22) (.tmp 24) rfl _ _ _ rfl hrow ⟨W'.heap.size, 0, none⟩ x rfl hcx hbd1.out hbd2.out ?_; intro g' cap' w1 hown' hgrow hat; obtain ⟨hc1, hf1, hS1⟩ := HG.out _ _ hown' hgrow hat; have HS1 := hid hS1; clear hS1) | simp only [hbx])
        exact hE3.out _ _ _ HS1.out
      · have hE3 := hid (hE2.out (by rw [hsn]; simpa using hlt))
        have t1 : decide (x ≤ y) = true := by simpa using hlt
        clear hE1 hE2 hsn hlt hrow HG hbx hm hn
        gi_wp2
        exact hE3.out _ _ s2.out
  case done =>
    rintro D xs W' rfl ⟨_, ⟨v, rfl, hri, hle⟩, hs⟩
    have c1 : W'.cell? ⟨B3, 0, none⟩ = some v := hs.cell 0 rfl 0
    obtain ⟨la, lc, rfl, -, -, -⟩ := own_xin (show W'.ownsRow 0 2 1 v xs.length (xC xs) from hs.get 1 rfl)
    have g1 : W'.frozen? ⟨B1, 0, none⟩ = false := hs.frozen 2 rfl 0
    have b1 : W'.cell? ⟨B1, 0, none⟩ = some (.slice none 0 0) := hs.cell 2 rfl 0
    have s1 := hs.write 2 rfl 0 (.slice la xs.length lc)
    have g2 : (W'.setCell ⟨B1, 0, none⟩ (.slice la xs.length lc)).frozen? ⟨B2, 0, none⟩ = false := s1.frozen 3 rfl 0
    have b2 : (W'.setCell ⟨B1, 0, none⟩ (.slice la xs.length lc)).cell? ⟨B2, 0, none⟩ = some (.bool false) := s1.cell 3 rfl 0
    have s2 := s1.write 3 rfl 0 (.bool true)
    have hP := hid (HP1.out hri.out)
    clear HP1 HP2 hs s1
    gi_wp2
    generalize ((W'.setCell ⟨B1, 0, none⟩ (.slice la xs.length lc)).setCell ⟨B2, 0, none⟩ (.bool true)) = W2 at *
    have s3 : St o (dfrI D :: (boxI B1 #[.slice la xs.length lc] 24 :: boxI B2 #[.bool true] 4 :: boxI B3 #[.slice la xs.length lc] 24 :: (ownI 2 1 (.slice la xs.length lc) xs.length (xC xs) :: (Rq ++ T)))) W2 := s2.perm (by
      refine List.Perm.trans (l₂ := dfrI D :: boxI B3 _ _ :: ownI _ _ _ _ _ :: boxI B1 _ _ :: boxI B2 _ _ :: (Rq ++ T)) ((perm_in (dfrI D) [_, _, _, _] (Rq ++ T)).symm) (List.Perm.cons _ ?_)
      exact (List.perm_append_comm (l₁ := [_, _]) (l₂ := [_, _])).append_right (Rq ++ T) |>.trans (List.Perm.refl _))
    have hd : W2.heap[D]? = some (.deferred (some [])) := s3.get 0 rfl
    have s4 := s3.shutD
    refine ⟨by simp, .inl ⟨_, _, rfl, run_takeDeferred hd, ?_⟩⟩
    generalize W2.putObj D (.deferred none) = W3 at *
    have c3 : W3.cell? ⟨B1, 0, none⟩ = some (.slice la xs.length lc) := s4.cell 0 rfl 0
    have c4 : W3.cell? ⟨B2, 0, none⟩ = some (.bool true) := s4.cell 1 rfl 0
    exact ⟨.tuple #[.slice la xs.length lc, .bool true], by simp [results, Tryz.f34, go_sem, c3, c4], hP.out _ _ s4.pop.pop.pop⟩
  case stop =>
    rintro D c pre W' hpre ⟨_, ⟨rfl, hri, v, xs, rfl⟩, hs⟩
    have hf : risesB zs = false := by
      rw [Bool.eq_false_iff]
      intro hr
      have := rises_pre hr hpre
      rw [hri.out] at this
      cases this
    have hP := hid (HP2.out hf)
    have s3 : St o (dfrI D :: (boxI B1 #[.slice none 0 0] 24 :: boxI B2 #[.bool false] 4 :: boxI B3 #[v] 24 :: (ownI 2 1 v xs.length (xC xs) :: (Rq ++ T)))) W' := hs.perm (by
      refine List.Perm.trans (l₂ := dfrI D :: boxI B3 _ _ :: ownI _ _ _ _ _ :: boxI B1 _ _ :: boxI B2 _ _ :: (Rq ++ T)) ((perm_in (dfrI D) [_, _, _, _] (Rq ++ T)).symm) (List.Perm.cons _ ?_)
      exact (List.perm_append_comm (l₁ := [_, _]) (l₂ := [_, _])).append_right (Rq ++ T) |>.trans (List.Perm.refl _))
    have hd : W'.heap[D]? = some (.deferred (some [])) := s3.get 0 rfl
    have s4 := s3.shutD
    clear HP1 HP2 hs s3 hf hri
    gi_wp2
    refine ⟨by simp, .inl ⟨_, _, rfl, run_takeDeferred hd, ?_⟩⟩
    generalize W'.putObj D (.deferred none) = W3 at *
    have c3 : W3.cell? ⟨B1, 0, none⟩ = some (.slice none 0 0) := s4.cell 0 rfl 0
    have c4 : W3.cell? ⟨B2, 0, none⟩ = some (.bool false) := s4.cell 1 rfl 0
    exact ⟨.tuple #[.slice none 0 0, .bool false], by simp [results, Tryz.f34, go_sem, c3, c4], hP.out _ s4.pop.pop.pop.pop⟩
end Go.Proofs.YtdfefjalamohjaaGreatDoor
