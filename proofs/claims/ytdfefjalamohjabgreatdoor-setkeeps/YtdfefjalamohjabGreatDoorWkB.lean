/- Package set: keys, and the library's Values: what they hand on. -/
import Derived.Test.YtdfefjalamohjabGreatDoorWkA
namespace Go.Proofs.YtdfefjalamohjabGreatDoor
open Go.RowKit Go.Shelf
set_option linter.unusedVariables false
set_option linter.unusedSimpArgs false
attribute [local go_sem ↓] Go.wp_at_zero Go.wp_at_succ
attribute [local go_sem] Oper.semAt_some

set_option maxHeartbeats 1000000 in
theorem Values_any {o w : World} {R : List It} (h : St o R w) (la : Option Addr) (m lc : Nat) : Calls Tryz.prog 58 #[.slice la m lc] w fun e w' =>
    ∃ bp, e = .returned (.func (.func 90) #[] #[.pointer (some ⟨bp, 0, none⟩)]) ∧ St o (boxI bp #[.slice la m lc] 22 :: R) w' := by
  have HS := hid (h.box #[.slice la m lc] 22)
  clear h
  go_enter Tryz.func58, Tryz.ntmps58
  go_wp2
  go_ret
  exact ⟨_, rfl, HS.out⟩
set_option maxHeartbeats 1000000 in
theorem keys_any {o w : World} {R : List It} (h : St o R w) (la : Option Addr) (m lc : Nat) : Calls Tryz.prog 57 #[.slice la m lc] w fun e w' =>
    ∃ bp, e = .returned (.func (.func 89) #[] #[.pointer (some ⟨bp, 0, none⟩)]) ∧ St o (boxI bp #[.slice la m lc] 22 :: R) w' := by
  have HS := hid (h.box #[.slice la m lc] 22)
  clear h
  go_enter Tryz.func57, Tryz.ntmps57
  go_wp2
  go_ret
  exact ⟨_, rfl, HS.out⟩
/-- An iterator that tells the list zs. -/
abbrev TellsL (P : Program) (o : World) (g : Nat) (lb : Array Value) (zs : List Int) (Rq : List It) : Prop :=
  Tells P o g lb (Value.int .i64) (fun pre x => pre ++ [x] <+: zs) (fun xs => xs = zs) (fun pre => pre <+: zs) Rq
theorem take_snoc (zs : List Int) {k : Nat} (hk : k < zs.length) : zs.take (k + 1) = zs.take k ++ [zs.getD k 0] := by
  rw [List.take_succ_eq_append_getElem hk]
  simp [List.getD_eq_getElem?_getD, hk]
set_option maxRecDepth 100000 in
set_option maxHeartbeats 4000000 in
theorem values_tells {o : World} {la : Option Addr} {m lc : Nat} {zs : List Int} (hX : XIn o la m zs) (hm : m ≤ 9223372036854775807) (bp : Nat) :
    TellsL Tryz.prog o 90 #[.pointer (some ⟨bp, 0, none⟩)] zs [boxI bp #[.slice la m lc] 22] := by
  generalize hRQ : [boxI bp #[.slice la m lc] 22] = RQ
  intro l K Kx T N W hN hY h0
  show CallsIn _ _ _ _ #[.func (.yield l) #[] #[], .pointer (some ⟨bp, 0, none⟩)] _ _
  have HF : ∀ pre W', Sat o K (RQ ++ T) pre W' → W'.cell? ⟨bp, 0, none⟩ = some (.slice la m lc) ∧ XIn W' la m zs := fun pre W' hs => by
    obtain ⟨X, _, hs⟩ := hs
    subst hRQ
    exact ⟨box_at hs (k := bp) (cs := #[.slice la m lc]) (t := 22) (by simp) 0, hX.kept hs.same⟩
  have c0 := (HF [] W h0).1
  clear hRQ
  have hz := hid hX.1
  replace HF := hid HF
  replace hY := hid hY
  clear hN hX
  refine callsIn_of_wp Tryz.func90 rfl trivial ?_ rfl
  simp only [Tryz.ntmps90, List.size_toArray, List.length_cons, List.length_nil, Nat.reduceAdd, Nat.reduceSub, Array.replicate_succ, Array.replicate_zero, List.push_toArray, List.append_toArray, List.nil_append, List.cons_append]
  gi_wp2
  clear c0
  gi_loopw [7] (fun i wr => ∃ k : Nat, k ≤ m ∧ i = .int .i64 k ∧ Sat o K (RQ ++ T) (zs.take k) wr) (fun i _ => m - (intOf i).toNat)
  case atStart => exact ⟨0, Nat.zero_le _, rfl, h0⟩
  case round =>
    obtain ⟨k, hk, rfl, hS⟩ := hrel
    by_cases hlt : k < m
    · have hpre : zs.take k ++ [zs.getD k 0] <+: zs := by
        rw [← take_snoc zs (by have := hz.out; omega)]
        exact List.take_prefix _ _
      obtain ⟨fn, tmps, assign, body, hy, hR⟩ := hY.out T _ (zs.getD k 0) wr hpre hS
      have hX := (HF.out _ _ hS).2
      obtain ⟨g, off, rfl⟩ := hX.addr (by omega)
      have c1 := hX.cell hlt
      have hsn := hid (take_snoc zs (k := k) (by have := hz.out; omega))
      replace hpre := hid hpre
      clear hX
      generalize zs.getD k 0 = z at *
      have t0 : (0 : Int) ≤ (k : Int) := by omega
      have t1 : (k : Int) < (m : Int) := by omega
      gi_wp2
      refine (roundIn_any hR).mono ?_
      rintro e W3 (⟨rfl, hS3⟩ | ⟨rfl, hS3⟩)
      · clear hR hy c1
        gi_wp2
        go_roundw
        case rel => exact ⟨k + 1, by omega, by simp, by rw [hsn.out]; exact hS3⟩
        case measure => simp [intOf]; omega
      · gi_wp2
        refine bodyPost_ret (results_none rfl _ _ _) rfl ?_
        exact ⟨⟨_, rfl⟩, .inr ⟨_, hpre.out, hS3⟩⟩
    · obtain rfl : k = m := by omega
      have he := hid (List.take_of_length_le (l := zs) (i := k) (by have := hz.out; omega))
      gi_wp2
      go_end0
      exact ⟨⟨_, rfl⟩, .inl ⟨zs, rfl, by rw [← he.out]; exact hS⟩⟩
theorem perm_keys (y p : It) (Y Q T : List It) : ((y :: p :: Y) ++ (Q ++ T)).Perm (Y ++ ([p] ++ (y :: (Q ++ T)))) := by
  have h1 : (p :: (Y ++ (Q ++ T))).Perm (Y ++ p :: (Q ++ T)) := perm_in p Y (Q ++ T)
  have h2 : (y :: (Y ++ p :: (Q ++ T))).Perm (Y ++ p :: y :: (Q ++ T)) := by
    have := perm_in y (Y ++ [p]) (Q ++ T)
    simpa only [List.append_assoc, List.cons_append, List.nil_append] using this
  exact (h1.cons y).trans h2
theorem perm_keys0 (y p : It) (Y Q T : List It) : (Q ++ (y :: (Y ++ p :: T))).Perm ((y :: p :: Y) ++ (Q ++ T)) := by
  have h1 : (Q ++ (y :: (Y ++ p :: T))).Perm (y :: (Q ++ (Y ++ p :: T))) := (perm_in y Q _).symm
  have h2 : (Q ++ (Y ++ p :: T)).Perm (p :: (Q ++ (Y ++ T))) := by
    have := (perm_in p (Q ++ Y) T).symm
    simpa only [List.append_assoc] using this
  have h3 : (Q ++ (Y ++ T)).Perm (Y ++ (Q ++ T)) := List.perm_append_comm_assoc _ _ _
  exact h1.trans (((h2.trans (h3.cons p))).cons y)
theorem perm_keys9 (y p d : It) (Y Q T : List It) : ((y :: p :: Y) ++ (d :: (Q ++ T))).Perm (d :: ((Y ++ ([p] ++ T)) ++ (y :: Q))) := by
  have h1 : ((y :: p :: Y) ++ (d :: (Q ++ T))).Perm (d :: ((y :: p :: Y) ++ (Q ++ T))) := (perm_in d (y :: p :: Y) (Q ++ T)).symm
  have h2 := perm_keys y p Y Q T
  have h3 : (y :: (Q ++ T)).Perm (T ++ y :: Q) := by
    have := List.perm_append_comm (l₁ := y :: Q) (l₂ := T)
    simpa only [List.cons_append] using this
  have h4 : (Y ++ ([p] ++ (y :: (Q ++ T)))).Perm ((Y ++ ([p] ++ T)) ++ (y :: Q)) := by
    have := (h3.append_left [p]).append_left Y
    simpa only [List.append_assoc] using this
  exact h1.trans ((h2.trans h4).cons d)
set_option maxRecDepth 100000 in
set_option maxHeartbeats 4000000 in
theorem keys_tells {o : World} {g off lc n : Nat} {L ns : List Int} (hX : XIn o (some ⟨g, off, none⟩) (3 + 2 * n) L) (hn : n ≤ 60) (bp : Nat) (hT : Tr L n (L.getD 0 0) ns 0) (hns : ∀ k ∈ ns, isN n k = true) :
    TellsL Tryz.prog o 89 #[.pointer (some ⟨bp, 0, none⟩)] (ns.map (keyM L)) [boxI bp #[.slice (some ⟨g, off, none⟩) (3 + 2 * n) lc] 22] := by
  intro l K Kx T N W hN hY h0
  obtain ⟨X0, hK0, hs0⟩ := h0
  show CallsIn _ _ _ _ #[.func (.yield l) #[] #[], .pointer (some ⟨bp, 0, none⟩)] _ _
  have hwt := hid fun bf bp' => walk_tells (lc := lc) hX hn bf bp' (L.getD 0 0)
  have hs1 := hs0.box #[.func (.yield l) #[] #[]] 203
  have cell0 : ∀ W' its, St o its W' → XIn W' (some ⟨g, off, none⟩) (3 + 2 * n) L := fun W' its hs => hX.kept hs.same
  generalize hw1 : W.alloc (.cells #[.func (.yield l) #[] #[]] 203) = w1 at *
  generalize hM : W.heap.size = M at *
  have c1 : w1.drew.cell? ⟨bp, 0, none⟩ = some (.slice (some ⟨g, off, none⟩) (3 + 2 * n) lc) := box_at hs1.drew (k := bp) (cs := #[.slice (some ⟨g, off, none⟩) (3 + 2 * n) lc]) (t := 22) (by simp) 0
  have c2 : w1.drew.cell? ⟨g, off, none⟩ = some (.int .i64 (L.getD 0 0)) := (cell0 _ _ hs1.drew).cell (j := 0) (by omega)
  have hb0 : (0 : Int) < ((3 + 2 * n : Nat) : Int) := by omega
  have hw := walk_any hs1.drew (some ⟨g, off, none⟩) (3 + 2 * n) lc (L.getD 0 0)
  have hf1 : Fence.wide.fn 87 := trivial
  have hf2 : Fence.wide.fn 62 := trivial
  have hmx : (Tryz.prog).follows .mixedOrders = true := by kernel_rfl
  replace cell0 := hid cell0
  replace hT := hid hT
  replace hns := hid hns
  replace hN := hid hN
  replace hY := hid hY
  clear hs0 hs1 hX
  generalize hf : L.getD 0 0 = f at *
  clear hf
  have hm := hid (show 3 + 2 * n = 3 + 2 * n from rfl)
  refine callsIn_of_wp_marks Tryz.func89 rfl trivial ?_
  simp only [Tryz.ntmps89, List.size_toArray, List.length_cons, List.length_nil, Nat.reduceAdd, Nat.reduceSub, Array.replicate_succ, Array.replicate_zero, List.push_toArray, List.append_toArray, List.nil_append, List.cons_append]
  gi_wp2_with (simp only [hw1, hM])
  refine (fun key : ?KEY ∧ True => ?main) ⟨?keyproof, trivial⟩
  case main =>
    gi_region_with_o (gi_at_call 87; refine (callsIn_wide.2 hw).mono ?_; rintro e w2 ⟨bf, bp', rfl, hs2⟩)
    all_goals
      gi_wp2
      revert hs2
      revert w2 bf bp'
      exact key.1
  case keyproof =>
    intro w2 bf bp' hs2
    clear c1 hw1 hM hb0
    refine rf_law (o := o) (T := T) (enc := Value.int .i64) rfl (enters_of Tryz.func132 (by kernel_rfl) rfl) (hwt.out bf bp') rfl
      (fun ms X => ∃ Y, X = boxI M #[.func (.yield l) #[] #[]] 203 :: boxI bp #[.slice (some ⟨g, off, none⟩) (3 + 2 * n) lc] 22 :: Y ∧ K (ms.map (keyM L)) Y)
      (fun c ms X => c = .ret ∧ ∃ Y, X = boxI M #[.func (.yield l) #[] #[]] 203 :: boxI bp #[.slice (some ⟨g, off, none⟩) (3 + 2 * n) lc] 22 :: Y ∧ Kx (ms.map (keyM L)) Y)
      N (fun pre X hX => by obtain ⟨Y, _, hY⟩ := hX; simpa using hN.out _ _ hY) ⟨_, ⟨X0, rfl, hK0⟩, hs2.perm (perm_keys0 _ _ X0 [_, _] T)⟩
      (fun x => { tmps := #[.func (.yield l) #[] #[], .pointer (some ⟨bp, 0, none⟩), .pointer (some ⟨M, 0, none⟩), .int .i64 x, .slice (some ⟨g, off, none⟩) (3 + 2 * n) lc, .slice (some ⟨g, off, none⟩) (3 + 2 * n) lc, .pointer (some ⟨g, off, none⟩), .int .i64 f, .func (.func 132) #[] #[.pointer (some ⟨bf, 0, none⟩), .pointer (some ⟨bp', 0, none⟩)], .int .i64 x, undef, undef, undef, undef, undef, undef, undef, undef], defers := [] }) ?assign ?round ?done ?stop
    case assign =>
      intro l' x W' C hC
      gi_wp2
      exact hC
    case round =>
      rintro l' T' pre x W' ⟨hTr, hx0⟩ ⟨_, ⟨Y, rfl, hK⟩, hs⟩
      have hpre : pre ++ [x] <+: ns := hT.out.pre (hTr.snoc hx0)
      have hxn : isN n x = true := hns.out x (hpre.subset (by simp))
      obtain ⟨hx1, hx2⟩ := isN_iff.1 hxn
      obtain ⟨kx, rfl⟩ : ∃ kx : Nat, x = (kx : Int) := ⟨x.toNat, by omega⟩
      have hmp : pre.map (keyM L) ++ [keyM L kx] <+: ns.map (keyM L) := by
        have := hpre.map (keyM L)
        simpa using this
      have hs' := hs.drew
      have hyy := hY.out (boxI M #[.func (.yield l) #[] #[]] 203 :: (wkRq bf bp' g off n lc f ++ T')) (pre.map (keyM L)) (keyM L kx) W'.drew hmp ⟨Y, hK, hs'.perm (perm_keys _ _ Y _ T')⟩
      have d1 : W'.drew.cell? ⟨M, 0, none⟩ = some (.func (.yield l) #[] #[]) := box_at hs' (k := M) (cs := #[.func (.yield l) #[] #[]]) (t := 203) (by simp) 0
      have d2 : W'.drew.cell? ⟨bp, 0, none⟩ = some (.slice (some ⟨g, off, none⟩) (3 + 2 * n) lc) := box_at hs' (k := bp) (cs := #[.slice (some ⟨g, off, none⟩) (3 + 2 * n) lc]) (t := 22) (by simp) 0
      have d3 : W'.drew.cell? ⟨g, off + (1 + 2 * kx), none⟩ = some (.int .i64 (keyM L kx)) := by
        rw [(cell0.out _ _ hs').cell (j := 1 + 2 * kx) (by omega)]
        simp [keyM]
      have hb1 : ((1 + 2 * kx : Nat) : Int) < ((3 + 2 * n : Nat) : Int) := by omega
      have hb0 : (0 : Int) ≤ ((1 + 2 * kx : Nat) : Int) := by omega
      have hl := keyAt_any kx (by omega)
      have hsn := hid (show (pre ++ [(kx : Int)]).map (keyM L) = pre.map (keyM L) ++ [keyM L kx] by simp)
      generalize keyM L kx = y at *
      generalize hq : 1 + 2 * kx = q at *
      generalize hm : 3 + 2 * n = m at *
      clear hq hm hpre hxn hx1 hx2 hs hs' hTr hx0 hmp cell0
      obtain ⟨fn, tmps, assign, body, hy, hR⟩ := hyy
      generalize hRQ : wkRq bf bp' g off n lc f = RQ at *
      have HE : Hid (∀ a W3, Sat o K ([boxI bp #[.slice (some ⟨g, off, none⟩) m lc] 22] ++ (boxI M #[.func (.yield l) #[] #[]] 203 :: (RQ ++ T'))) (pre.map (keyM L) ++ [y]) W3 → EndsR o (fun ms X => ∃ Y, X = boxI M #[.func (.yield l) #[] #[]] 203 :: boxI bp #[.slice (some ⟨g, off, none⟩) m lc] 22 :: Y ∧ K (ms.map (keyM L)) Y)
          (fun c ms X => c = .ret ∧ ∃ Y, X = boxI M #[.func (.yield l) #[] #[]] 203 :: boxI bp #[.slice (some ⟨g, off, none⟩) m lc] 22 :: Y ∧ Kx (ms.map (keyM L)) Y) (RQ ++ T') (pre ++ [(kx : Int)]) .normal a W3) := fun a W3 h3 => by
        obtain ⟨Y', hK', h3⟩ := h3
        exact ⟨_, ⟨Y', rfl, by rw [hsn.out]; exact hK'⟩, h3.perm (perm_keys _ _ Y' RQ T').symm⟩
      have HX : Hid (∀ a W3, Sat o Kx ([boxI bp #[.slice (some ⟨g, off, none⟩) m lc] 22] ++ (boxI M #[.func (.yield l) #[] #[]] 203 :: (RQ ++ T'))) (pre.map (keyM L) ++ [y]) W3 → EndsR o (fun ms X => ∃ Y, X = boxI M #[.func (.yield l) #[] #[]] 203 :: boxI bp #[.slice (some ⟨g, off, none⟩) m lc] 22 :: Y ∧ K (ms.map (keyM L)) Y)
          (fun c ms X => c = .ret ∧ ∃ Y, X = boxI M #[.func (.yield l) #[] #[]] 203 :: boxI bp #[.slice (some ⟨g, off, none⟩) m lc] 22 :: Y ∧ Kx (ms.map (keyM L)) Y) (RQ ++ T') (pre ++ [(kx : Int)]) .ret a W3) := fun a W3 h3 => by
        obtain ⟨Y', hK', h3⟩ := h3
        exact ⟨_, ⟨rfl, Y', rfl, by rw [hsn.out]; exact hK'⟩, h3.perm (perm_keys _ _ Y' RQ T').symm⟩
      have hR2 : RoundIn Fence.wide 9 Tryz.prog l fn tmps assign body W'.drew fun e W3 => ∃ b, e = .returned (.bool b) ∧ Hid (if b = true then Sat o K ([boxI bp #[.slice (some ⟨g, off, none⟩) m lc] 22] ++ (boxI M #[.func (.yield l) #[] #[]] 203 :: (RQ ++ T'))) (pre.map (keyM L) ++ [y]) W3 else Sat o Kx ([boxI bp #[.slice (some ⟨g, off, none⟩) m lc] 22] ++ (boxI M #[.func (.yield l) #[] #[]] 203 :: (RQ ++ T'))) (pre.map (keyM L) ++ [y]) W3) := hR.mono (by
        rintro e W3 (⟨rfl, h3⟩ | ⟨rfl, h3⟩)
        · exact ⟨true, rfl, h3⟩
        · exact ⟨false, rfl, h3⟩)
      generalize EndsR o _ _ (RQ ++ T') (pre ++ [(kx : Int)]) = E at *
      clear hR hsn hY hK hRQ hwt hT hns hN
      gi_wp2
      refine (fun key2 : ?KEY2 ∧ True => ?main2) ⟨?keyproof2, trivial⟩
      case main2 =>
        gi_region_with_o (first | (gi_at_call 62; refine (callsIn_in (hl _)).mono ?_; rintro e w' ⟨rfl, rfl⟩) | (refine (roundIn_in hR2).mono ?_; rintro e W3 ⟨b, rfl, h3⟩))
        all_goals
          revert h3
          revert W3 b
          exact key2.1
      case keyproof2 =>
        intro W3 b h3
        cases b with
        | true =>
          gi_wp2
          exact HE.out _ _ h3
        | false =>
          gi_wp2
          exact HX.out _ _ h3
    case done =>
      rintro D xs W' hS ⟨_, ⟨Y, rfl, hK⟩, hs⟩
      have hs' := hs.perm (perm_keys9 _ _ _ Y _ T)
      have hd : W'.heap[D]? = some (.deferred (some [])) := hs'.get 0 rfl
      have hs2 := hid hs'.shutD.cut
      have he := hid (hS.uniq hT.out)
      clear hs hs'
      gi_wp2
      refine ⟨by simp, .inl ⟨_, _, rfl, run_takeDeferred hd, ?_⟩⟩
      exact ⟨_, results_none rfl _ _ _, ⟨_, rfl⟩, .inl ⟨_, rfl, Y, by rw [← he.out]; exact hK, hs2.out⟩⟩
    case stop =>
      rintro D c pre W' ⟨p, x, rfl, hTr, hx0⟩ ⟨_, ⟨rfl, Y, rfl, hK⟩, hs⟩
      have hs' := hs.perm (perm_keys9 _ _ _ Y _ T)
      have hd : W'.heap[D]? = some (.deferred (some [])) := hs'.get 0 rfl
      have hs2 := hid hs'.shutD.cut
      have he := hid ((hT.out.pre (hTr.snoc hx0)).map (keyM L))
      clear hs hs' hTr
      gi_wp2
      refine ⟨by simp, .inl ⟨_, _, rfl, run_takeDeferred hd, ?_⟩⟩
      exact ⟨_, results_none rfl _ _ _, ⟨_, rfl⟩, .inr ⟨_, he.out, Y, hK, hs2.out⟩⟩
end Go.Proofs.YtdfefjalamohjabGreatDoor
