/- DequeKeeps, walked. -/
import Derived.Test.YtahokdgodhhchabGreatDoorDqU
import Derived.Test.YtahokdgodhhchabGreatDoorAr
namespace Go.Proofs.YtahokdgodhhchabGreatDoor
open Go.RowKit
set_option linter.unusedVariables false
set_option linter.unusedSimpArgs false
attribute [local go_sem ↓] Go.wp_at_zero Go.wp_at_succ

/-- A list in memory that this package may be handed. -/
def XA (w : World) (va : Option Addr) (n vc : Nat) (zs : List Int) : Prop := XIn w va n zs ∧ Adr va n vc ∧ n ≤ vc
theorem XA.kept {w w' : World} {va : Option Addr} {n vc : Nat} {zs : List Int} (h : XA w va n vc zs) (k : Kept (fun _ => False) w w') : XA w' va n vc zs := ⟨h.1.kept k, h.2⟩
theorem xa_own {w : World} {v : Value} {zs : List Int} (h : w.ownsRow 0 2 1 v zs.length (xC zs)) : ∃ va vc, v = .slice va zs.length vc ∧ XA w va zs.length vc zs := by
  have hh := h
  obtain ⟨va, vc, e, hx, hc, hn⟩ := own_xin h
  refine ⟨va, vc, e, hx, ?_, hc⟩
  subst e
  cases va with
  | none => exact .inl ⟨rfl, hn rfl⟩
  | some ad =>
    rcases hh.2 with ⟨e, _⟩ | ⟨g, cap, cur, e, _⟩
    · cases e
    · simp only [Value.slice.injEq] at e
      exact .inr ⟨g, 0, e.1⟩
theorem St.joinK {o w2 w3 : World} {A B : List It} (a : St o A w2) (b : St w2 B w3) : St o (B ++ A) w3 := by
  have a' := a.calm b.same
  refine ⟨?_, ?_, ?_, a'.kept⟩
  · rw [List.flatMap_append, List.nodup_append]
    refine ⟨b.nodup, a.nodup, fun x hx y hy e => ?_⟩
    subst e
    obtain ⟨i, hi, hxi⟩ := List.mem_flatMap.1 hx
    obtain ⟨j, hj, hxj⟩ := List.mem_flatMap.1 hy
    have h1 := b.high i hi x hxi
    have h2 := j.old w2 (a.all j hj) x hxj
    omega
  · intro i hi
    rcases List.mem_append.1 hi with hi | hi
    · exact b.all i hi
    · exact a'.all i hi
  · intro i hi k hk
    rcases List.mem_append.1 hi with hi | hi
    · exact Nat.le_trans a.le (b.high i hi k hk)
    · exact a.high i hi k hk
def pushD (x : Int) : Dd := ⟨1, 0, 0, x, 0⟩
theorem ok_push (R : List Int) (n x : Int) : okS R n (pushD x) = (decide (0 < roomS n) && decide ((R.length : Int) ≤ n)) := by
  have : mayS (pushD x) = true := by simp [mayS, pushD]
  unfold okS
  rw [this, Bool.and_true]
theorem ok_take (R : List Int) (n op : Int) (h : op = 3 ∨ op = 4) : okS R n ⟨op, 0, 0, 0, 0⟩ = (decide (0 < roomS n) && decide ((R.length : Int) ≤ n)) := by
  have : mayS ⟨op, 0, 0, 0, 0⟩ = true := by rcases h with rfl | rfl <;> simp [mayS]
  unfold okS
  rw [this, Bool.and_true]
theorem do_push {R : List Int} {n x : Int} : doS R n (pushD x) = if (R.length : Int) = n then (R, [0]) else (R ++ [x], [1]) := by
  unfold doS pushD
  simp
/-- What is left when k are taken. -/
def leftL (b : Bool) (R : List Int) (k : Nat) : List Int := if b = true then R.take (R.length - k) else R.drop k
theorem leftL_length (b : Bool) (R : List Int) (k : Nat) : (leftL b R k).length = R.length - k := by
  unfold leftL
  split
  · rw [List.length_take]; omega
  · rw [List.length_drop]
theorem do_shift {R : List Int} {n : Int} {k : Nat} (hk : k < R.length) : doS (leftL false R k) n ⟨4, 0, 0, 0, 0⟩ = (leftL false R (k + 1), [1, R.getD k 0]) := by
  have hne : ¬ leftL false R k = [] := fun e => by
    have := leftL_length false R k
    rw [e] at this
    simp at this
    omega
  unfold doS
  simp only [Int.reduceEq, if_false, if_true, if_neg hne]
  simp only [leftL, Bool.false_eq_true, if_false, List.drop_drop]
  simp [List.getD_eq_getElem?_getD]
theorem do_pop {R : List Int} {n : Int} {k : Nat} (hk : k < R.length) : doS (leftL true R k) n ⟨3, 0, 0, 0, 0⟩ = (leftL true R (k + 1), [1, R.getD (R.length - 1 - k) 0]) := by
  have hne : ¬ leftL true R k = [] := fun e => by
    have := leftL_length true R k
    rw [e] at this
    simp at this
    omega
  have hl := leftL_length true R k
  unfold doS
  simp only [Int.reduceEq, if_false, if_true, if_neg hne, hl]
  simp only [leftL, if_true, List.take_take]
  rw [show R.length - k - 1 = R.length - 1 - k by omega, show min (R.length - 1 - k) (R.length - k) = R.length - (k + 1) by omega]
  simp only [Prod.mk.injEq, List.cons.injEq, and_true, true_and, List.getD_eq_getElem?_getD]
  rw [List.getElem?_take_of_lt (by omega)]
set_option maxRecDepth 100000 in
set_option maxHeartbeats 16000000 in
theorem keeps_t (la : Option Addr) (m lc : Nat) (l : List Int) (n : Int) (lb : Option Addr) (mv cv : Nat) (vs : List Int) (w : World) (hE : Env w) (hC : CameX w la m lc l) (hD : CameX w lb mv cv vs) :
    Calls Tryz.prog 4 #[.slice la m lc, .int .i64 n, .slice lb mv cv, .bool true] w fun e w' => e = .returned (.bool true) ∧ Kept (fun _ => False) w w' := by
  obtain ⟨hX, hlc, hbig, hnil⟩ := hC
  have hA := awake_any w hE
  have HX := hid hX
  have HNil := hid hnil
  have HML := hid hX.1
  have HB := hid hbig
  have HD := hid hD
  have hmv : mv * 8 ≤ 140737488351232 := by have := hD.2; omega
  have hm8 : m * 8 ≤ 140737488351232 := by omega
  have HDo := hid (fun (W : World) (va : Option Addr) (vc : Nat) (R : List Int) (d : Dd) (h : XA W va R.length vc R) => Do_any (n := n) (d := d) h.2.1 h.2.2 h.1)
  have hb1 := fun W x => buildX1 W x
  clear hE hX hnil hlc hbig hD
  go_enter Tryz.func4, Tryz.ntmps4
  go_upto_region 3 with (go_at_call 5; refine hA.mono ?_; rintro e w1 ⟨rfl, k1⟩; clear hA)
  have HL0 : Hid (St w [lstI (.slice none 0 0) []] w1) := hid (lst_nil ((St.nil w).calm k1))
  go_upto_region 4 with (at_builtin; refine wpList_app_st HL0.out rfl _ _ rfl rfl la m lc rfl (HX.out.kept k1) HNil.out (by have := HML.out; simp; omega) ?_; intro v2 w2 s2; have HS2 := hid s2; clear s2)
  have h2 := HS2.out
  rw [List.nil_append] at h2
  obtain ⟨va, vc, hv, hxa⟩ := xa_own (show w2.ownsRow 0 2 1 v2 l.length (xC l) from h2.get 0 rfl)
  subst hv
  have HXA := hid hxa
  have HS := hid h2
  have HLL := hid (show l.length ≤ m by have := HML.out; omega)
  clear hxa h2 HS2 HL0 k1
  go_wp2
  go_loopw [10, 11, 12] (fun vr av i wr => ∃ (j : Nat) (R : List Int) (T : List It) (va : Option Addr) (vc : Nat), i = .int .i64 j ∧ j ≤ mv ∧ j ≤ 200 ∧ R.length ≤ m + j ∧ av = .slice va R.length vc ∧ XA wr va R.length vc R ∧ St w (lstI vr R :: T) wr) (fun _ _ i _ => 200 - (intOf i).toNat)
  case atStart => exact ⟨0, l, [], va, vc, rfl, Nat.zero_le _, Nat.zero_le _, HLL.out, rfl, HXA.out, HS.out⟩
  case round =>
    clear HXA HS HLL
    obtain ⟨j, R, T, va, vc, rfl, hj, hj2, hRl, rfl, hxa, hst⟩ := hrel
    by_cases hlt : j < mv ∧ j < 200
    · have t1 : (j : Int) < (mv : Int) := by omega
      have t2 : (j : Int) < 200 := by omega
      have t0 : (0 : Int) ≤ (j : Int) := by omega
      obtain ⟨gl, ol, rfl⟩ := HD.out.1.addr (by omega)
      have d1 : wr.cell? ⟨gl, ol + j, none⟩ = some (.int .i64 (vs.getD j 0)) := (HD.out.1.kept hst.same).cell hlt.1
      have hq := HDo.out wr va vc R (pushD (vs.getD j 0)) hxa
      unfold DoE at hq
      rw [ok_push, do_push] at hq
      have hq : Calls Tryz.prog 19 #[.slice va R.length vc, .int .i64 n, .agg #[.int .i64 1, .int .i64 0, .int .i64 0, .int .i64 (vs.getD j 0), .int .i64 0]] wr _ := hq
      have HJ := hid hlt
      have HRL := hid hRl
      have HST := hid hst
      clear hxa hst hj hj2 hlt hRl
      generalize vs.getD j 0 = x at *
      by_cases hok : (decide (0 < roomS n) && decide ((R.length : Int) ≤ n)) = true
      · simp only [hok, if_true] at hq
        by_cases hf : (R.length : Int) = n
        · simp only [if_pos hf] at hq
          replace hq := hq.mono (fun e w' (h : ∃ v t, e = .returned (.tuple #[v, t, .int .i64 0]) ∧ St wr [lstI t [0], lstI v R] w') => (show ∃ va' vc' gt ct, e = .returned (.tuple #[.slice va' R.length vc', .slice (some ⟨gt, 0, none⟩) 1 ct, .int .i64 0]) ∧ w'.cell? ⟨gt, 0, none⟩ = some (.int .i64 0) ∧ Hid (XA w' va' R.length vc' R ∧ Kept (fun _ => False) wr w') by
            obtain ⟨v, t, rfl, s⟩ := h
            obtain ⟨va', vc', rfl, hx⟩ := xa_own (show w'.ownsRow 0 2 1 v R.length (xC R) from s.get 1 rfl)
            have s' : St wr [ownI 2 1 t 1 (xC [0]), lstI (.slice va' R.length vc') R] w' := s
            obtain ⟨gt, ct, rfl⟩ := s'.form 0 rfl (by decide)
            exact ⟨va', vc', gt, ct, rfl, s'.ownCell 0 rfl 0 (by decide), hx, s.same⟩))
          clear hf hok
          generalize hlen : R.length = rl at *
          have HLen := hid hlen
          clear hlen
          go_wp2_with (go_at_call 19; refine hq.mono ?_; rintro e w3 ⟨va3, vc3, gt, ct, rfl, ct0, HK3⟩)
          go_roundw
          case rel => exact ⟨j + 1, R, T, va3, vc3, by push_cast; rfl, by have := HJ.out; omega, by have := HJ.out; omega, by have := HRL.out; have := HLen.out; omega, by rw [HLen.out], by rw [HLen.out]; exact HK3.out.1, HST.out.calm HK3.out.2⟩
          case measure =>
            have := HJ.out
            simp [intOf]
            omega
        · simp only [if_neg hf] at hq
          replace hq := hq.mono (fun e w' (h : ∃ v t, e = .returned (.tuple #[v, t, .int .i64 0]) ∧ St wr [lstI t [1], lstI v (R ++ [x])] w') => (show ∃ va' vc' gt ct, e = .returned (.tuple #[.slice va' (R ++ [x]).length vc', .slice (some ⟨gt, 0, none⟩) 1 ct, .int .i64 0]) ∧ w'.cell? ⟨gt, 0, none⟩ = some (.int .i64 1) ∧ Hid (St wr [lstI (.slice va' (R ++ [x]).length vc') (R ++ [x])] w') by
            obtain ⟨v, t, rfl, s⟩ := h
            obtain ⟨va', vc', rfl, hx⟩ := xa_own (show w'.ownsRow 0 2 1 v (R ++ [x]).length (xC (R ++ [x])) from s.get 1 rfl)
            have s' : St wr [ownI 2 1 t 1 (xC [1]), lstI (.slice va' (R ++ [x]).length vc') (R ++ [x])] w' := s
            obtain ⟨gt, ct, rfl⟩ := s'.form 0 rfl (by decide)
            exact ⟨va', vc', gt, ct, rfl, s'.ownCell 0 rfl 0 (by decide), s'.pop⟩))
          clear hf hok
          have HSJ : Hid (∀ va3 vc3 w3, St wr [lstI (.slice va3 (R ++ [x]).length vc3) (R ++ [x])] w3 → St w (lstI u10 R :: lstI (.slice va3 (R ++ [x]).length vc3) (R ++ [x]) :: T) w3) := hid (fun va3 vc3 w3 h => (HST.out.joinK h).perm (List.Perm.swap _ _ _))
          have HXV : Hid (∀ w3, Kept (fun _ => False) w w3 → w3.cell? ⟨gl, ol + j, none⟩ = some (.int .i64 x)) := hid (fun w3 k => by
            have h1 := World.block_lt_of_cell? _ _ d1
            obtain ⟨h9, _⟩ := HJ.out
            have h8 := (HD.out.1).cell h9
            have h7 : wr.cell? ⟨gl, ol + j, none⟩ = some (.int .i64 (vs.getD j 0)) := (HD.out.1.kept HST.out.same).cell h9
            rw [d1] at h7
            rw [World.cell?_of_block (k.block gl (World.block_lt_of_cell? w _ h8) (fun f => f)), h8, ← h7])
          generalize hlen : (R ++ [x]).length = rl at *
          have HLen := hid hlen
          clear hlen
          go_upto_region 14 with (go_at_call 19; refine hq.mono ?_; rintro e w3 ⟨va3, vc3, gt, ct, rfl, ct0, HS3⟩)
          have s4 := HSJ.out va3 vc3 w3 HS3.out
          have e1 := HXV.out w3 s4.same
          have HS4 : Hid (∀ z, St w (lstI u10 R :: lstI (.slice (some ⟨w3.heap.size, 0, none⟩) 1 1) [z] :: lstI (.slice va3 rl vc3) (R ++ [x]) :: T) (w3.alloc (.cells #[.int .i64 z] 2))) := hid (fun z => lst_under s4 z)
          clear s4 HSJ HXV hq d1
          go_wp2_with (first | simp only [hb1] | (at_builtin; refine wpList_app_st (HS4.out x) rfl _ _ rfl rfl (some ⟨w3.heap.size, 0, none⟩) 1 1 rfl (zs := [x]) (st_xin (HS4.out x) 1 rfl rfl) (fun e => by cases e) (by have := HRL.out; have := HJ.out; simp; omega) ?_; intro v6 w6 s6; have HS7 := hid (lst_drop1 s6); clear s6))
          go_roundw
          case rel =>
            have h7 := HS7.out
            obtain ⟨va9, vc9, e9, hx9⟩ := xa_own (show w6.ownsRow 0 2 1 (.slice va3 rl vc3) (R ++ [x]).length (xC (R ++ [x])) from h7.get 1 rfl)
            rw [HLen.out] at e9
            simp only [Value.slice.injEq, true_and] at e9
            obtain ⟨rfl, rfl⟩ := e9
            exact ⟨j + 1, R ++ [x], lstI (.slice va3 rl vc3) (R ++ [x]) :: T, va3, vc3, by push_cast; rfl, by have := HJ.out; omega, by have := HJ.out; omega, by have := HRL.out; simp; omega, by rw [HLen.out], hx9, h7⟩
          case measure =>
            have := HJ.out
            simp [intOf]
            omega
      · simp only [hok, if_false, Bool.false_eq_true] at hq
        have HK := hid HST.out.same
        clear hok
        go_wp2_with (go_at_call 19; refine hq.mono ?_; rintro e w3 ⟨rfl, k3⟩)
        go_ret
        exact ⟨rfl, HK.out.trans k3 (fun _ _ f => f)⟩
    · have HXA := hid hxa
      have HST := hid hst
      have HRL := hid (show R.length ≤ m + 200 by omega)
      have hend : (decide ((j : Int) < (mv : Int)) = false ∧ decide (j < mv) = false) ∨ ((decide ((j : Int) < (mv : Int)) = true ∧ decide (j < mv) = true) ∧ decide ((j : Int) < 200) = false) := by
        by_cases h : (j : Int) < (mv : Int)
        · exact .inr ⟨⟨decide_eq_true h, decide_eq_true (by omega)⟩, decide_eq_false (by omega)⟩
        · exact .inl ⟨decide_eq_false h, decide_eq_false (by omega)⟩
      obtain ⟨ra, rc, hvr, hxr⟩ := xa_own (show wr.ownsRow 0 2 1 u10 R.length (xC R) from hst.get 0 rfl)
      subst hvr
      clear hxa hst hRl hj hj2 hlt hxr
      have HLft : Hid (leftL true R 0 = R) := hid (by simp [leftL])
      rcases hend with ⟨t1, t3⟩ | ⟨⟨t1, t3⟩, t2⟩
      all_goals
        go_wp2
        go_loopw [11, 16] (fun av i wr2 => ∃ (k : Nat) (T2 : List It) (va2 : Option Addr) (vc2 : Nat), i = .int .i64 k ∧ k ≤ R.length ∧ av = .slice va2 (R.length - k) vc2 ∧ XA wr2 va2 (R.length - k) vc2 (leftL true R k) ∧ (0 < k → (decide (0 < roomS n) && decide ((R.length : Int) ≤ n)) = true) ∧ St w (lstI (.slice ra R.length rc) R :: T2) wr2) (fun _ i _ => R.length - (intOf i).toNat)
        case atStart => exact ⟨0, T, va, vc, rfl, Nat.zero_le _, rfl, by rw [HLft.out]; exact HXA.out, fun h => absurd h (by omega), HST.out⟩
        case round =>
          obtain ⟨k, T2, va2, vc2, rfl, hk, rfl, hxa2, hok, hst2⟩ := hrel
          have HOK := hid hok
          by_cases hlt : k < R.length
          · obtain ⟨gr, or, rfl⟩ : ∃ gr or, ra = some ⟨gr, or, none⟩ := (st_xin hst2 0 rfl rfl).addr (by omega)
            have hxr : XIn wr (some ⟨gr, or, none⟩) R.length R := st_xin hst2 0 rfl rfl
            have hgr : gr < wr.heap.size := World.block_lt_of_cell? _ _ (hxr.cell hlt)
            have HXR : Hid (∀ W, Kept (fun _ => False) wr W → W.cell? ⟨gr, or + k, none⟩ = some (.int .i64 (R.getD k 0)) ∧ W.cell? ⟨gr, or + (R.length - 1 - k), none⟩ = some (.int .i64 (R.getD (R.length - 1 - k) 0))) := hid (fun W kk => ⟨(hxr.kept kk).cell (by omega), (hxr.kept kk).cell (by omega)⟩)
            have hkD : ∀ u v : Array Value, Kept (fun _ => False) wr (wr.alloc (.cells u 33)) ∧ Kept (fun _ => False) wr ((wr.alloc (.cells u 33)).setCell ⟨wr.heap.size, 0, none⟩ (.int .i64 3)) := fun u v => ⟨kept_alloc _ _, (kept_alloc wr (.cells u 33)).trans ((Kept.refl (fun b => b = wr.heap.size) _).setCell (p := ⟨wr.heap.size, 0, none⟩) (.int .i64 3) (.inl rfl)) (fun i hi e => by omega)⟩
            have e1 : (R.length : Int) - 1 - (k : Int) = ((R.length - 1 - k : Nat) : Int) := by omega
            have e2 : ((R.length - 1 - k : Nat) : Int) < (R.length : Int) := by omega
            have e3 : (0 : Int) ≤ ((R.length - 1 - k : Nat) : Int) := by omega
            have t5 : (k : Int) < (R.length : Int) := by omega
            have t6 : (0 : Int) ≤ (k : Int) := by omega
            have t7 : (R.length : Int) ≤ 9223372036854775806 := by have := HRL.out; omega
            have hll : (leftL true R k).length = R.length - k := leftL_length _ _ _
            have hDo : Hid (∀ W, Kept (fun _ => False) wr W → Calls Tryz.prog 19 #[.slice va2 (R.length - k) vc2, .int .i64 n, .agg #[.int .i64 3, .int .i64 0, .int .i64 0, .int .i64 0, .int .i64 0]] W fun e w' => if (decide (0 < roomS n) && decide (((R.length - k : Nat) : Int) ≤ n)) = true then (∃ va3 vc3 gt ct, e = .returned (.tuple #[.slice va3 (R.length - (k + 1)) vc3, .slice (some ⟨gt, 0, none⟩) 2 ct, .int .i64 0]) ∧ w'.cell? ⟨gt, 0, none⟩ = some (.int .i64 1) ∧ w'.cell? ⟨gt, 1, none⟩ = some (.int .i64 (R.getD (R.length - 1 - k) 0)) ∧ Hid (XA w' va3 (R.length - (k + 1)) vc3 (leftL true R (k + 1)) ∧ Kept (fun _ => False) W w')) else (e = .returned (.tuple #[.slice none 0 0, .slice none 0 0, .int .i64 200]) ∧ Kept (fun _ => False) W w')) := hid (fun W kk => by
              have hx := hxa2.kept kk
              rw [← hll] at hx
              have := HDo.out W va2 vc2 (leftL true R k) ⟨3, 0, 0, 0, 0⟩ hx
              unfold DoE at this
              rw [ok_take _ _ _ (by decide), do_pop hlt, hll] at this
              refine this.mono (fun e w' h => ?_)
              by_cases hc : (decide (0 < roomS n) && decide (((R.length - k : Nat) : Int) ≤ n)) = true
              · rw [if_pos hc] at h ⊢
                obtain ⟨v, t, rfl, s⟩ := h
                obtain ⟨va3, vc3, rfl, hx3⟩ := xa_own (show w'.ownsRow 0 2 1 v (leftL true R (k + 1)).length (xC (leftL true R (k + 1))) from s.get 1 rfl)
                have s' : St W [ownI 2 1 t 2 (xC [1, R.getD (R.length - 1 - k) 0]), lstI (.slice va3 (leftL true R (k + 1)).length vc3) (leftL true R (k + 1))] w' := s
                obtain ⟨gt, ct, rfl⟩ := s'.form 0 rfl (by decide)
                rw [leftL_length] at hx3
                exact ⟨va3, vc3, gt, ct, by rw [leftL_length], s'.ownCell 0 rfl 0 (by decide), s'.ownCell 0 rfl 1 (by decide), hx3, s.same⟩
              · rw [if_neg hc] at h ⊢
                exact h)
            have HST2 := hid hst2
            have HK2 := hid hlt
            have HKD := hid hkD
            have f9 := fun u : Array Value => ((St.nil wr).box u 33).frozen 0 rfl 0
            have c9 := fun (u : Array Value) (j : Nat) => ((St.nil wr).box u 33).cell 0 rfl j
            have c10 := fun (u : Array Value) (j : Nat) => (((St.nil wr).box u 33).write 0 rfl 0 (.int .i64 3)).cell 0 rfl j
            have F9 := hid f9
            have C9 := hid c9
            have C10 := hid c10
            obtain ⟨r1, r2⟩ := HXR.out _ (Kept.refl _ _)
            obtain ⟨r3, r4⟩ := HXR.out _ (hkD #[.int .i64 4, .int .i64 0, .int .i64 0, .int .i64 0, .int .i64 0] #[]).1
            obtain ⟨r5, r6⟩ := HXR.out _ (hkD #[.int .i64 4, .int .i64 0, .int .i64 0, .int .i64 0, .int .i64 0] #[]).2
            obtain ⟨r7, r8⟩ := HXR.out _ (hkD #[.int .i64 3, .int .i64 0, .int .i64 0, .int .i64 0, .int .i64 0] #[]).1
            have HN1 : Hid ((decide (0 < roomS n) && decide ((R.length : Int) ≤ n)) = true → (decide (0 < roomS n) && decide (((R.length - k : Nat) : Int) ≤ n)) = true) := hid (fun h => by
              simp only [Bool.and_eq_true, decide_eq_true_eq] at h ⊢
              omega)
            have HN2 : Hid (k = 0 → (decide (0 < roomS n) && decide (((R.length - k : Nat) : Int) ≤ n)) = true → (decide (0 < roomS n) && decide ((R.length : Int) ≤ n)) = true) := hid (fun h0 h => by
              subst h0
              rw [Nat.sub_zero] at h
              exact h)
            clear hst2 hxa2 hok hk hlt hll hxr HXR hgr hkD f9 c9 c10
            generalize hok2 : (decide (0 < roomS n) && decide (((R.length - k : Nat) : Int) ≤ n)) = okb at *
            generalize hRL3 : R.length - (k + 1) = RL3 at *
            have HRL3 := hid hRL3
            clear hRL3
            generalize R.length - k = RL2 at *
            generalize R.getD k 0 = x1 at *
            generalize R.length - 1 - k = p1 at *
            generalize R.getD p1 0 = x2 at *
            go_upto_region 24 with fail
            have a0 := C9.out #[.int .i64 3, .int .i64 0, .int .i64 0, .int .i64 0, .int .i64 0] 0
            have a1 := C9.out #[.int .i64 3, .int .i64 0, .int .i64 0, .int .i64 0, .int .i64 0] 1
            have a2 := C9.out #[.int .i64 3, .int .i64 0, .int .i64 0, .int .i64 0, .int .i64 0] 2
            have a3 := C9.out #[.int .i64 3, .int .i64 0, .int .i64 0, .int .i64 0, .int .i64 0] 3
            have a4 := C9.out #[.int .i64 3, .int .i64 0, .int .i64 0, .int .i64 0, .int .i64 0] 4
            have hq := hDo.out _ (HKD.out #[.int .i64 3, .int .i64 0, .int .i64 0, .int .i64 0, .int .i64 0] #[]).1
            have HKW := hid (HKD.out #[.int .i64 3, .int .i64 0, .int .i64 0, .int .i64 0, .int .i64 0] #[]).1
            clear r1 r2 r3 r4 r5 r6 r7 r8 F9 C9 C10 HKD hDo
            generalize wr.alloc (.cells #[.int .i64 3, .int .i64 0, .int .i64 0, .int .i64 0, .int .i64 0] 33) = w4 at *
            generalize wr.heap.size = M4 at *
            cases okb with
            | true =>
              simp only [if_true] at hq
              have HOK3 : Hid ((decide (0 < roomS n) && decide ((R.length : Int) ≤ n)) = true) := hid (by
                by_cases h0 : k = 0
                · exact HN2.out h0 rfl
                · exact HOK.out (by omega))
              clear HN1 HN2 HOK hok2
              go_wp2_with (go_at_call 19; refine hq.mono ?_; rintro e w5 ⟨va3, vc3, gt, ct, rfl, g0, g1, HX5⟩)
              go_roundw
              case rel => exact ⟨k + 1, T2, va3, vc3, by push_cast; rfl, by have := HK2.out; omega, by rw [HRL3.out], by rw [HRL3.out]; exact HX5.out.1, fun _ => HOK3.out, (HST2.out.calm HKW.out).calm HX5.out.2⟩
              case measure =>
                have := HK2.out
                simp [intOf]
                omega
            | false =>
              simp only [if_false, Bool.false_eq_true] at hq
              have hk0 : k = 0 := by
                by_cases h0 : k = 0
                · exact h0
                · have := HN1.out (HOK.out (by omega))
                  cases this
              subst hk0
              have HKF := hid (HST2.out.calm HKW.out).same
              clear HN1 HN2 HOK hok2
              go_wp2_with (go_at_call 19; refine hq.mono ?_; rintro e w5 ⟨rfl, k5⟩)
              go_ret
              exact ⟨rfl, HKF.out.trans k5 (fun _ _ f => f)⟩
          · obtain rfl : k = R.length := by omega
            have t5 : ¬ (R.length : Int) < (R.length : Int) := by omega
            have HKF := hid hst2.same
            rw [Nat.sub_self]
            have t8 : decide ((mv : Int) = 0) = decide ((mv : Int) = 0) := rfl
            clear hst2 hxa2 hok hk hlt HOK t8
            cases hmz : ((mv : Int) == 0) with
            | true =>
              go_wp2
              go_ret
              exact ⟨rfl, HKF.out⟩
            | false =>
              go_wp2
              go_ret
              exact ⟨rfl, HKF.out⟩
set_option maxRecDepth 100000 in
set_option maxHeartbeats 16000000 in
theorem keeps_f (la : Option Addr) (m lc : Nat) (l : List Int) (n : Int) (lb : Option Addr) (mv cv : Nat) (vs : List Int) (w : World) (hE : Env w) (hC : CameX w la m lc l) (hD : CameX w lb mv cv vs) :
    Calls Tryz.prog 4 #[.slice la m lc, .int .i64 n, .slice lb mv cv, .bool false] w fun e w' => e = .returned (.bool true) ∧ Kept (fun _ => False) w w' := by
  obtain ⟨hX, hlc, hbig, hnil⟩ := hC
  have hA := awake_any w hE
  have HX := hid hX
  have HNil := hid hnil
  have HML := hid hX.1
  have HB := hid hbig
  have HD := hid hD
  have hmv : mv * 8 ≤ 140737488351232 := by have := hD.2; omega
  have hm8 : m * 8 ≤ 140737488351232 := by omega
  have HDo := hid (fun (W : World) (va : Option Addr) (vc : Nat) (R : List Int) (d : Dd) (h : XA W va R.length vc R) => Do_any (n := n) (d := d) h.2.1 h.2.2 h.1)
  have hb1 := fun W x => buildX1 W x
  clear hE hX hnil hlc hbig hD
  go_enter Tryz.func4, Tryz.ntmps4
  go_upto_region 3 with (go_at_call 5; refine hA.mono ?_; rintro e w1 ⟨rfl, k1⟩; clear hA)
  have HL0 : Hid (St w [lstI (.slice none 0 0) []] w1) := hid (lst_nil ((St.nil w).calm k1))
  go_upto_region 4 with (at_builtin; refine wpList_app_st HL0.out rfl _ _ rfl rfl la m lc rfl (HX.out.kept k1) HNil.out (by have := HML.out; simp; omega) ?_; intro v2 w2 s2; have HS2 := hid s2; clear s2)
  have h2 := HS2.out
  rw [List.nil_append] at h2
  obtain ⟨va, vc, hv, hxa⟩ := xa_own (show w2.ownsRow 0 2 1 v2 l.length (xC l) from h2.get 0 rfl)
  subst hv
  have HXA := hid hxa
  have HS := hid h2
  have HLL := hid (show l.length ≤ m by have := HML.out; omega)
  clear hxa h2 HS2 HL0 k1
  go_wp2
  go_loopw [10, 11, 12] (fun vr av i wr => ∃ (j : Nat) (R : List Int) (T : List It) (va : Option Addr) (vc : Nat), i = .int .i64 j ∧ j ≤ mv ∧ j ≤ 200 ∧ R.length ≤ m + j ∧ av = .slice va R.length vc ∧ XA wr va R.length vc R ∧ St w (lstI vr R :: T) wr) (fun _ _ i _ => 200 - (intOf i).toNat)
  case atStart => exact ⟨0, l, [], va, vc, rfl, Nat.zero_le _, Nat.zero_le _, HLL.out, rfl, HXA.out, HS.out⟩
  case round =>
    clear HXA HS HLL
    obtain ⟨j, R, T, va, vc, rfl, hj, hj2, hRl, rfl, hxa, hst⟩ := hrel
    by_cases hlt : j < mv ∧ j < 200
    · have t1 : (j : Int) < (mv : Int) := by omega
      have t2 : (j : Int) < 200 := by omega
      have t0 : (0 : Int) ≤ (j : Int) := by omega
      obtain ⟨gl, ol, rfl⟩ := HD.out.1.addr (by omega)
      have d1 : wr.cell? ⟨gl, ol + j, none⟩ = some (.int .i64 (vs.getD j 0)) := (HD.out.1.kept hst.same).cell hlt.1
      have hq := HDo.out wr va vc R (pushD (vs.getD j 0)) hxa
      unfold DoE at hq
      rw [ok_push, do_push] at hq
      have hq : Calls Tryz.prog 19 #[.slice va R.length vc, .int .i64 n, .agg #[.int .i64 1, .int .i64 0, .int .i64 0, .int .i64 (vs.getD j 0), .int .i64 0]] wr _ := hq
      have HJ := hid hlt
      have HRL := hid hRl
      have HST := hid hst
      clear hxa hst hj hj2 hlt hRl
      generalize vs.getD j 0 = x at *
      by_cases hok : (decide (0 < roomS n) && decide ((R.length : Int) ≤ n)) = true
      · simp only [hok, if_true] at hq
        by_cases hf : (R.length : Int) = n
        · simp only [if_pos hf] at hq
          replace hq := hq.mono (fun e w' (h : ∃ v t, e = .returned (.tuple #[v, t, .int .i64 0]) ∧ St wr [lstI t [0], lstI v R] w') => (show ∃ va' vc' gt ct, e = .returned (.tuple #[.slice va' R.length vc', .slice (some ⟨gt, 0, none⟩) 1 ct, .int .i64 0]) ∧ w'.cell? ⟨gt, 0, none⟩ = some (.int .i64 0) ∧ Hid (XA w' va' R.length vc' R ∧ Kept (fun _ => False) wr w') by
            obtain ⟨v, t, rfl, s⟩ := h
            obtain ⟨va', vc', rfl, hx⟩ := xa_own (show w'.ownsRow 0 2 1 v R.length (xC R) from s.get 1 rfl)
            have s' : St wr [ownI 2 1 t 1 (xC [0]), lstI (.slice va' R.length vc') R] w' := s
            obtain ⟨gt, ct, rfl⟩ := s'.form 0 rfl (by decide)
            exact ⟨va', vc', gt, ct, rfl, s'.ownCell 0 rfl 0 (by decide), hx, s.same⟩))
          clear hf hok
          generalize hlen : R.length = rl at *
          have HLen := hid hlen
          clear hlen
          go_wp2_with (go_at_call 19; refine hq.mono ?_; rintro e w3 ⟨va3, vc3, gt, ct, rfl, ct0, HK3⟩)
          go_roundw
          case rel => exact ⟨j + 1, R, T, va3, vc3, by push_cast; rfl, by have := HJ.out; omega, by have := HJ.out; omega, by have := HRL.out; have := HLen.out; omega, by rw [HLen.out], by rw [HLen.out]; exact HK3.out.1, HST.out.calm HK3.out.2⟩
          case measure =>
            have := HJ.out
            simp [intOf]
            omega
        · simp only [if_neg hf] at hq
          replace hq := hq.mono (fun e w' (h : ∃ v t, e = .returned (.tuple #[v, t, .int .i64 0]) ∧ St wr [lstI t [1], lstI v (R ++ [x])] w') => (show ∃ va' vc' gt ct, e = .returned (.tuple #[.slice va' (R ++ [x]).length vc', .slice (some ⟨gt, 0, none⟩) 1 ct, .int .i64 0]) ∧ w'.cell? ⟨gt, 0, none⟩ = some (.int .i64 1) ∧ Hid (St wr [lstI (.slice va' (R ++ [x]).length vc') (R ++ [x])] w') by
            obtain ⟨v, t, rfl, s⟩ := h
            obtain ⟨va', vc', rfl, hx⟩ := xa_own (show w'.ownsRow 0 2 1 v (R ++ [x]).length (xC (R ++ [x])) from s.get 1 rfl)
            have s' : St wr [ownI 2 1 t 1 (xC [1]), lstI (.slice va' (R ++ [x]).length vc') (R ++ [x])] w' := s
            obtain ⟨gt, ct, rfl⟩ := s'.form 0 rfl (by decide)
            exact ⟨va', vc', gt, ct, rfl, s'.ownCell 0 rfl 0 (by decide), s'.pop⟩))
          clear hf hok
          have HSJ : Hid (∀ va3 vc3 w3, St wr [lstI (.slice va3 (R ++ [x]).length vc3) (R ++ [x])] w3 → St w (lstI u10 R :: lstI (.slice va3 (R ++ [x]).length vc3) (R ++ [x]) :: T) w3) := hid (fun va3 vc3 w3 h => (HST.out.joinK h).perm (List.Perm.swap _ _ _))
          have HXV : Hid (∀ w3, Kept (fun _ => False) w w3 → w3.cell? ⟨gl, ol + j, none⟩ = some (.int .i64 x)) := hid (fun w3 k => by
            have h1 := World.block_lt_of_cell? _ _ d1
            obtain ⟨h9, _⟩ := HJ.out
            have h8 := (HD.out.1).cell h9
            have h7 : wr.cell? ⟨gl, ol + j, none⟩ = some (.int .i64 (vs.getD j 0)) := (HD.out.1.kept HST.out.same).cell h9
            rw [d1] at h7
            rw [World.cell?_of_block (k.block gl (World.block_lt_of_cell? w _ h8) (fun f => f)), h8, ← h7])
          generalize hlen : (R ++ [x]).length = rl at *
          have HLen := hid hlen
          clear hlen
          go_upto_region 14 with (go_at_call 19; refine hq.mono ?_; rintro e w3 ⟨va3, vc3, gt, ct, rfl, ct0, HS3⟩)
          have s4 := HSJ.out va3 vc3 w3 HS3.out
          have e1 := HXV.out w3 s4.same
          have HS4 : Hid (∀ z, St w (lstI u10 R :: lstI (.slice (some ⟨w3.heap.size, 0, none⟩) 1 1) [z] :: lstI (.slice va3 rl vc3) (R ++ [x]) :: T) (w3.alloc (.cells #[.int .i64 z] 2))) := hid (fun z => lst_under s4 z)
          clear s4 HSJ HXV hq d1
          go_wp2_with (first | simp only [hb1] | (at_builtin; refine wpList_app_st (HS4.out x) rfl _ _ rfl rfl (some ⟨w3.heap.size, 0, none⟩) 1 1 rfl (zs := [x]) (st_xin (HS4.out x) 1 rfl rfl) (fun e => by cases e) (by have := HRL.out; have := HJ.out; simp; omega) ?_; intro v6 w6 s6; have HS7 := hid (lst_drop1 s6); clear s6))
          go_roundw
          case rel =>
            have h7 := HS7.out
            obtain ⟨va9, vc9, e9, hx9⟩ := xa_own (show w6.ownsRow 0 2 1 (.slice va3 rl vc3) (R ++ [x]).length (xC (R ++ [x])) from h7.get 1 rfl)
            rw [HLen.out] at e9
            simp only [Value.slice.injEq, true_and] at e9
            obtain ⟨rfl, rfl⟩ := e9
            exact ⟨j + 1, R ++ [x], lstI (.slice va3 rl vc3) (R ++ [x]) :: T, va3, vc3, by push_cast; rfl, by have := HJ.out; omega, by have := HJ.out; omega, by have := HRL.out; simp; omega, by rw [HLen.out], hx9, h7⟩
          case measure =>
            have := HJ.out
            simp [intOf]
            omega
      · simp only [hok, if_false, Bool.false_eq_true] at hq
        have HK := hid HST.out.same
        clear hok
        go_wp2_with (go_at_call 19; refine hq.mono ?_; rintro e w3 ⟨rfl, k3⟩)
        go_ret
        exact ⟨rfl, HK.out.trans k3 (fun _ _ f => f)⟩
    · have HXA := hid hxa
      have HST := hid hst
      have HRL := hid (show R.length ≤ m + 200 by omega)
      have hend : (decide ((j : Int) < (mv : Int)) = false ∧ decide (j < mv) = false) ∨ ((decide ((j : Int) < (mv : Int)) = true ∧ decide (j < mv) = true) ∧ decide ((j : Int) < 200) = false) := by
        by_cases h : (j : Int) < (mv : Int)
        · exact .inr ⟨⟨decide_eq_true h, decide_eq_true (by omega)⟩, decide_eq_false (by omega)⟩
        · exact .inl ⟨decide_eq_false h, decide_eq_false (by omega)⟩
      obtain ⟨ra, rc, hvr, hxr⟩ := xa_own (show wr.ownsRow 0 2 1 u10 R.length (xC R) from hst.get 0 rfl)
      subst hvr
      clear hxa hst hRl hj hj2 hlt hxr
      have HLft : Hid (leftL false R 0 = R) := hid (by simp [leftL])
      rcases hend with ⟨t1, t3⟩ | ⟨⟨t1, t3⟩, t2⟩
      all_goals
        go_wp2
        go_loopw [11, 16] (fun av i wr2 => ∃ (k : Nat) (T2 : List It) (va2 : Option Addr) (vc2 : Nat), i = .int .i64 k ∧ k ≤ R.length ∧ av = .slice va2 (R.length - k) vc2 ∧ XA wr2 va2 (R.length - k) vc2 (leftL false R k) ∧ (0 < k → (decide (0 < roomS n) && decide ((R.length : Int) ≤ n)) = true) ∧ St w (lstI (.slice ra R.length rc) R :: T2) wr2) (fun _ i _ => R.length - (intOf i).toNat)
        case atStart => exact ⟨0, T, va, vc, rfl, Nat.zero_le _, rfl, by rw [HLft.out]; exact HXA.out, fun h => absurd h (by omega), HST.out⟩
        case round =>
          obtain ⟨k, T2, va2, vc2, rfl, hk, rfl, hxa2, hok, hst2⟩ := hrel
          have HOK := hid hok
          by_cases hlt : k < R.length
          · obtain ⟨gr, or, rfl⟩ : ∃ gr or, ra = some ⟨gr, or, none⟩ := (st_xin hst2 0 rfl rfl).addr (by omega)
            have hxr : XIn wr (some ⟨gr, or, none⟩) R.length R := st_xin hst2 0 rfl rfl
            have hgr : gr < wr.heap.size := World.block_lt_of_cell? _ _ (hxr.cell hlt)
            have HXR : Hid (∀ W, Kept (fun _ => False) wr W → W.cell? ⟨gr, or + k, none⟩ = some (.int .i64 (R.getD k 0)) ∧ W.cell? ⟨gr, or + (R.length - 1 - k), none⟩ = some (.int .i64 (R.getD (R.length - 1 - k) 0))) := hid (fun W kk => ⟨(hxr.kept kk).cell (by omega), (hxr.kept kk).cell (by omega)⟩)
            have hkD : ∀ u v : Array Value, Kept (fun _ => False) wr (wr.alloc (.cells u 33)) ∧ Kept (fun _ => False) wr ((wr.alloc (.cells u 33)).setCell ⟨wr.heap.size, 0, none⟩ (.int .i64 3)) := fun u v => ⟨kept_alloc _ _, (kept_alloc wr (.cells u 33)).trans ((Kept.refl (fun b => b = wr.heap.size) _).setCell (p := ⟨wr.heap.size, 0, none⟩) (.int .i64 3) (.inl rfl)) (fun i hi e => by omega)⟩
            have e1 : (R.length : Int) - 1 - (k : Int) = ((R.length - 1 - k : Nat) : Int) := by omega
            have e2 : ((R.length - 1 - k : Nat) : Int) < (R.length : Int) := by omega
            have e3 : (0 : Int) ≤ ((R.length - 1 - k : Nat) : Int) := by omega
            have t5 : (k : Int) < (R.length : Int) := by omega
            have t6 : (0 : Int) ≤ (k : Int) := by omega
            have t7 : (R.length : Int) ≤ 9223372036854775806 := by have := HRL.out; omega
            have hll : (leftL false R k).length = R.length - k := leftL_length _ _ _
            have hDo : Hid (∀ W, Kept (fun _ => False) wr W → Calls Tryz.prog 19 #[.slice va2 (R.length - k) vc2, .int .i64 n, .agg #[.int .i64 4, .int .i64 0, .int .i64 0, .int .i64 0, .int .i64 0]] W fun e w' => if (decide (0 < roomS n) && decide (((R.length - k : Nat) : Int) ≤ n)) = true then (∃ va3 vc3 gt ct, e = .returned (.tuple #[.slice va3 (R.length - (k + 1)) vc3, .slice (some ⟨gt, 0, none⟩) 2 ct, .int .i64 0]) ∧ w'.cell? ⟨gt, 0, none⟩ = some (.int .i64 1) ∧ w'.cell? ⟨gt, 1, none⟩ = some (.int .i64 (R.getD k 0)) ∧ Hid (XA w' va3 (R.length - (k + 1)) vc3 (leftL false R (k + 1)) ∧ Kept (fun _ => False) W w')) else (e = .returned (.tuple #[.slice none 0 0, .slice none 0 0, .int .i64 200]) ∧ Kept (fun _ => False) W w')) := hid (fun W kk => by
              have hx := hxa2.kept kk
              rw [← hll] at hx
              have := HDo.out W va2 vc2 (leftL false R k) ⟨4, 0, 0, 0, 0⟩ hx
              unfold DoE at this
              rw [ok_take _ _ _ (by decide), do_shift hlt, hll] at this
              refine this.mono (fun e w' h => ?_)
              by_cases hc : (decide (0 < roomS n) && decide (((R.length - k : Nat) : Int) ≤ n)) = true
              · rw [if_pos hc] at h ⊢
                obtain ⟨v, t, rfl, s⟩ := h
                obtain ⟨va3, vc3, rfl, hx3⟩ := xa_own (show w'.ownsRow 0 2 1 v (leftL false R (k + 1)).length (xC (leftL false R (k + 1))) from s.get 1 rfl)
                have s' : St W [ownI 2 1 t 2 (xC [1, R.getD k 0]), lstI (.slice va3 (leftL false R (k + 1)).length vc3) (leftL false R (k + 1))] w' := s
                obtain ⟨gt, ct, rfl⟩ := s'.form 0 rfl (by decide)
                rw [leftL_length] at hx3
                exact ⟨va3, vc3, gt, ct, by rw [leftL_length], s'.ownCell 0 rfl 0 (by decide), s'.ownCell 0 rfl 1 (by decide), hx3, s.same⟩
              · rw [if_neg hc] at h ⊢
                exact h)
            have HST2 := hid hst2
            have HK2 := hid hlt
            have HKD := hid hkD
            have f9 := fun u : Array Value => ((St.nil wr).box u 33).frozen 0 rfl 0
            have c9 := fun (u : Array Value) (j : Nat) => ((St.nil wr).box u 33).cell 0 rfl j
            have c10 := fun (u : Array Value) (j : Nat) => (((St.nil wr).box u 33).write 0 rfl 0 (.int .i64 3)).cell 0 rfl j
            have F9 := hid f9
            have C9 := hid c9
            have C10 := hid c10
            obtain ⟨r1, r2⟩ := HXR.out _ (Kept.refl _ _)
            obtain ⟨r3, r4⟩ := HXR.out _ (hkD #[.int .i64 4, .int .i64 0, .int .i64 0, .int .i64 0, .int .i64 0] #[]).1
            obtain ⟨r5, r6⟩ := HXR.out _ (hkD #[.int .i64 4, .int .i64 0, .int .i64 0, .int .i64 0, .int .i64 0] #[]).2
            obtain ⟨r7, r8⟩ := HXR.out _ (hkD #[.int .i64 3, .int .i64 0, .int .i64 0, .int .i64 0, .int .i64 0] #[]).1
            have HN1 : Hid ((decide (0 < roomS n) && decide ((R.length : Int) ≤ n)) = true → (decide (0 < roomS n) && decide (((R.length - k : Nat) : Int) ≤ n)) = true) := hid (fun h => by
              simp only [Bool.and_eq_true, decide_eq_true_eq] at h ⊢
              omega)
            have HN2 : Hid (k = 0 → (decide (0 < roomS n) && decide (((R.length - k : Nat) : Int) ≤ n)) = true → (decide (0 < roomS n) && decide ((R.length : Int) ≤ n)) = true) := hid (fun h0 h => by
              subst h0
              rw [Nat.sub_zero] at h
              exact h)
            clear hst2 hxa2 hok hk hlt hll hxr HXR hgr hkD f9 c9 c10
            generalize hok2 : (decide (0 < roomS n) && decide (((R.length - k : Nat) : Int) ≤ n)) = okb at *
            generalize hRL3 : R.length - (k + 1) = RL3 at *
            have HRL3 := hid hRL3
            clear hRL3
            generalize R.length - k = RL2 at *
            generalize R.getD k 0 = x1 at *
            generalize R.length - 1 - k = p1 at *
            generalize R.getD p1 0 = x2 at *
            go_upto_region 24 with fail
            have a0 := C9.out #[.int .i64 4, .int .i64 0, .int .i64 0, .int .i64 0, .int .i64 0] 0
            have a1 := C9.out #[.int .i64 4, .int .i64 0, .int .i64 0, .int .i64 0, .int .i64 0] 1
            have a2 := C9.out #[.int .i64 4, .int .i64 0, .int .i64 0, .int .i64 0, .int .i64 0] 2
            have a3 := C9.out #[.int .i64 4, .int .i64 0, .int .i64 0, .int .i64 0, .int .i64 0] 3
            have a4 := C9.out #[.int .i64 4, .int .i64 0, .int .i64 0, .int .i64 0, .int .i64 0] 4
            have hq := hDo.out _ (HKD.out #[.int .i64 4, .int .i64 0, .int .i64 0, .int .i64 0, .int .i64 0] #[]).1
            have HKW := hid (HKD.out #[.int .i64 4, .int .i64 0, .int .i64 0, .int .i64 0, .int .i64 0] #[]).1
            clear r1 r2 r3 r4 r5 r6 r7 r8 F9 C9 C10 HKD hDo
            generalize wr.alloc (.cells #[.int .i64 4, .int .i64 0, .int .i64 0, .int .i64 0, .int .i64 0] 33) = w4 at *
            generalize wr.heap.size = M4 at *
            cases okb with
            | true =>
              simp only [if_true] at hq
              have HOK3 : Hid ((decide (0 < roomS n) && decide ((R.length : Int) ≤ n)) = true) := hid (by
                by_cases h0 : k = 0
                · exact HN2.out h0 rfl
                · exact HOK.out (by omega))
              clear HN1 HN2 HOK hok2
              go_wp2_with (go_at_call 19; refine hq.mono ?_; rintro e w5 ⟨va3, vc3, gt, ct, rfl, g0, g1, HX5⟩)
              go_roundw
              case rel => exact ⟨k + 1, T2, va3, vc3, by push_cast; rfl, by have := HK2.out; omega, by rw [HRL3.out], by rw [HRL3.out]; exact HX5.out.1, fun _ => HOK3.out, (HST2.out.calm HKW.out).calm HX5.out.2⟩
              case measure =>
                have := HK2.out
                simp [intOf]
                omega
            | false =>
              simp only [if_false, Bool.false_eq_true] at hq
              have hk0 : k = 0 := by
                by_cases h0 : k = 0
                · exact h0
                · have := HN1.out (HOK.out (by omega))
                  cases this
              subst hk0
              have HKF := hid (HST2.out.calm HKW.out).same
              clear HN1 HN2 HOK hok2
              go_wp2_with (go_at_call 19; refine hq.mono ?_; rintro e w5 ⟨rfl, k5⟩)
              go_ret
              exact ⟨rfl, HKF.out.trans k5 (fun _ _ f => f)⟩
          · obtain rfl : k = R.length := by omega
            have t5 : ¬ (R.length : Int) < (R.length : Int) := by omega
            have HKF := hid hst2.same
            rw [Nat.sub_self]
            have t8 : decide ((mv : Int) = 0) = decide ((mv : Int) = 0) := rfl
            clear hst2 hxa2 hok hk hlt HOK t8
            cases hmz : ((mv : Int) == 0) with
            | true =>
              go_wp2
              go_ret
              exact ⟨rfl, HKF.out⟩
            | false =>
              go_wp2
              go_ret
              exact ⟨rfl, HKF.out⟩
theorem keeps_walk (la : Option Addr) (m lc : Nat) (l : List Int) (n : Int) (lb : Option Addr) (mv cv : Nat) (vs : List Int) (b : Bool) (w : World) (hE : Env w) (hC : CameX w la m lc l) (hD : CameX w lb mv cv vs) :
    Calls Tryz.prog 4 #[.slice la m lc, .int .i64 n, .slice lb mv cv, .bool b] w fun e w' => e = .returned (.bool true) ∧ Kept (fun _ => False) w w' := by
  cases b with
  | true => exact keeps_t la m lc l n lb mv cv vs w hE hC hD
  | false => exact keeps_f la m lc l n lb mv cv vs w hE hC hD
end Go.Proofs.YtahokdgodhhchabGreatDoor
