/- SigSound, step by step: it answers true. -/
import Derived.Test.YtbbllmhnhhbpiaaDoorSound
import Derived.Test.YtbbllmhnhhbpiaaDoorLent
import Derived.Test.YtbbllmhnhhbpiaaDoorUp
namespace Go.Proofs.YtbbllmhnhhbpiaaDoor
open Go.RowKit
set_option linter.unusedVariables false
set_option linter.unusedSimpArgs false

theorem ownsRow_keptW {w w' : World} {base n : Nat} {v : Value} {e : TypeId} {size : Nat} {xs : List Value} {F : Nat → Prop} (h : w.ownsRow base e size v n xs) (k : Kept F w w') (hf : ∀ g, v.ownBlock = some g → ¬ F g) : w'.ownsRow base e size v n xs := by
  refine ⟨h.1, ?_⟩
  rcases h.2 with hc | ⟨g, cap, cur, rfl, hg, hh, r⟩
  · exact .inl hc
  · exact .inr ⟨g, cap, cur, rfl, hg, (k.block g (lt_of_heap hh) (hf g rfl)).trans hh, r⟩
theorem Many.keptF {w : World} {l : List (Nat × Sg)} {W W' : World} {F : Nat → Prop} (h : Many w l W) (k : Kept F W W') (hf : ∀ q ∈ l, ¬ F q.1) (hw : ∀ i, i < w.heap.size → ¬ F i) : Many w l W' := ⟨fun q hq => (h.box q hq).kept k (hf q hq), h.K.trans k (fun i hi f => hw i hi f)⟩
/-- Each number cut down to a byte. -/
def bytesL (l : List Int) : List Int := l.map (· % 256)
theorem bytesL_in (l : List Int) : ∀ z ∈ bytesL l, 0 ≤ z ∧ z < 256 := fun z hz => by
  obtain ⟨y, _, rfl⟩ := List.mem_map.1 hz
  exact ⟨Int.emod_nonneg _ (by decide), Int.emod_lt_of_pos _ (by decide)⟩
theorem bytesL_take (l : List Int) (j : Nat) (h : j < l.length) : (bytesL l).take (j + 1) = (bytesL l).take j ++ [l.getD j 0 % 256] := by
  have h2 : j < (bytesL l).length := by simpa [bytesL] using h
  rw [List.take_succ_eq_append_getElem h2]
  simp [bytesL, List.getD, h]

set_option maxRecDepth 100000 in
set_option maxHeartbeats 4000000 in
theorem sigSound_walk (la lb : Option Addr) (n m ca cb : Nat) (xs ys : List Int) (c b : Int) (w : World) (hT : Tab w) (hX : ListAt w la n ca xs) (hY : ListAt w lb m cb ys) :
    Calls Tryd.prog 7 #[.slice la n ca, .slice lb m cb, .int .i64 c, .int .i64 b] w fun e w' => e = .returned (.bool true) ∧ Kept (fun _ => False) w w' := by
  obtain ⟨i0, hi0, hz0, hz1, hz2⟩ := info_parts Tryd.info3
  obtain ⟨hIX, hxl, hxb⟩ := list_ints hX
  obtain ⟨hIY, hyl, hyb⟩ := list_ints hY
  have hn : n ≤ 17592186044414 := by omega
  have hm : m ≤ 17592186044414 := by omega
  have HX : Hid (n = xs.length) := hxl
  have HY : Hid (m = ys.length) := hyl
  have HIX : Hid (∀ w', Kept (fun _ => False) w w' → IntsIn w' la n xs) := fun w' k => hIX.kept k
  have HIY : Hid (∀ w', Kept (fun _ => False) w w' → IntsIn w' lb m ys) := fun w' k => hIY.kept k
  have hA := awake_any w hT
  have hE := eqS
  have HTX : Hid (∀ j, j < xs.length → (bytesL xs).take (j + 1) = (bytesL xs).take j ++ [xs.getD j 0 % 256]) := bytesL_take xs
  have HTY : Hid (∀ j, j < ys.length → (bytesL ys).take (j + 1) = (bytesL ys).take j ++ [ys.getD j 0 % 256]) := bytesL_take ys
  have HXL : Hid ((bytesL xs).take n = bytesL xs) := List.take_of_length_le (by simp [bytesL]; omega)
  have HYL : Hid ((bytesL ys).take m = bytesL ys) := List.take_of_length_le (by simp [bytesL]; omega)
  have HBX : Hid ((bytesL xs).length = n) := by simp [bytesL, Hid]; omega
  have HBY : Hid ((bytesL ys).length = m) := by simp [bytesL, Hid]; omega
  have b127 := and127 b
  have c255 := and255 c
  have g0 : 0 ≤ b % 128 := Int.emod_nonneg _ (by decide)
  have g1 : b % 128 < 128 := Int.emod_lt_of_pos _ (by decide)
  have g2 : 0 ≤ c % 256 := Int.emod_nonneg _ (by decide)
  have g3 : c % 256 < 256 := Int.emod_lt_of_pos _ (by decide)
  have FACTS := sound_facts (1 + b % 128) ⟨by omega, by omega⟩ (bytesL xs) (bytesL ys) (c % 256) (bytesL_in xs) (bytesL_in ys) ⟨g2, g3⟩
  generalize hLX : bytesL xs = LX at *
  generalize hLY : bytesL ys = LY at *
  generalize hb1 : b % 128 = b1 at *
  generalize hc1 : c % 256 = c1 at *
  clear hX hY hIX hIY hxl hyl hxb hyb hLX hLY hb1 hc1
  have HF : Hid (∃ f s t o : Sg, ofR LX (1 + b1) = (f, 0) ∧ ofR (LX ++ [c1]) (1 + b1) = (s, 0) ∧ ofR (LY ++ [c1]) (1 + b1) = (t, 0) ∧ fromGo [hash1 c1 (1 + b1), hash2 c1 (1 + b1)] Sg.zero = (o, 0) ∧ f.ok ∧ s.ok ∧ t.ok ∧ o.ok ∧
      (!((s.meet t).same Sg.zero)) = true ∧ ((f.join s).same s) = true ∧ ((o.join s).same s) = true ∧ f.join o = s ∧ hashE c1 (1 + b1) = 0 ∧ 0 ≤ hash1 c1 (1 + b1) ∧ hash1 c1 (1 + b1) < 1 + b1 ∧ 0 ≤ hash2 c1 (1 + b1) ∧ hash2 c1 (1 + b1) < 1 + b1) := FACTS
  clear FACTS
  go_enter Tryd.func7, Tryd.ntmps7
  go_wp2_with fail
  refine hA.mono ?_
  rintro e wa ⟨rfl, ka⟩
  clear hA
  go_wp2_with (simp only [b127])
  obtain ⟨p, HP⟩ : ∃ p, Hid (w.heap.size = p) := ⟨_, rfl⟩
  go_loopw [11, 13] (fun v i wr => ∃ j : Nat, i = .int .i64 j ∧ j ≤ n ∧ wr.ownsRow p 3 1 v j ((LX.take j).map (Value.int .i64)) ∧ Kept (fun _ => False) w wr) (fun _ i _ => n - (intOf i).toNat)
  case atStart => exact ⟨0, rfl, Nat.zero_le _, World.ownsRow_nil _ _ _ _, ka⟩
  case round =>
    obtain ⟨j, rfl, hj, ho, hk⟩ := hrel
    clear ka
    by_cases hlt : j < n
    · obtain ⟨g, o, rfl, hga⟩ := (HIX.out wr hk).2 (by omega)
      have c1' : wr.cell? ⟨g, o + j, none⟩ = some (.int .i64 (xs.getD j 0)) := hga j hlt
      have HT2 : Hid (LX.take (j + 1) = LX.take j ++ [xs.getD j 0 % 256]) := HTX.out j (by have := HX.out; omega)
      generalize xs.getD j 0 = z at c1' HT2
      have z255 := and255 z
      have h0 : (0 : Int) ≤ (j : Int) := Int.natCast_nonneg _
      have h1 : (j : Int) < (n : Int) := by omega
      have hpw : Hid (p ≤ wr.heap.size) := by
        have := hk.size
        rw [HP.out] at this
        exact this
      clear hga
      generalize hLj : LX.take j = LJ at *
      generalize hzz : z % 256 = zz at *
      clear hLj hzz
      go_wp2_with (first | simp only [z255] | (at_builtin; refine wpList_append_lies _ rfl (.tmp 36) (.tmp 42) 27 rfl p 3 i0 _ 1 8 Tryd.underlying27 hi0 hz0 hz1 hz2 rfl (by omega) _ j (LJ.map (Value.int .i64)) rfl (ho.alloc _) ⟨wr.heap.size, 0, none⟩ 1 1 [.int .i64 zz] rfl (by simp) (World.news_of_block (cs := #[.int .i64 zz]) (t := 3) (fr := (0, 0)) (heap_alloc_new wr _)) (by simp [Value.oneCell']) (by omega) (by unfold maxLen; omega) (by omega) (by simp; have := hpw.out; omega) (wr.heap.size + 1) (by simp) ?_; intro g5 cap w5 hown5 hgrow hat hlt5))
      go_roundw
      case rel =>
        refine ⟨j + 1, by go_num, hlt, ?_, (hk.alloc _).grown hgrow (fun k e => .inr ?_)⟩
        · rw [HT2.out, List.map_append]
          exact hown5
        · have := (ho.lt k e).1
          rw [HP.out]
          exact this
      case measure => simp [intOf]; omega
    · have hjn : j = n := by omega
      subst hjn
      have h1 : ¬ (j : Int) < (j : Int) := by omega
      rw [HXL.out] at ho
      obtain ⟨f, s, t, o, EF, ES, ET, EO, OF, OS, OT, OO, P1, P2, P3, P4, P5, P6, P7, P8, P9⟩ := HF.out
      have HP1 : Hid ((!((s.meet t).same Sg.zero)) = true) := P1
      have HP2 : Hid (((f.join s).same s) = true) := P2
      have HP3 : Hid (((o.join s).same s) = true) := P3
      have HP4 : Hid (f.join o = s) := P4
      have HES : Hid (ofR (LX ++ [c1]) (1 + b1) = (s, 0)) := ES
      have HET : Hid (ofR (LY ++ [c1]) (1 + b1) = (t, 0)) := ET
      have HEO : Hid (fromGo [hash1 c1 (1 + b1), hash2 c1 (1 + b1)] Sg.zero = (o, 0)) := EO
      clear P1 P2 P3 P4 ES ET EO HF
      obtain ⟨gx, cx, rfl, hgx⟩ := owned_shape ho
      have hO := of_any gx j cx LX (1 + b1) wr (owned_ints ho) (by omega)
      rw [EF] at hO
      obtain ⟨y1, hy1⟩ : ∃ y, y = wr := ⟨_, rfl⟩
      subst hy1
      have hpw : Hid (p ≤ y1.heap.size) := by
        have := hk.size
        rw [HP.out] at this
        exact this
      obtain ⟨f0, f1⟩ := f
      simp only [Sg.val] at hO
      clear EF
      go_wp2_with fail
      refine hO.mono ?_
      rintro e u1 ⟨rfl, k1⟩
      have ho1 := ownsRow_keptW ho k1 (fun _ _ f => f)
      have hD : Many w [] u1 := ⟨fun q hq => (by cases hq), hk.trans k1 (fun _ _ f => f)⟩
      have hlx : ∀ k, (Value.slice gx j cx).ownBlock = some k → k < u1.heap.size := fun k e => (ho1.lt k e).2
      have hpx : ∀ k, (Value.slice gx j cx).ownBlock = some k → p ≤ k := fun k e => (ho1.lt k e).1
      replace hD := hD.add f0 f1
      replace ho1 := ownsRow_keptW ho1 ((Kept.refl (fun _ => False) u1).alloc (.cells #[.int .u64 f0, .int .u64 f1] 31)) (fun _ _ f => f)
      have HQ1 : Hid (∀ k, (Value.slice gx j cx).ownBlock = some k → k ≠ u1.heap.size ∧ p ≤ k) := fun k e => ⟨fun h => by have := hlx k e; omega, hpx k e⟩
      have hsz : Hid (p ≤ (u1.alloc (.cells #[.int .u64 f0, .int .u64 f1] 31)).heap.size) := by
        have h1 := k1.size
        have h2 := hpw.out
        show _ ≤ _
        simp
        omega
      clear hO k1 hlx hpx ho hk
      have hnew : ∀ z : Int, ((u1.alloc (.cells #[.int .u64 f0, .int .u64 f1] 31)).alloc (.cells #[.int .i64 z] 3)).heap[u1.heap.size + 1]? = some (.cells #[.int .i64 z] 3 (0, 0)) := fun z => by
        have := heap_alloc_new (u1.alloc (.cells #[.int .u64 f0, .int .u64 f1] 31)) (.cells #[.int .i64 z] 3)
        simpa using this
      go_wp2_with (first | simp only [c255] | (at_builtin; refine wpList_append_lies _ rfl (.tmp 50) (.tmp 53) 27 rfl p 3 i0 _ 1 8 Tryd.underlying27 hi0 hz0 hz1 hz2 rfl (by omega) (.slice gx j cx) j (LX.map (Value.int .i64)) rfl (ho1.alloc _) ⟨u1.heap.size + 1, 0, none⟩ 1 1 [.int .i64 c1] rfl (by simp) (World.news_of_block (cs := #[.int .i64 c1]) (t := 3) (fr := (0, 0)) (hnew c1)) (by simp [Value.oneCell']) (by omega) (by unfold maxLen; omega) (by omega) (by have := hsz.out; simp at this ⊢; omega) (u1.heap.size + 1 + 1) (by simp) ?_; intro gx2 cx2 w6 hox hgrow hat hlt6))
      have KF : Kept (fun k => (Value.slice gx j cx).ownBlock = some k) (u1.alloc (.cells #[.int .u64 f0, .int .u64 f1] 31)) w6 := ((Kept.refl _ _).alloc _).grown hgrow (fun k e => .inl e)
      replace hD := hD.keptF KF (fun q hq f => by
        simp only [List.mem_cons, List.not_mem_nil, or_false] at hq
        subst hq
        exact (HQ1.out _ f).1 rfl) (fun i hi f => by
        have h1 := (HQ1.out i f).2
        rw [HP.out] at hi
        omega)
      replace hox : w6.ownsRow p 3 1 (.slice (some ⟨gx2, 0, none⟩) (j + 1) cx2) (j + 1) ((LX ++ [c1]).map (Value.int .i64)) := by simpa using hox
      have hsz6 : Hid (p ≤ w6.heap.size) := Nat.le_trans hsz.out KF.size
      clear KF hgrow hat ho1 hsz HQ1 hnew hgx
      generalize u1.heap.size = q1 at *
      obtain ⟨p2, HP2'⟩ : ∃ p2, Hid (w6.heap.size = p2) := ⟨_, rfl⟩
      have hgp : Hid (gx2 < p2) := by
        have := HP2'.out
        show _ < _
        omega
      clear hlt6
      go_loopw [12, 16] (fun v i wr => ∃ k : Nat, i = .int .i64 k ∧ k ≤ m ∧ wr.ownsRow p2 3 1 v k ((LY.take k).map (Value.int .i64)) ∧ wr.ownsRow p 3 1 (.slice (some ⟨gx2, 0, none⟩) (j + 1) cx2) (j + 1) ((LX ++ [c1]).map (Value.int .i64)) ∧ Many w [(q1, ⟨f0, f1⟩)] wr ∧ Hid (p2 ≤ wr.heap.size)) (fun _ i _ => m - (intOf i).toNat)
      case atStart => exact ⟨0, rfl, Nat.zero_le _, World.ownsRow_nil _ _ _ _, hox, hD, Nat.le_of_eq HP2'.out.symm⟩
      case round =>
        obtain ⟨k, rfl, hkm, hoy, hox2, hD2, hpw2⟩ := hrel
        have hq1 : Hid (q1 < p2) := by
          have h1 := (hD.box (q1, ⟨f0, f1⟩) (by simp)).lt
          have h2 := HP2'.out
          show _ < _
          simp only at h1
          omega
        have hpp : Hid (p ≤ p2) := by
          have h1 := hsz6.out
          have h2 := HP2'.out
          show _ ≤ _
          omega
        obtain ⟨gy, cy, rfl, hgy⟩ := owned_shape hoy
        have hly : Hid (∀ i, (Value.slice gy k cy).ownBlock = some i → p2 ≤ i) := fun i e => (hoy.lt i e).1
        have XK : Hid (∀ W W', W.ownsRow p 3 1 (.slice (some ⟨gx2, 0, none⟩) (j + 1) cx2) (j + 1) ((LX ++ [c1]).map (Value.int .i64)) → Kept (fun i => (Value.slice gy k cy).ownBlock = some i) W W' → W'.ownsRow p 3 1 (.slice (some ⟨gx2, 0, none⟩) (j + 1) cx2) (j + 1) ((LX ++ [c1]).map (Value.int .i64))) := fun W W' h kk => ownsRow_keptW h kk (fun g hg f => by
          have h1 := hly.out g f
          have h2 := hgp.out
          simp [Value.ownBlock] at hg
          omega)
        have MK : Hid (∀ W W', Many w [(q1, ⟨f0, f1⟩)] W → Kept (fun i => (Value.slice gy k cy).ownBlock = some i) W W' → Many w [(q1, ⟨f0, f1⟩)] W') := fun W W' h kk => h.keptF kk (fun q hq f => by
          simp only [List.mem_cons, List.not_mem_nil, or_false] at hq
          subst hq
          have h1 := hly.out _ f
          have h2 := hq1.out
          simp only at h1
          omega) (fun i hi f => by
          have h1 := hly.out i f
          have h2 := hpp.out
          rw [HP.out] at hi
          omega)
        by_cases hlt : k < m
        · obtain ⟨g, o', rfl, hga⟩ := (HIY.out wr hD2.K).2 (by omega)
          have c1' : wr.cell? ⟨g, o' + k, none⟩ = some (.int .i64 (ys.getD k 0)) := hga k hlt
          have HT2 : Hid (LY.take (k + 1) = LY.take k ++ [ys.getD k 0 % 256]) := HTY.out k (by have := HY.out; omega)
          generalize ys.getD k 0 = z at c1' HT2
          have z255 := and255 z
          have h0 : (0 : Int) ≤ (k : Int) := Int.natCast_nonneg _
          have h1' : (k : Int) < (m : Int) := by omega
          clear hga
          generalize hLj : LY.take k = LJ at *
          generalize hzz : z % 256 = zz at *
          clear hLj hzz
          go_wp2_with (first | simp only [z255] | (at_builtin; refine wpList_append_lies _ rfl (.tmp 61) (.tmp 67) 27 rfl p2 3 i0 _ 1 8 Tryd.underlying27 hi0 hz0 hz1 hz2 rfl (by omega) (.slice gy k cy) k (LJ.map (Value.int .i64)) rfl (hoy.alloc _) ⟨wr.heap.size, 0, none⟩ 1 1 [.int .i64 zz] rfl (by simp) (World.news_of_block (cs := #[.int .i64 zz]) (t := 3) (fr := (0, 0)) (heap_alloc_new wr _)) (by simp [Value.oneCell']) (by omega) (by unfold maxLen; omega) (by omega) (by simp; have := hpw2.out; omega) (wr.heap.size + 1) (by simp) ?_; intro g5 cap w5 hown5 hgrow hat hlt5))
          have KY : Kept (fun i => (Value.slice gy k cy).ownBlock = some i) wr w5 := ((Kept.refl _ _).alloc _).grown hgrow (fun _ e => .inl e)
          go_roundw
          case rel =>
            refine ⟨k + 1, by go_num, hlt, ?_, XK.out _ _ hox2 KY, MK.out _ _ hD2 KY, Nat.le_trans hpw2.out KY.size⟩
            rw [HT2.out, List.map_append]
            exact hown5
          case measure => simp [intOf]; omega
        · have hkm2 : k = m := by omega
          subst hkm2
          have h1' : ¬ (k : Int) < (k : Int) := by omega
          rw [HYL.out] at hoy
          obtain ⟨y2, hy2⟩ : ∃ y, y = wr := ⟨_, rfl⟩
          subst hy2
          clear hox hD
          go_wp2_with (first | simp only [c255] | (at_builtin; refine wpList_append_lies _ rfl (.tmp 69) (.tmp 72) 27 rfl p2 3 i0 _ 1 8 Tryd.underlying27 hi0 hz0 hz1 hz2 rfl (by omega) (.slice gy k cy) k (LY.map (Value.int .i64)) rfl (hoy.alloc _) ⟨y2.heap.size, 0, none⟩ 1 1 [.int .i64 c1] rfl (by simp) (World.news_of_block (cs := #[.int .i64 c1]) (t := 3) (fr := (0, 0)) (heap_alloc_new y2 _)) (by simp [Value.oneCell']) (by omega) (by unfold maxLen; omega) (by omega) (by simp; have := hpw2.out; omega) (y2.heap.size + 1) (by simp) ?_; intro gy2 cy2 w7 hoy2 hgrow hat hlt7))
          have KY : Kept (fun i => (Value.slice gy k cy).ownBlock = some i) y2 w7 := ((Kept.refl _ _).alloc _).grown hgrow (fun _ e => .inl e)
          have hox3 := XK.out _ _ hox2 KY
          have hD := MK.out _ _ hD2 KY
          replace hoy2 : w7.ownsRow p2 3 1 (.slice (some ⟨gy2, 0, none⟩) (k + 1) cy2) (k + 1) ((LY ++ [c1]).map (Value.int .i64)) := by simpa using hoy2
          clear KY hgrow hat hox2 hD2 hoy XK MK hly hgy hpw2 hlt7
          have hO2 := of_any (some ⟨gx2, 0, none⟩) (j + 1) cx2 (LX ++ [c1]) (1 + b1) w7 (owned_ints hox3) (by omega)
          rw [HES.out] at hO2
          have F24 := fun l => Many.of_calls (w := w) (l := l) (meets_any s t OS OT)
          rw [HP1.out] at F24
          have F26 := fun l => Many.of_calls (w := w) (l := l) (within_any ⟨f0, f1⟩ s OF OS)
          rw [HP2.out] at F26
          have F26' := fun l => Many.of_calls (w := w) (l := l) (within_any o s OO OS)
          rw [HP3.out] at F26'
          have F18 := fun l => Many.of_calls (w := w) (l := l) (join_any ⟨f0, f1⟩ o OF OO)
          rw [HP4.out] at F18
          obtain ⟨s0, s1⟩ := s
          obtain ⟨t0, t1⟩ := t
          obtain ⟨o0, o1⟩ := o
          simp only [Sg.val] at hO2 F24 F26 F26' F18
          clear OF OS OT OO HP1 HP2 HP3 HP4 HES
          refine hO2.mono ?_
          rintro e u2 ⟨rfl, k2⟩
          replace hoy2 := ownsRow_keptW hoy2 k2 (fun _ _ f => f)
          replace hD := hD.kept k2
          clear k2 hO2 hox3
          replace hoy2 := ownsRow_keptW hoy2 ((Kept.refl (fun _ => False) u2).alloc (.cells #[.int .u64 s0, .int .u64 s1] 31)) (fun _ _ f => f)
          replace hD := hD.add s0 s1
          go_wp2_with fail
          generalize u2.alloc (.cells #[.int .u64 s0, .int .u64 s1] 31) = v2 at *
          generalize u2.heap.size = q2 at *
          have hO3 := of_any (some ⟨gy2, 0, none⟩) (k + 1) cy2 (LY ++ [c1]) (1 + b1) v2 (owned_ints hoy2) (by omega)
          rw [HET.out] at hO3
          simp only [Sg.val] at hO3
          refine hO3.mono ?_
          rintro e u3 ⟨rfl, k3⟩
          replace hD := hD.kept k3
          clear k3 hO3 hoy2 HET
          replace hD := hD.add t0 t1
          have hH := hash_any c1 (1 + b1)
          rw [P5] at hH
          go_wp2_with (simp only [c255])
          generalize u3.alloc (.cells #[.int .u64 t0, .int .u64 t1] 31) = v3 at *
          generalize u3.heap.size = q3 at *
          refine (hH _).mono ?_
          rintro e u4 ⟨rfl, hu4⟩
          subst hu4
          generalize hash1 c1 (1 + b1) = x1 at *
          generalize hash2 c1 (1 + b1) = x2 at *
          clear hH
          go_wp2_with fail
          have hL : IntsIn (u4.alloc (.cells #[.int .i64 x1, .int .i64 x2] 3)) (some ⟨u4.heap.size, 0, none⟩) 2 [x1, x2] := ⟨rfl, fun _ => ⟨_, _, rfl, fun i hi => by
            rcases (show i = 0 ∨ i = 1 by omega) with rfl | rfl
            · exact cell_of_heap (heap_alloc_new u4 _)
            · exact cell_of_heap (heap_alloc_new u4 _)⟩⟩
          replace hD := hD.kept ((Kept.refl (fun _ => False) u4).alloc (.cells #[.int .i64 x1, .int .i64 x2] 3))
          generalize u4.alloc (.cells #[.int .i64 x1, .int .i64 x2] 3) = v4 at *
          have hF := from_any (some ⟨u4.heap.size, 0, none⟩) 2 2 [x1, x2] v4 hL (by omega)
          rw [HEO.out] at hF
          simp only [Sg.val] at hF
          refine hF.mono ?_
          rintro e u5 ⟨rfl, k5⟩
          replace hD := hD.kept k5
          clear k5 hF hL HEO
          replace hD := hD.add o0 o1
          go_wp2_with fail
          replace hD := hD.drew
          generalize u5.alloc (.cells #[.int .u64 o0, .int .u64 o1] 31) = v5 at *
          generalize u5.heap.size = q4 at *
          generalize hLL : [(q4, (⟨o0, o1⟩ : Sg)), (q3, ⟨t0, t1⟩), (q2, ⟨s0, s1⟩), (q1, ⟨f0, f1⟩)] = LL at *
          have HC : Hid (∀ W, Many w LL W → W.cell? ⟨q1, 0, none⟩ = some (.int .u64 f0) ∧ W.cell? ⟨q1, 1, none⟩ = some (.int .u64 f1) ∧ W.cell? ⟨q2, 0, none⟩ = some (.int .u64 s0) ∧ W.cell? ⟨q2, 1, none⟩ = some (.int .u64 s1) ∧ W.cell? ⟨q3, 0, none⟩ = some (.int .u64 t0) ∧ W.cell? ⟨q3, 1, none⟩ = some (.int .u64 t1) ∧ W.cell? ⟨q4, 0, none⟩ = some (.int .u64 o0) ∧ W.cell? ⟨q4, 1, none⟩ = some (.int .u64 o1) ∧ Many w LL W) := fun W h => by
            have y1 := h.box (q1, ⟨f0, f1⟩) (by rw [← hLL]; simp)
            have y2 := h.box (q2, ⟨s0, s1⟩) (by rw [← hLL]; simp)
            have y3 := h.box (q3, ⟨t0, t1⟩) (by rw [← hLL]; simp)
            have y4 := h.box (q4, ⟨o0, o1⟩) (by rw [← hLL]; simp)
            exact ⟨y1.c0, y1.c1, y2.c0, y2.c1, y3.c0, y3.c1, y4.c0, y4.c1, h⟩
          clear hLL
          have e1 : ((s0 : Int) == (s0 : Int)) = true := by simp
          have e2 : ((s1 : Int) == (s1 : Int)) = true := by simp
          go_region_held3 (fun w' => w'.cell? ⟨q1, 0, none⟩ = some (.int .u64 f0) ∧ w'.cell? ⟨q1, 1, none⟩ = some (.int .u64 f1) ∧ w'.cell? ⟨q2, 0, none⟩ = some (.int .u64 s0) ∧ w'.cell? ⟨q2, 1, none⟩ = some (.int .u64 s1) ∧ w'.cell? ⟨q3, 0, none⟩ = some (.int .u64 t0) ∧ w'.cell? ⟨q3, 1, none⟩ = some (.int .u64 t1) ∧ w'.cell? ⟨q4, 0, none⟩ = some (.int .u64 o0) ∧ w'.cell? ⟨q4, 1, none⟩ = some (.int .u64 o1) ∧ Many w LL w')
            (first | exact HC.out _ hD)
            (first | (go_at_call 24; refine (F24 _ _ hD).mono ?_; rintro e z1 ⟨rfl, hD⟩) | (go_at_call_of 26 f0; refine (F26 _ _ hD).mono ?_; rintro e z1 ⟨rfl, hD⟩) | (go_at_call_of 26 o0; refine (F26' _ _ hD).mono ?_; rintro e z1 ⟨rfl, hD⟩) | (go_at_call 18; refine (F18 _ _ hD).mono ?_; rintro e z1 ⟨rfl, hD⟩))
          go_wp2
          go_ret
          exact ⟨rfl, hD.K⟩
end Go.Proofs.YtbbllmhnhhbpiaaDoor
