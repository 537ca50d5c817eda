/- One step of a script that fills a row from a list: it answers true, and both sides stay alike. -/
import Derived.Test.YtebhjfoggogmaaaDoesB
import Derived.Laws.AppendOwnNone
namespace Go.Proofs.Ytebhjfoggogmaaa
open Go.RowKit
set_option linter.unusedVariables false
set_option linter.unusedSimpArgs false
attribute [local go_sem ↓] Go.wp_at_zero Go.wp_at_succ

theorem list_ints {w : World} {la : Option Addr} {ll lc : Nat} {zs : List Int} (h : ListAt w la ll lc zs) : IntsIn w la ll zs ∧ ll = zs.length ∧ ll * 8 ≤ 140737488351232 := by
  rcases h with ⟨rfl, rfl, rfl, rfl⟩ | ⟨a, rfl, h1, h2, h3, h4⟩
  · exact ⟨⟨rfl, fun h => by omega⟩, rfl, by omega⟩
  · refine ⟨⟨h1, fun h0 => ?_⟩, h1, by omega⟩
    obtain ⟨g, o, spot⟩ := a
    have hs := World.cell?_spot (h4 0 h0)
    have : spot = none := by simpa [Addr.add] using hs
    subst this
    refine ⟨g, o, rfl, fun j hj => ?_⟩
    have := h4 j hj
    have ea : (⟨g, o, none⟩ : Addr).add j = ⟨g, o + j, none⟩ := by unfold Addr.add; split <;> simp_all
    rwa [ea] at this

theorem grownBy_refl (w : World) (row : Option Nat) : w.grownBy w row := ⟨rfl, rfl, rfl, Nat.le_refl _, fun _ _ _ => rfl⟩

/-- An append of a list that came in, nil or not, onto a slice of the call's own. -/
theorem wpList_append_list {P : Program} (w : World) {ops : Array Oper} {rest : List Oper} {o : Oper} {a : Act} {Q : Exit → Act → World → Prop} (hgd : o.guard = none) (s x : Operand) (t : TypeId)
    (ho : o.op = .call { callee := .builtin .append, args := #[s, x], argTypes := #[t, t] })
    (base : Nat) (i : TypeInfo) (z : Value) (ht : P.underlying t = some (.slice 2)) (hi : P.info? 2 = some i) (hz : i.zero = some z)
    (hsize : i.size = 1) (hby : i.bytes = 8) (hzs : z.cells.size = 1)
    (v : Value) (n : Nat) (xs : List Value) (hs : a.eval s = v) (hown : w.ownsRow base 2 1 v n xs)
    (la : Option Addr) (m c : Nat) (zs : List Int) (hx : a.eval x = .slice la m c) (hl : ListAt w la m c zs)
    (hsm : n + m ≤ 17592186044416) (hbase : base ≤ w.heap.size)
    (h : ∀ v' w', w'.ownsRow base 2 1 v' (n + m) (xs ++ zs.map (Value.int .i64)) → w.grownBy w' v.ownBlock → wpList P ops Q rest (a.put o.dst v') w') :
    wpList P ops Q (o :: rest) a w := by
  rcases hl with ⟨rfl, rfl, rfl, rfl⟩ | ⟨ad, rfl, h1, h2, h3, h4⟩
  · exact wpList_append_own_none hgd s x t ho base 2 i 1 ht hi v n xs hs hown hx (h v w (by simpa using hown) (grownBy_refl _ _))
  · refine wpList_append_own_at w hgd s x t ho base 2 i z 1 8 ht hi hz hsize hby hzs (by omega) v n xs hs hown ad m c (zs.map (Value.int .i64)) hx (by simp; omega) ?_ (ints_one zs) (by unfold maxLen; omega) (by omega) hbase (fun v' w' a1 a2 _ _ => h v' w' a1 a2)
    intro j u hu
    have hj : j < m := by
      have := (List.getElem?_eq_some_iff.1 hu).1
      simp at this; omega
    rw [h4 j hj]
    simp [show j < zs.length by omega] at hu
    simp [show j < zs.length by omega, hu]

theorem full_kept {W w1 w2 : World} {H ll : Nat} {o : Obj} {v1 : Value} {xs : List Value} (hs0 : W.heap.size = H) (hg1 : (W.alloc (.cells #[] 2)).grownBy w1 (some H)) (ho1 : w1.ownsRow H 2 1 v1 ll xs) (hg2 : (w1.alloc o).grownBy w2 v1.ownBlock) : Kept (fun k => H ≤ k) W w2 :=
  (((((Kept.refl _ W).alloc _).grown hg1 (fun k e => by cases e; exact .inl (Nat.le_refl _))).alloc o).grown hg2 (fun k e => .inl (ho1.lt k e).1))

theorem owned_cap {w : World} {base g n cap : Nat} {e : TypeId} {size : Nat} {xs : List Value} (h : w.ownsRow base e size (.slice (some ⟨g, 0, none⟩) n cap) n xs) : n ≤ cap ∧ base ≤ g ∧ g < w.heap.size := by
  rcases h.2 with ⟨h1, _⟩ | ⟨g', c', cur, h1, hb, hg, hc, _⟩
  · cases h1
  · simp only [Value.slice.injEq, Option.some.injEq, Addr.mk.injEq, and_true, true_and] at h1
    obtain ⟨rfl, rfl⟩ := h1
    exact ⟨hc, hb, lt_of_heap hg⟩
theorem ownsRow_kept {w w' : World} {base n : Nat} {v : Value} {e : TypeId} {size : Nat} {xs : List Value} {F : Nat → Prop} (h : w.ownsRow base e size v n xs) (k : Kept F w w') (hf : ∀ g, base ≤ g → ¬ F g) : w'.ownsRow base e size v n xs := by
  refine ⟨h.1, ?_⟩
  rcases h.2 with hc | ⟨g, cap, cur, rfl, hg, hh, r⟩
  · exact .inl hc
  · exact .inr ⟨g, cap, cur, rfl, hg, (k.block g (lt_of_heap hh) (hf g hg)).trans hh, r⟩
theorem IntsIn.kept {w w' : World} {la : Option Addr} {n : Nat} {zs : List Int} {F : Nat → Prop} (h : IntsIn w la n zs) (k : Kept F w w') (hf : ∀ a, la = some a → 0 < n → ¬ F a.block) : IntsIn w' la n zs := by
  refine ⟨h.1, fun h0 => ?_⟩
  obtain ⟨g, o, rfl, hc⟩ := h.2 h0
  exact ⟨g, o, rfl, fun j hj => (World.cell?_of_block (k.block g (World.block_lt_of_cell? _ _ (hc j hj)) (hf _ rfl h0))).trans (hc j hj)⟩

/-- Both rows are filled, and what follows turns new blocks alone. -/
theorem filled {b : Nat} {w W w2 w3 w4 : World} {m r c x y d : Nat} {kind : Int} {s : Mt} {v v2 : Value} {xs zs : List Int} {n : Nat} (h : Pair b w m r c x y d kind s v v2 xs) (hw : s.within n) (k0 : Kept (fun _ => False) w W) (hs0 : W.heap.size = w.heap.size + 1)
    (k2 : Kept (fun k => w.heap.size + 1 ≤ k) W w2) (hr3 : RowIn 81 b w3 r c m kind (fillRow xs zs)) (k3 : Kept (fun k => k = c) w2 w3) (hr4 : RowIn 48 b w4 y d x kind (fillRow xs zs)) (k4 : Kept (fun k => k = d) w3 w4) :
    ∀ w', Kept (fun k => w.heap.size + 1 ≤ k) w4 w' → Did b w w' m r c x y d kind n v v2 xs := by
  intro w' k5
  have k2f : Kept (fun _ => False) W w2 := k2.mono (fun i hi f => by omega)
  have p2 := (h.calm k0).calm k2f
  have hm3 : MeterS 79 50 b w3 m s v := p2.m1.kept k3 (fun f => p2.r1.cm f.symm) (fun g hg f => p2.m1.apart (f ▸ p2.r1.cb) hg)
  have hm3' : MeterS 34 50 b w3 x s v2 := p2.m2.kept k3 (fun f => p2.cx f.symm) (fun g hg f => p2.m2.apart (f ▸ p2.r1.cb) hg)
  have hm4 : MeterS 34 50 b w4 x s v2 := hm3'.kept k4 (fun f => p2.r2.cm f.symm) (fun g hg f => hm3'.apart (f ▸ p2.r2.cb) hg)
  obtain ⟨p4, _, _, k24⟩ := p2.both hm3 hr3 (Fresh.refl _ _) (k3.mono (fun _ _ f => .inr (.inr f))) hm4 hr4 (Fresh.refl _ _) (k4.mono (fun _ _ f => .inr (.inr f)))
  have hh := h.m1.high
  have e1 := h.m1.low
  have e2 := h.m2.low
  have e3 := h.r1.rb
  have e4 := h.r1.cb
  have e5 := h.r2.rb
  have e6 := h.r2.cb
  have p5 := p4.kept k5 (by omega) (by omega) (by omega) (by omega) (by omega) (by omega) (fun g hg f => by have := (h.m1.own.lt g hg).2; omega) (fun g hg f => by have := (h.m2.own.lt g hg).2; omega)
  refine ⟨s, v, v2, fillRow xs zs, p5, hw.more (Nat.le_succ _), fillRow_length _ _, Fresh.refl _ _, Fresh.refl _ _, ?_⟩
  exact (((k0.mono (fun _ _ f => f.elim)).trans k2f (fun _ _ f => f.elim)).trans k24 (fun _ _ f => f)).trans k5 (fun i hi f => by omega)

set_option maxRecDepth 100000 in
set_option maxHeartbeats 2000000 in
theorem does_fill {b : Nat} {w : World} {m r c x y d : Nat} {kind : Int} {s : Mt} {v v2 : Value} {xs : List Int} {n : Nat} (other : Bool) (i xv old : Int) (la : Option Addr) (ll lc : Nat) (zs : List Int) (h : Pair b w m r c x y d kind s v v2 xs) (hw : s.within n)
    (hL : ListAt w la ll lc zs) (hap : ∀ a, la = some a → 0 < ll → a.block ≠ c ∧ a.block ≠ d) :
    Calls Try.prog 14 #[.pointer (some ⟨m, 0, none⟩), .pointer (some ⟨x, 0, none⟩), .pointer (some ⟨r, 0, none⟩), .pointer (some ⟨y, 0, none⟩), .agg #[.bool other, .int .i64 5, .int .i64 i, .int .i64 xv, .int .i64 old, .slice la ll lc]] w fun e w' => e = .returned (.bool true) ∧ Did b w w' m r c x y d kind n v v2 xs := by
  obtain ⟨i0, hi0, hz0, hz1, hz2⟩ := info_parts Try.info2
  have hk0 := boxed w (.cells #[.bool other, .int .i64 5, .int .i64 i, .int .i64 xv, .int .i64 old, .slice la ll lc] 39)
  have h0 := h.calm hk0
  have hL0 := hL.below (hk0.below (Nat.le_refl _) (fun _ _ f => f)) (Nat.le_refl _)
  have hL1 := hL0.below (((Kept.refl (fun _ => False) _).alloc (.cells #[] 2)).below (Nat.le_refl _) (fun _ _ f => f)) (Nat.le_refl _)
  have hB := heap_alloc_new w (.cells #[.bool other, .int .i64 5, .int .i64 i, .int .i64 xv, .int .i64 old, .slice la ll lc] 39)
  obtain ⟨hI0, hll, hlb⟩ := list_ints hL0
  have HLL : Hid (ll = zs.length) := hll
  clear hll
  have hs0 : (w.alloc (.cells #[.bool other, .int .i64 5, .int .i64 i, .int .i64 xv, .int .i64 old, .slice la ll lc] 39)).heap.size = w.heap.size + 1 := by simp
  have hown0 := World.ownsRow_made (base := w.heap.size + 1) (e := 2) (size := 1) (w.alloc (.cells #[.bool other, .int .i64 5, .int .i64 i, .int .i64 xv, .int .i64 old, .slice la ll lc] 39)) #[] 0 (by simp) (Nat.zero_le _) rfl
  rw [hs0] at hown0
  have hsm : ll ≤ 17592186044415 := by omega
  have HK2 : Hid (∀ (w1 w2 : World) (o : Obj) (v1 : Value), (((w.alloc (.cells #[.bool other, .int .i64 5, .int .i64 i, .int .i64 xv, .int .i64 old, .slice la ll lc] 39)).alloc (.cells #[] 2)).grownBy w1 (some (w.heap.size + 1))) → w1.ownsRow (w.heap.size + 1) 2 1 v1 ll (zs.map (Value.int .i64)) → (w1.alloc o).grownBy w2 v1.ownBlock → Kept (fun k => w.heap.size + 1 ≤ k) (w.alloc (.cells #[.bool other, .int .i64 5, .int .i64 i, .int .i64 xv, .int .i64 old, .slice la ll lc] 39)) w2) := fun w1 w2 o v1 a1 a2 a3 => full_kept hs0 a1 a2 a3
  clear hs0
  go_enter Try.func14, Try.ntmps14
  go_wp2_with (first | (at_builtin; refine wpList_append_list _ rfl (.tmp 123) (.tmp 125) 37 rfl (w.heap.size + 1) i0 _ Try.underlying37 hi0 hz0 hz1 hz2 rfl (.slice (some ⟨w.heap.size + 1, 0, none⟩) 0 0) 0 [] rfl hown0 la ll lc zs rfl hL1 (by omega) (by simp) ?_; intro v1 w1 ho1 hg1; simp only [Nat.zero_add, List.nil_append] at ho1; have hs1 : w.heap.size + 1 ≤ w1.heap.size := (by have := hg1.size; simp at this; omega)) | (at_builtin; refine wpList_append_lies _ rfl (.tmp 126) (.tmp 127) 37 rfl (w.heap.size + 1) 2 i0 _ 1 8 Try.underlying37 hi0 hz0 hz1 hz2 rfl (by omega) v1 ll (zs.map (Value.int .i64)) rfl (ho1.alloc _) ⟨w1.heap.size, 0, none⟩ 2 2 [.int .i64 77, .int .i64 78] rfl rfl (World.news_of_block (cs := #[.int .i64 77, .int .i64 78]) (t := 2) (fr := (0, 0)) (heap_alloc_new w1 _)) (by simp [Value.oneCell']) (by omega) (by unfold maxLen; omega) (by omega) (by simp; omega) (w1.heap.size + 1) (by simp) ?_; intro g cap w2 ho2 hg2 ha2 hl2; have k2 := HK2.out w1 w2 _ v1 hg1 ho1 hg2; have hB2 := (k2.block w.heap.size (lt_of_heap hB) (by omega)).trans hB; have cb2 : w2.cell? ⟨w.heap.size, 5, none⟩ = some (.slice la ll lc) := cell_of_heap hB2; have hcap := (owned_cap ho2).1; have hc1 : (ll : Int) ≤ (cap : Int) := (by omega)))
  have hbg := owned_cap ho2
  have HI2 : Hid (IntsIn w2 (some ⟨g, 0, none⟩) ll zs) := by
    have ho2' : w2.ownsRow (w.heap.size + 1) 2 1 (.slice (some ⟨g, 0, none⟩) (ll + 2) cap) (ll + 2) ((zs ++ [77, 78]).map (Value.int .i64)) := by simpa using ho2
    refine ⟨HLL.out, fun h0 => ⟨g, 0, rfl, fun j hj => ?_⟩⟩
    rw [Nat.zero_add, owned_cell ho2' (by omega)]
    have := HLL.out
    simp [List.getElem?_append_left (show j < zs.length by omega)]
  have p2 := h0.calm (k2.mono (G := fun _ => False) (fun i hi f => by simp at hi; omega))
  have hhigh := h.m1.high
  have hcb := h.r1.cb
  have hdb := h.r2.cb
  have hs0 : (w.alloc (.cells #[.bool other, .int .i64 5, .int .i64 i, .int .i64 xv, .int .i64 old, .slice la ll lc] 39)).heap.size = w.heap.size + 1 := by simp
  refine (fill_met w2 p2.r1 HI2.out (by omega)).mono ?_
  rintro e w3 ⟨rfl, hr3, k3⟩
  have hB3 := (k3.block w.heap.size (lt_of_heap hB2) (by omega)).trans hB2
  have cb3 : w3.cell? ⟨w.heap.size, 5, none⟩ = some (.slice la ll lc) := cell_of_heap hB3
  have ho3 := ownsRow_kept ho2 k3 (fun g hg f => by omega)
  have hr3' := p2.r2.kept k3 (fun f => p2.cy f.symm) (fun f => p2.cd f.symm)
  have hI2 : IntsIn w2 la ll zs := hI0.kept k2 (fun a ha h0 => by
    have hb : a.block < w.heap.size := by
      obtain ⟨g', o', hgo, hc⟩ := (list_ints hL).1.2 h0
      rw [hgo] at ha; cases ha
      exact World.block_lt_of_cell? w _ (hc 0 h0)
    omega)
  have hI3 : IntsIn w3 la ll zs := hI2.kept k3 (fun a ha h0 => (hap a ha h0).1)
  have HF : Hid (∀ w4, RowIn 48 b w4 y d x kind (fillRow xs zs) → Kept (fun k => k = d) w3 w4 → ∀ w', Kept (fun k => w.heap.size + 1 ≤ k) w4 w' → Did b w w' m r c x y d kind n v v2 xs) := fun w4 a1 a2 => filled h hw hk0 hs0 k2 hr3 k3 a1 a2
  clear hs0
  go_wp2_with fail
  refine (refFill_met w3 hr3' hI3 (by omega) (fun a ha h0 => (hap a ha h0).2)).mono ?_
  rintro e w4 ⟨rfl, hr4, k4⟩
  have hB4 := (k4.block w.heap.size (lt_of_heap hB3) (by omega)).trans hB3
  have cb4 : w4.cell? ⟨w.heap.size, 5, none⟩ = some (.slice la ll lc) := cell_of_heap hB4
  have ho4 := ownsRow_kept ho3 k4 (fun g hg f => by omega)
  have hI4 : IntsIn w4 la ll zs := hI3.kept k4 (fun a ha h0 => (hap a ha h0).2)
  have HD : Hid (∀ w', Kept (fun k => w.heap.size + 1 ≤ k) w4 w' → Did b w w' m r c x y d kind n v v2 xs) := HF.out w4 hr4 k4
  have ho4' : w4.ownsRow (w.heap.size + 1) 2 1 (.slice (some ⟨g, 0, none⟩) (ll + 2) cap) (ll + 2) ((zs ++ [77, 78]).map (Value.int .i64)) := by simpa using ho4
  have cg0 : w4.cell? ⟨g, ll, none⟩ = some (.int .i64 77) := by
    rw [owned_cell ho4' (by omega)]
    simp [HLL.out]
  have cg1 : w4.cell? ⟨g, ll + 1, none⟩ = some (.int .i64 78) := by
    rw [owned_cell ho4' (by omega)]
    simp [HLL.out]
  have hI4g : IntsIn w4 (some ⟨g, 0, none⟩) ll zs := by
    refine ⟨HLL.out, fun h0 => ⟨g, 0, rfl, fun j hj => ?_⟩⟩
    rw [Nat.zero_add, owned_cell ho4' (by omega)]
    have := HLL.out
    simp [List.getElem?_append_left (show j < zs.length by omega)]
  have hsame : ∀ q, Calls Try.prog 19 #[.slice (some ⟨g, 0, none⟩) ll cap, .slice la ll lc] (w4.drewN q) fun e w' => e = .returned (.bool true) ∧ ∃ k, w' = (w4.drewN q).drewN k := fun q => sameRow_true _ _ ll cap lc zs _ hI4g hI4 (by omega)
  generalize fillErr xs zs = fe
  have hfe : (fe == fe) = true := by simp
  have HO4 := ho4'
  clear ho2 ho3 ho4 ho4' hI0 hI2 hI3 hI4 hI4g hr3 hr3' hr4 p2 h0 h hL hL0 hL1 hB hB2 hB3 hB4 cb2 cb3 k2 k3 hg1 hg2 ho1 hown0 hk0 HI2 HF HK2
  go_wp2_with fail
  have hl0 : (0 : Int) ≤ (ll : Int) := Int.natCast_nonneg _
  have hl1 : (ll : Int) < (ll : Int) + 2 := by omega
  have hl3 : (ll : Int) + 1 < (ll : Int) + 2 := by omega
  go_quiet (first | (go_at_call 19; exact Calls.quiet_of (hsame _)))
  clear hsame cg0 cg1
  go_wp2_with fail
  go_loopw [26] (fun iv wr => ∃ (j : Nat) (ys : List Int), iv = .int .i64 j ∧ j ≤ ll + 2 ∧ wr.ownsRow (w.heap.size + 1) 2 1 (.slice (some ⟨g, 0, none⟩) (ll + 2) cap) (ll + 2) (ys.map (Value.int .i64)) ∧ Kept (fun k => w.heap.size + 1 ≤ k) w4 wr) (fun iv _ => ll + 2 - (intOf iv).toNat)
  case atStart => exact ⟨0, zs ++ [77, 78], rfl, Nat.zero_le _, ownsRow_drewN HO4 _, (Kept.refl _ w4).drewN _⟩
  case round =>
    obtain ⟨j, ys, rfl, hj, hor, hkr⟩ := hrel
    by_cases hlt : j < ll + 2
    · have cj := owned_cell hor hlt
      have fj : wr.frozen? ⟨g, j, none⟩ = false := hor.frozenAt j
      generalize ys.getD j 0 = z at cj
      have hi0' : (0 : Int) ≤ (j : Int) := Int.natCast_nonneg _
      have hi1' : (j : Int) < (ll : Int) + 2 := by omega
      have HO : Hid (∀ X, (wr.setCell ⟨g, j, none⟩ (.int .i64 X)).ownsRow (w.heap.size + 1) 2 1 (.slice (some ⟨g, 0, none⟩) (ll + 2) cap) (ll + 2) ((ys.set j X).map (Value.int .i64)) ∧ Kept (fun k => w.heap.size + 1 ≤ k) w4 (wr.setCell ⟨g, j, none⟩ (.int .i64 X))) := fun X => ⟨owned_set hor j X, hkr.setCell _ (.inl hbg.2.1)⟩
      clear hor hkr HO4
      go_wp2
      go_roundw
      case rel => exact ⟨j + 1, _, by go_num, by omega, (HO.out _).1, (HO.out _).2⟩
      case measure => simp [intOf]; omega
    · clear HO4
      go_wp2
      go_ret
      exact ⟨rfl, HD.out _ hkr⟩
end Go.Proofs.Ytebhjfoggogmaaa
