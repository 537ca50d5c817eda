/- Stacks of int64. -/
import Derived.Test.YthbcbjkgjgmegaaGreatSame
import Derived.Test.YthbcbjkgjgmegaaGreatChecked
import Derived.Test.YthbcbjkgjgmegaaGreatSmall
import Derived.Test.YthbcbjkgjgmegaaGreatClr
import Derived.Test.YthbcbjkgjgmegaaGreatClX
import Derived.WalkSmall
import Derived.Deep.RegionHeld3
import Derived.Deep.DrawnRows
import Derived.Deep.QuietTactic
import Derived.BigQuiet
import Derived.BigFrame
import Derived.Lib.SliceRun
import Derived.Laws.CopyRow
import Derived.Laws.AppendOwnNone
import Derived.Maps.AppendAt
import Derived.BigRegion
namespace Go.Proofs.YthbcbjkgjgmegaaGreat
open Go.RowKit
set_option linter.unusedVariables false
set_option linter.unusedSimpArgs false
theorem own_keptS {w w' : World} {B n : Nat} {v : Value} {e : TypeId} {z : Nat} {xs : List Value} {F : Nat → Prop} (h : w.ownsRow B e z v n xs) (k : Kept F w w') (hf : ∀ g, v.ownBlock = some g → ¬ F g) : w'.ownsRow B e z v n xs := by
  refine ⟨h.1, ?_⟩
  rcases h.2 with hc | ⟨g, cap, cur, rfl, hg, hh, r⟩
  · exact .inl hc
  · exact .inr ⟨g, cap, cur, rfl, hg, (k.block g (lt_of_heap hh) (hf g rfl)).trans hh, r⟩
theorem own_farS {w : World} {B : Nat} {e : TypeId} {z : Nat} {v : Value} {n : Nat} {xs : List Value} (h : w.ownsRow B e z v n xs) {a : Addr} (ha : v.ownBlock ≠ some a.block) (u : Value) : (w.setCell a u).ownsRow B e z v n xs :=
  own_keptS h ((Kept.refl (fun k => k = a.block) w).setCell u (.inl rfl)) (fun g hg f => ha (f ▸ hg))
theorem wrap_small {x : Int} (h0 : -1000 ≤ x) (h1 : x ≤ 1000) : IntKind.i64.wrap x = x := by
  rw [IntKind.wrap_i64]
  omega
/-- The thing at a place of a row. -/
theorem own_at {w : World} {B g n cap : Nat} {e : TypeId} {xs : List Value} (h : w.ownsRow B e 1 (.slice (some ⟨g, 0, none⟩) n cap) n xs) {j : Nat} (hj : j < n) : w.cell? ⟨g, j, none⟩ = some (xs.getD j undef) := by
  have hl := h.1
  rw [h.cellAt j (by omega), List.getD_eq_getElem?_getD, List.getElem?_eq_getElem (by omega)]
  rfl
structure StackAt (t e : TypeId) (z B : Nat) (w : World) (p : Nat) (most : Int) (v : Value) (n : Nat) (xs : List Value) : Prop where
  heap : w.heap[p]? = some (.cells #[.int .i64 most, v] t (0, 0))
  own : w.ownsRow B e z v n xs
  low : B ≤ p
  ne : v.ownBlock ≠ some p
  fits : (n : Int) ≤ most
  most : most ≤ 256

/-- The blocks of a stack. -/
def FootS (p : Nat) (v : Value) (k : Nat) : Prop := k = p ∨ v.ownBlock = some k
/-- The row's block stays, or is a new one. -/
def FreshS (w : World) (v v' : Value) : Prop := ∀ g, v'.ownBlock = some g → v.ownBlock = some g ∨ w.heap.size ≤ g
theorem FreshS.refl (w : World) (v : Value) : FreshS w v v := fun _ h => .inl h
theorem FootS.fresh {w : World} {p k : Nat} {v v' : Value} (hf : FreshS w v v') (h : FootS p v' k) : FootS p v k ∨ w.heap.size ≤ k := by
  rcases h with h | h
  · exact .inl (.inl h)
  · rcases hf k h with h | h
    · exact .inl (.inr h)
    · exact .inr h

section
variable {t e : TypeId} {z B : Nat} {w w' : World} {p : Nat} {most : Int} {v : Value} {n : Nat} {xs : List Value}
theorem StackAt.kept {F : Nat → Prop} (h : StackAt t e z B w p most v n xs) (k : Kept F w w') (hf : ∀ i, FootS p v i → ¬ F i) : StackAt t e z B w' p most v n xs :=
  ⟨(k.block p (lt_of_heap h.heap) (hf p (.inl rfl))).trans h.heap, own_keptS h.own k (fun g hg => hf g (.inr hg)), h.low, h.ne, h.fits, h.most⟩
theorem StackAt.calm (h : StackAt t e z B w p most v n xs) (k : Kept (fun _ => False) w w') : StackAt t e z B w' p most v n xs := h.kept k (fun _ _ f => f)
theorem StackAt.drew (h : StackAt t e z B w p most v n xs) : StackAt t e z B w.drew p most v n xs := h.calm (Kept.refl _ w).drew
theorem StackAt.foot (h : StackAt t e z B w p most v n xs) {k : Nat} (f : FootS p v k) : B ≤ k ∧ k < w.heap.size := by
  rcases f with rfl | f
  · exact ⟨h.low, lt_of_heap h.heap⟩
  · exact h.own.lt k f
theorem StackAt.small (h : StackAt t e z B w p most v n xs) : n ≤ 256 := by
  have := h.fits
  have := h.most
  omega
theorem StackAt.shape (h : StackAt t e z B w p most v n xs) : ∃ ga ca, v = .slice ga n ca := by
  rcases own_forms h.own with ⟨rfl, rfl, _⟩ | ⟨g, cap, rfl, _⟩
  · exact ⟨_, _, rfl⟩
  · exact ⟨_, _, rfl⟩
theorem StackAt.c0 (h : StackAt t e z B w p most v n xs) : w.cell? ⟨p, 0, none⟩ = some (.int .i64 most) := cell_of_heap h.heap
theorem StackAt.c1 (h : StackAt t e z B w p most v n xs) : w.cell? ⟨p, 1, none⟩ = some v := cell_of_heap h.heap
theorem StackAt.f1 (h : StackAt t e z B w p most v n xs) : w.frozen? ⟨p, 1, none⟩ = false := frozen_of_heap h.heap
theorem StackAt.mono (h : StackAt t e z B w p most v n xs) {B' : Nat} (hb : B' ≤ B) : StackAt t e z B' w p most v n xs :=
  ⟨h.heap, own_mono h.own hb, Nat.le_trans hb h.low, h.ne, h.fits, h.most⟩
/-- Another row is laid into the stack's block. -/
theorem StackAt.put {v' : Value} {n' : Nat} {xs' : List Value} (h : w.heap[p]? = some (.cells #[.int .i64 most, v] t (0, 0))) (ho : w.ownsRow B e z v' n' xs') (hl : B ≤ p) (hne : v'.ownBlock ≠ some p) (hf : (n' : Int) ≤ most) (hm : most ≤ 256) :
    StackAt t e z B (w.setCell ⟨p, 1, none⟩ v') p most v' n' xs' :=
  ⟨by rw [heap_setCell_at h]; rfl, own_farS ho hne v', hl, hne, hf, hm⟩
end

/-- A stack was turned: its new row, the rest as before. -/
def TurnedS (t e : TypeId) (z B : Nat) (w w' : World) (p : Nat) (most : Int) (v : Value) (n : Nat) (xs : List Value) : Prop :=
  ∃ v', StackAt t e z B w' p most v' n xs ∧ Kept (FootS p v) w w' ∧ FreshS w v v'
theorem TurnedS.same {t e : TypeId} {z B : Nat} {w w' : World} {p : Nat} {most : Int} {v : Value} {n : Nat} {xs : List Value} (h : StackAt t e z B w p most v n xs) (k : Kept (fun _ => False) w w') : TurnedS t e z B w w' p most v n xs :=
  ⟨v, h.calm k, k.calm, FreshS.refl _ _⟩

/-- A new stack. -/
theorem madeS {t e : TypeId} {z : Nat} (w : World) (most : Int) (h0 : 0 ≤ most) (hm : most ≤ 256) : StackAt t e z w.heap.size (w.alloc (.cells #[.int .i64 most, .slice none 0 0] t)) w.heap.size most (.slice none 0 0) 0 [] :=
  ⟨heap_alloc_new w _, World.ownsRow_nil _ _ _ _, Nat.le_refl _, by simp [Value.ownBlock], by omega, hm⟩

theorem grown_heap {w1 w2 : World} {o ob : Obj} {row : Option Nat} {p : Nat} (hp : w1.heap[p]? = some ob) (hg : (w1.alloc o).grownBy w2 row) (hne : row ≠ some p) : w2.heap[p]? = some ob := by
  rw [hg.block p (by have := lt_of_heap hp; simp; omega) (fun e => hne e.symm), Below.heap_alloc w1 o p (lt_of_heap hp)]
  exact hp

/-- The end of a push: behind the append the row is stored into the stack. -/
theorem push_end {t e : TypeId} {z B : Nat} {w w0 w2 : World} {p g cap n : Nat} {most : Int} {v : Value} {xs ys : List Value} (h : StackAt t e z B w p most v n xs) (hB : B ≤ w.heap.size) (k0 : Kept (fun _ => False) w w0)
    (ho : w2.ownsRow B e z (.slice (some ⟨g, 0, none⟩) (n + 1) cap) (n + 1) ys) (hg : w0.grownBy w2 v.ownBlock) (ha : v.ownBlock = some g ∨ w.heap.size ≤ g) (hr : (n : Int) < most) :
    TurnedS t e z B w (w2.setCell ⟨p, 1, none⟩ (.slice (some ⟨g, 0, none⟩) (n + 1) cap)) p most v (n + 1) ys := by
  have hp := lt_of_heap h.heap
  have hgp : (Value.slice (some ⟨g, 0, none⟩) (n + 1) cap).ownBlock ≠ some p := by
    rcases ha with ha | ha
    · intro e; exact h.ne (ha.trans (by simpa [Value.ownBlock] using e))
    · simp [Value.ownBlock]; omega
  have hk : Kept (FootS p v) w w2 := Kept.grown k0.calm hg (fun k e => .inl (.inr e))
  have hh : w2.heap[p]? = some (.cells #[.int .i64 most, v] t (0, 0)) := by
    rw [hg.block p (Nat.lt_of_lt_of_le hp k0.size) (fun e => h.ne e.symm), k0.block p hp (fun f => f)]
    exact h.heap
  refine ⟨_, StackAt.put hh ho h.low hgp (by omega) h.most, hk.setCell _ (.inl (.inl rfl)), ?_⟩
  intro k hk
  simp [Value.ownBlock] at hk
  subst hk
  exact ha
/-- The end of a drop. -/
theorem drop_end {t e : TypeId} {z B : Nat} {w w2 : World} {p n : Nat} {most : Int} {v v' : Value} {xs : List Value} (h : StackAt t e z B w p most v n xs) (hk : Kept (FootS p v) w w2) (hh : w2.heap[p]? = w.heap[p]?) {m : Nat} (hm : m ≤ n)
    (ho : w2.ownsRow B e z v' m (xs.take (m * z))) (hv : v'.ownBlock = v.ownBlock) :
    TurnedS t e z B w (w2.setCell ⟨p, 1, none⟩ v') p most v m (xs.take (m * z)) :=
  ⟨v', StackAt.put (hh.trans h.heap) ho h.low (hv ▸ h.ne) (by have := h.fits; omega) h.most, hk.setCell _ (.inl (.inl rfl)), fun g hg => .inl (hv ▸ hg)⟩


set_option maxRecDepth 100000 in
theorem newI_yes (most : Int) (w : World) (h1 : 1 ≤ most) (h2 : most ≤ 256) :
    Calls Tryz.prog 39 #[.int .i64 most] w fun e w' => e = .returned (.tuple #[.pointer (some ⟨w.heap.size, 0, none⟩), .int .i64 0]) ∧ StackAt 209 2 1 w.heap.size w' w.heap.size most (.slice none 0 0) 0 [] ∧ Kept (fun _ => False) w w' := by
  have hm := madeS (t := 209) (e := 2) (z := 1) w most (by omega) h2
  have hk := (Kept.refl (fun _ => False) w).alloc (.cells #[.int .i64 most, .slice none 0 0] 209)
  go_enter Tryz.func39, Tryz.ntmps39
  go_wp2
  go_ret2
  exact ⟨rfl, hm, hk⟩

section
variable {B : Nat} {w : World} {p : Nat} {most : Int} {v : Value} {n : Nat} {xs : List Value}
set_option maxRecDepth 100000 in
theorem lenI_any (h : StackAt 209 2 1 B w p most v n xs) :
    Calls Tryz.prog 111 #[.pointer (some ⟨p, 0, none⟩)] w fun e w' => e = .returned (.int .i64 n) ∧ w' = w := by
  obtain ⟨ga, ca, rfl⟩ := h.shape
  have c1 := h.c1
  clear h
  go_enter Tryz.func111, Tryz.ntmps111
  go_wp2
  go_ret
  exact ⟨rfl, rfl⟩
set_option maxRecDepth 100000 in
theorem roomI_any (h : StackAt 209 2 1 B w p most v n xs) :
    Calls Tryz.prog 213 #[.pointer (some ⟨p, 0, none⟩)] w fun e w' => e = .returned (.int .i64 (most - n)) ∧ ∃ k, w' = w.drewN k := by
  have c0 := h.c0
  have hL : ∀ k, Calls Tryz.prog 111 #[.pointer (some ⟨p, 0, none⟩)] (w.drewN k) fun e w' => e = .returned (.int .i64 n) ∧ w' = w.drewN k := fun k => lenI_any (h.calm ((Kept.refl _ w).drewN k))
  have b1 := h.fits
  have b2 := h.most
  have b3 : (0 : Int) ≤ n := Int.natCast_nonneg _
  clear h
  go_enter Tryz.func213, Tryz.ntmps213
  go_wp2_with fail
  go_quiet (first | (go_at_call 111; exact Calls.quiet_of_same (hL _)))
  go_wp2
  go_ret
  exact ⟨rfl, _, rfl⟩

theorem zeroI (w : World) : (zeroValue 2).run Tryz.prog w = .ok (.int .i64 0) w := by kernel_rfl
set_option maxRecDepth 100000 in
set_option maxHeartbeats 1000000 in
theorem dropI_any (m : Nat) (hm : m ≤ n) (h : StackAt 209 2 1 B w p most v n xs) (k : Int) (hk : k = n - m) :
    Calls Tryz.prog 242 #[.pointer (some ⟨p, 0, none⟩), .int .i64 k] w fun e w' => e = .returned (.tuple #[]) ∧ TurnedS 209 2 1 B w w' p most v m (xs.take (m * 1)) := by
  have c1 := h.c1
  have f1 := h.f1
  have hL := lenI_any h
  have hs := h.small
  rcases own_forms h.own with ⟨rfl, rfl, rfl⟩ | ⟨g, cap, rfl, hbg, hgl, hcap⟩
  · obtain rfl : m = 0 := by omega
    obtain rfl : k = 0 := by simpa using hk
    have hcl := fun a c ty => wipe_none (P := Tryz.prog) w 37 2 Tryz.underlying37 a c ty
    have E := drop_end h (Kept.refl (FootS p (.slice none 0 0)) w) rfl (Nat.le_refl 0) (by simpa using h.own) rfl
    clear h hk
    go_enter Tryz.func242, Tryz.ntmps242
    go_wp2_with fail
    refine hL.mono ?_
    rintro e w1 ⟨rfl, rfl⟩
    clear hL
    go_wp2_with (simp only [hcl])
    go_end0
    exact ⟨rfl, E⟩
  have b1 : (0 : Int) ≤ m := Int.natCast_nonneg _
  have b2 : (m : Int) ≤ n := by omega
  have b3 : (n : Int) ≤ cap := by omega
  have b4 : (n : Int) ≤ 256 := by omega
  have b5 : (m : Int) ≤ cap := by omega
  have hw : wrap64 ((n : Int) - k) = m := by subst hk; simp [wrap64]; omega
  rcases Nat.lt_or_ge m n with hlt | hge
  · obtain ⟨vs, hcl⟩ := wipe_run (P := Tryz.prog) w 37 2 (.int .i64 0) 1 Tryz.underlying37 zeroI rfl (by omega) (by decide) h.own hlt
    try simp only [Nat.mul_one] at hcl
    have hmc : ¬ cap = m := by omega
    have hO := own_setCells h.own hm vs
    have hK := setCells_kept (F := FootS p (.slice (some ⟨g, 0, none⟩) n cap)) (g := g) (.inl (.inr rfl)) vs (m * 1) w (Kept.refl _ w)
    have hgp : p ≠ g := fun e => h.ne (by simp [Value.ownBlock, e])
    have hh := setCells_heap_far (g := g) vs (m * 1) w p hgp
    have c2 : (w.setCells g (m * 1) vs).cell? ⟨p, 1, none⟩ = some (.slice (some ⟨g, 0, none⟩) n cap) := cell_of_heap (hh.trans h.heap)
    have f2 : (w.setCells g (m * 1) vs).frozen? ⟨p, 1, none⟩ = false := frozen_of_heap (hh.trans h.heap)
    have E := drop_end h hK hh hm hO rfl
    try simp only [Nat.mul_one] at E c2 f2
    clear h hk hK hO hh hm hlt
    go_enter Tryz.func242, Tryz.ntmps242
    go_wp2_with fail
    refine hL.mono ?_
    rintro e w1 ⟨rfl, rfl⟩
    clear hL
    go_wp2_with (simp only [hcl])
    go_end0
    exact ⟨rfl, by simpa using E⟩
  · obtain rfl : m = n := by omega
    have hcl := fun a c ty => wipe_none (P := Tryz.prog) w 37 2 Tryz.underlying37 a c ty
    have E := drop_end h (Kept.refl (FootS p (.slice (some ⟨g, 0, none⟩) m cap)) w) rfl (Nat.le_refl m) (own_cut h.own (Nat.le_refl m)) rfl
    have hmm : m - m = 0 := by omega
    clear h hk hm hge
    go_enter Tryz.func242, Tryz.ntmps242
    go_wp2_with fail
    refine hL.mono ?_
    rintro e w1 ⟨rfl, rfl⟩
    clear hL
    by_cases hcm : cap = m
    · go_wp2_with (simp only [hcl])
      go_end0
      exact ⟨rfl, by simpa [hcm] using E⟩
    · go_wp2_with (simp only [hcl])
      go_end0
      exact ⟨rfl, by simpa using E⟩
end

section
variable {B : Nat} {w : World} {p : Nat} {most : Int} {v : Value} {n : Nat} {xs : List Value}




end

theorem Tryz.infoS : (Tryz.prog.info? 2).map (fun i => (i.zero, i.size, i.bytes)) = some (some (.int .i64 0), 1, 8) := by kernel_rfl
section
variable {B : Nat} {w : World} {p : Nat} {most : Int} {v : Value} {n : Nat} {xs : List Value}
set_option maxRecDepth 100000 in
set_option maxHeartbeats 1000000 in
theorem pushI_ok (x : Int) (hr : (n : Int) < most) (h : StackAt 209 2 1 B w p most v n xs) (hB : B ≤ w.heap.size) :
    Calls Tryz.prog 184 #[.pointer (some ⟨p, 0, none⟩), .int .i64 x] w fun e w' => e = .returned (.int .i64 0) ∧ TurnedS 209 2 1 B w w' p most v (n + 1) (xs ++ [.int .i64 x]) := by
  obtain ⟨i0, hi0, hz0, hz1, hz2⟩ := info_parts Tryz.infoS
  have hR := roomI_any h
  have hs := h.small
  have hne : ((most - (n : Int)) == 0) = false := by simp; omega
  go_enter Tryz.func184, Tryz.ntmps184
  go_wp2_with fail
  refine hR.mono ?_
  rintro e w1 ⟨rfl, k, rfl⟩
  clear hR
  have h1 := h.calm ((Kept.refl _ w).drewN k)
  have k1 := ((Kept.refl (fun _ => False) w).drewN k).alloc (.cells #[.int .i64 x] 2)
  have HZ : Hid ((w.drewN k).heap.size = w.heap.size) := rfl
  generalize w.drewN k = w1 at *
  have c1 := h1.c1
  have ho := h1.own.alloc (.cells #[.int .i64 x] 2)
  have hB1 : B ≤ w1.heap.size := HZ.out ▸ hB
  have HH : Hid (StackAt 209 2 1 B w p most v n xs) := h
  have H1 : Hid (w1.heap[p]? = some (.cells #[.int .i64 most, v] 209 (0, 0)) ∧ v.ownBlock ≠ some p) := ⟨h1.heap, h1.ne⟩
  have HR : Hid ((n : Int) < most) := hr
  clear h h1 hr
  go_wp2_with (at_builtin; refine wpList_append_lies _ rfl (.tmp 12) (.tmp 14) 37 rfl B 2 i0 _ 1 8 Tryz.underlying37 hi0 hz0 hz1 hz2 rfl (by omega) v n xs rfl ho ⟨w1.heap.size, 0, none⟩ 1 1 [.int .i64 x] rfl rfl (World.news_of_block (cs := #[.int .i64 x]) (t := 2) (fr := (0, 0)) (heap_alloc_new w1 _)) (by simp [Value.oneCell']) (by omega) (by unfold maxLen; omega) (by omega) (by simp; omega) (w1.heap.size + 1) (by simp) ?_; intro g cap w2 ho2 hg2 ha2 hl2; have hh2 := grown_heap H1.out.1 hg2 H1.out.2; have c3 : w2.cell? ⟨p, 1, none⟩ = some v := cell_of_heap hh2; have f3 : w2.frozen? ⟨p, 1, none⟩ = false := frozen_of_heap hh2; clear hh2)
  go_ret
  refine ⟨rfl, push_end HH.out hB k1 ho2 hg2 (ha2.imp_right fun e => ?_) HR.out⟩
  have := HZ.out
  omega
end

section
variable {B : Nat} {w : World} {p : Nat} {most : Int} {v : Value} {n : Nat} {xs : List Value}
set_option maxRecDepth 100000 in
set_option maxHeartbeats 1000000 in
theorem peekI_no (k : Int) (hk : ¬ (0 ≤ k ∧ k < n)) (h : StackAt 209 2 1 B w p most v n xs) :
    Calls Tryz.prog 214 #[.pointer (some ⟨p, 0, none⟩), .int .i64 k] w fun e w' => e = .returned (.tuple #[.int .i64 0, .int .i64 2]) ∧ w' = w := by
  have hL := lenI_any h
  clear h
  by_cases h0 : k < 0
  · go_enter Tryz.func214, Tryz.ntmps214
    go_wp2
    go_ret2
    exact ⟨rfl, rfl⟩
  · have h1 : (n : Int) ≤ k := by omega
    clear hk
    go_enter Tryz.func214, Tryz.ntmps214
    go_wp2_with fail
    refine hL.mono ?_
    rintro e w1 ⟨rfl, rfl⟩
    go_wp2
    go_ret2
    exact ⟨rfl, rfl⟩
set_option maxRecDepth 100000 in
set_option maxHeartbeats 1000000 in
theorem peekI_ok (k j : Nat) (hk : j + k + 1 = n) (h : StackAt 209 2 1 B w p most v n xs) :
    Calls Tryz.prog 214 #[.pointer (some ⟨p, 0, none⟩), .int .i64 k] w fun e w' => e = .returned (.tuple #[xs.getD j undef, .int .i64 0]) ∧ ∃ k, w' = w.drewN k := by
  have hL : ∀ k, Calls Tryz.prog 111 #[.pointer (some ⟨p, 0, none⟩)] (w.drewN k) fun e w' => e = .returned (.int .i64 n) ∧ w' = w.drewN k := fun k => lenI_any (h.calm ((Kept.refl _ w).drewN k))
  have hL0 := lenI_any h
  have hs := h.small
  have c1 := h.c1
  rcases own_forms h.own with ⟨rfl, h0, _⟩ | ⟨g, cap, rfl, hbg, hgl, hcap⟩
  · omega
  have hc := own_at h.own (show j < n by omega)
  generalize xs.getD j undef = u at *
  clear h
  have h0 : ¬ (k : Int) < 0 := by omega
  have h1 : (k : Int) < n := by omega
  have hw : IntKind.i64.wrap (IntKind.i64.wrap ((n : Int) - 1) - k) = j := by rw [wrap_small (x := (n : Int) - 1) (by omega) (by omega), wrap_small (by omega) (by omega)]; omega
  have b1 : (0 : Int) ≤ j := Int.natCast_nonneg _
  have b2 : (j : Int) < n := by omega
  have HK : Hid (j + k + 1 = n) := hk
  clear hk
  go_enter Tryz.func214, Tryz.ntmps214
  go_wp2_with fail
  refine hL0.mono ?_
  rintro e w1 ⟨rfl, rfl⟩
  go_wp2_with fail
  go_quiet (first | (go_at_call 111; exact Calls.quiet_of_same (hL _)))
  go_wp2
  go_ret2
  exact ⟨rfl, _, rfl⟩
end


section
variable {B : Nat} {w : World} {p : Nat} {most : Int} {v : Value} {n : Nat} {xs : List Value}

set_option maxRecDepth 100000 in
theorem popI_ok (h : StackAt 209 2 1 B w p most v (n + 1) xs) :
    Calls Tryz.prog 212 #[.pointer (some ⟨p, 0, none⟩)] w fun e w' => e = .returned (.tuple #[xs.getD n undef, .int .i64 0]) ∧ TurnedS 209 2 1 B w w' p most v n (xs.take n) := by
  have hP := peekI_ok 0 n (by omega) h
  have hD := fun k => dropI_any n (by omega) (h.calm ((Kept.refl _ w).drewN k)) 1 (by omega)
  simp only [Nat.mul_one] at hD
  have hT : ∀ k w', TurnedS 209 2 1 B (w.drewN k) w' p most v n (xs.take n) → TurnedS 209 2 1 B w w' p most v n (xs.take n) := fun k w' ⟨v', a1, a2, a3⟩ => ⟨v', a1, ⟨a2.os, a2.tape, a2.output, a2.size, a2.block⟩, a3⟩
  generalize xs.getD n undef = u at *
  clear h
  go_enter Tryz.func212, Tryz.ntmps212
  go_wp2_with fail
  refine hP.mono ?_
  rintro e w1 ⟨rfl, k, rfl⟩
  clear hP
  go_wp2_with fail
  refine (hD k).mono ?_
  rintro e w2 ⟨rfl, E⟩
  go_wp2
  go_ret2
  exact ⟨rfl, hT k _ E⟩



theorem cloneI_nil :
    Calls Tryz.prog 43 #[.slice none 0 0] w fun e w' => e = .returned (.slice none 0 0) ∧ w' = w := by
  have hq := Lib.run_eql_slice_nil (P := Tryz.prog) w 37 2 none 0 0 0 0 Tryz.underlying37
  go_enter Tryz.func43, Tryz.ntmps43
  go_wp2
  go_ret
  exact ⟨rfl, rfl⟩
set_option maxRecDepth 100000 in
set_option maxHeartbeats 1000000 in
theorem cloneI_some {g cap : Nat} (h : w.ownsRow B 2 1 (.slice (some ⟨g, 0, none⟩) n cap) n xs) (hx : ∀ u ∈ xs, u.oneCell' = true) (hs : n ≤ 256) :
    Calls Tryz.prog 43 #[.slice (some ⟨g, 0, none⟩) n cap] w fun e w' => ∃ v', e = .returned v' ∧ w'.ownsRow w.heap.size 2 1 v' n xs ∧ Kept (fun _ => False) w w' := by
  obtain ⟨i0, hi0, hz0, hz1, hz2⟩ := info_parts Tryz.infoS
  have hq := Lib.run_eql_slice_nil (P := Tryz.prog) w 37 2 (some ⟨g, 0, none⟩) n cap 0 0 Tryz.underlying37
  have hown0 := World.ownsRow_made (base := w.heap.size) (e := 2) (size := 1) w #[] 0 (Nat.le_refl _) (Nat.zero_le _) rfl
  have k0 := (Kept.refl (fun _ => False) w).alloc (.cells #[] 2)
  have hsrc := h.alloc (.cells #[] 2)
  have hl := h.1
  clear h
  go_enter Tryz.func43, Tryz.ntmps43
  go_wp2_with (at_builtin; refine wpList_append_own_at _ rfl (.tmp 5) (.tmp 6) 37 rfl w.heap.size 2 i0 _ 1 8 Tryz.underlying37 hi0 hz0 hz1 hz2 rfl (by omega) (.slice (some ⟨w.heap.size, 0, none⟩) 0 0) 0 [] rfl hown0 ⟨g, 0, none⟩ n cap xs rfl (by omega) (hsrc.cells rfl) hx (by unfold maxLen; omega) (by omega) (by simp) ?_; intro v1 w1 ho1 hg1 _ _)
  go_ret
  simp only [Nat.zero_add, List.nil_append] at ho1
  exact ⟨_, rfl, ho1, k0.grown hg1 (fun k e => .inr (by simp [Value.ownBlock] at e; omega))⟩
theorem cloneI_any (h : w.ownsRow B 2 1 v n xs) (hx : ∀ u ∈ xs, u.oneCell' = true) (hs : n ≤ 256) :
    Calls Tryz.prog 43 #[v] w fun e w' => ∃ v', e = .returned v' ∧ w'.ownsRow w.heap.size 2 1 v' n xs ∧ Kept (fun _ => False) w w' := by
  rcases own_forms h with ⟨rfl, rfl, rfl⟩ | ⟨g, cap, rfl, hbg, hgl, hcap⟩
  · exact cloneI_nil.mono fun e w' ⟨he, hw⟩ => by subst hw; exact ⟨_, he, World.ownsRow_nil _ _ _ _, Kept.refl _ _⟩
  · exact cloneI_some h hx hs
set_option maxRecDepth 100000 in
theorem allI_any (h : StackAt 209 2 1 B w p most v n xs) (hx : ∀ u ∈ xs, u.oneCell' = true) :
    Calls Tryz.prog 42 #[.pointer (some ⟨p, 0, none⟩)] w fun e w' => ∃ v', e = .returned v' ∧ w'.ownsRow w.heap.size 2 1 v' n xs ∧ Kept (fun _ => False) w w' := by
  have hC := cloneI_any h.own hx h.small
  have c1 := h.c1
  clear h
  go_enter Tryz.func42, Tryz.ntmps42
  go_wp2_with fail
  refine hC.mono ?_
  rintro e w1 ⟨v', rfl, ho, hk⟩
  go_wp2
  go_ret
  exact ⟨_, rfl, ho, hk⟩
theorem own_shapeS {e : TypeId} {z : Nat} (h : w.ownsRow B e z v n xs) : ∃ ga ca, v = .slice ga n ca := by
  rcases own_forms h with ⟨rfl, rfl, _⟩ | ⟨g, cap, rfl, _⟩
  · exact ⟨_, _, rfl⟩
  · exact ⟨_, _, rfl⟩
theorem copy_end {t e : TypeId} {w w1 : World} (h : StackAt t e 1 B w p most v n xs) {v' : Value} (ho : w1.ownsRow w.heap.size e 1 v' n xs) (hk : Kept (fun _ => False) w w1) :
    StackAt t e 1 w.heap.size (w1.alloc (.cells #[.int .i64 most, v'] t)) w1.heap.size most v' n xs ∧ Kept (fun _ => False) w (w1.alloc (.cells #[.int .i64 most, v'] t)) :=
  ⟨⟨heap_alloc_new w1 _, ho.alloc _, hk.size, fun e => by have := (ho.lt _ e).2; omega, h.fits, h.most⟩, hk.alloc _⟩
set_option maxRecDepth 100000 in
set_option maxHeartbeats 1000000 in
theorem copyI_any (h : StackAt 209 2 1 B w p most v n xs) (hx : ∀ u ∈ xs, u.oneCell' = true) :
    Calls Tryz.prog 211 #[.pointer (some ⟨p, 0, none⟩)] w fun e w' => ∃ p' v', e = .returned (.pointer (some ⟨p', 0, none⟩)) ∧ StackAt 209 2 1 w.heap.size w' p' most v' n xs ∧ Kept (fun _ => False) w w' := by
  have hA := allI_any h.drew hx
  have c0 : w.drew.cell? ⟨p, 0, none⟩ = some (.int .i64 most) := h.drew.c0
  have HC : Hid (∀ w', Kept (fun _ => False) w.drew w' → w'.cell? ⟨p, 0, none⟩ = some (.int .i64 most)) := fun w' k => (h.drew.calm k).c0
  have HE : Hid (∀ w1 v', w1.ownsRow w.heap.size 2 1 v' n xs → Kept (fun _ => False) w.drew w1 → StackAt 209 2 1 w.heap.size (w1.alloc (.cells #[.int .i64 most, v'] 209)) w1.heap.size most v' n xs ∧ Kept (fun _ => False) w (w1.alloc (.cells #[.int .i64 most, v'] 209))) := fun w1 v' ho hk => copy_end h ho ⟨hk.os, hk.tape, hk.output, hk.size, hk.block⟩
  clear h
  go_enter Tryz.func211, Tryz.ntmps211
  go_wp2_with fail
  go_region_with (go_at_call 42; refine hA.mono ?_; rintro e w1 ⟨v', rfl, ho, hk⟩; obtain ⟨ga, ca, rfl⟩ := own_shapeS ho; have c3 := HC.out _ hk)
  all_goals
    go_wp2
    go_ret
    exact ⟨_, _, rfl, HE.out _ _ ho hk⟩
/-- The two uppermost ones change places. -/
def swapTop (xs : List Value) (n : Nat) : List Value := (xs.set (n + 1) (xs.getD n undef)).set n (xs.getD (n + 1) undef)
theorem swap_end {t e : TypeId} {w : World} {g cap : Nat} (h : StackAt t e 1 B w p most (.slice (some ⟨g, 0, none⟩) (n + 2) cap) (n + 2) xs) (u1 u2 : Value) (h1 : xs.getD n undef = u1) (h2 : xs.getD (n + 1) undef = u2) :
    TurnedS t e 1 B w ((w.setCell ⟨g, n + 1, none⟩ u1).setCell ⟨g, n, none⟩ u2) p most (.slice (some ⟨g, 0, none⟩) (n + 2) cap) (n + 2) (swapTop xs n) := by
  have hgp : p ≠ g := fun e => h.ne (by simp [Value.ownBlock, e])
  have hk : Kept (FootS p (.slice (some ⟨g, 0, none⟩) (n + 2) cap)) w ((w.setCell ⟨g, n + 1, none⟩ u1).setCell ⟨g, n, none⟩ u2) := ((Kept.refl _ w).setCell _ (.inl (.inr rfl))).setCell _ (.inl (.inr rfl))
  refine ⟨_, ⟨?_, ?_, h.low, h.ne, h.fits, h.most⟩, hk, FreshS.refl _ _⟩
  · rw [heap_setCell_far (by simpa using hgp), heap_setCell_far (by simpa using hgp)]
    exact h.heap
  · have := ((h.own.stored (n + 1) u1).1.stored n u2).1
    unfold swapTop
    rw [h1, h2]
    exact this
theorem set_getD (ys : List Int) (n : Nat) (a : Int) : (ys.set (n + 1) a).getD n 0 = ys.getD n 0 := by
  simp
theorem map_getD (ys : List Int) (j : Nat) (hj : j < ys.length) : (ys.map (Value.int .i64)).getD j undef = .int .i64 (ys.getD j 0) := by
  simp [hj]
set_option maxRecDepth 100000 in
set_option maxHeartbeats 1000000 in
theorem swapI_ok {ys : List Int} (h : StackAt 209 2 1 B w p most v (n + 2) (ys.map (Value.int .i64))) :
    Calls Tryz.prog 189 #[.pointer (some ⟨p, 0, none⟩)] w fun e w' => e = .returned (.int .i64 0) ∧ TurnedS 209 2 1 B w w' p most v (n + 2) (swapTop (ys.map (Value.int .i64)) n) := by
  have hL := lenI_any h
  have hs := h.small
  have hl := h.own.1
  simp only [List.length_map, Nat.mul_one] at hl
  rcases own_forms h.own with ⟨rfl, h0, _⟩ | ⟨g, cap, rfl, hbg, hgl, hcap⟩
  · omega
  have c1 := h.drew.c1
  have d0 := own_at h.drew.own (j := n) (by omega)
  have d1 := own_at h.drew.own (j := n + 1) (by omega)
  rw [map_getD ys _ (by omega)] at d0 d1
  have f0 : w.drew.frozen? ⟨g, n, none⟩ = false := h.drew.own.frozenAt n
  have f1 : w.drew.frozen? ⟨g, n + 1, none⟩ = false := h.drew.own.frozenAt (n + 1)
  have O2 := (h.own.stored (n + 1) (.int .i64 (ys.getD n 0))).1
  have d2 : (w.setCell ⟨g, n + 1, none⟩ (.int .i64 (ys.getD n 0))).drew.cell? ⟨g, n, none⟩ = some (.int .i64 (ys.getD n 0)) := by
    have := own_at O2 (j := n) (by omega)
    rw [← List.map_set, map_getD _ _ (by simp; omega), set_getD] at this
    exact this
  have f2 : (w.setCell ⟨g, n + 1, none⟩ (.int .i64 (ys.getD n 0))).drew.frozen? ⟨g, n, none⟩ = false := O2.frozenAt n
  clear O2
  have E := swap_end h.drew _ _ (map_getD ys n (by omega)) (map_getD ys (n + 1) (by omega))
  generalize ys.getD n 0 = u1 at *
  generalize ys.getD (n + 1) 0 = u2 at *
  have b0 : (0 : Int) ≤ n := Int.natCast_nonneg _
  have b4 : ¬ ((n : Int) + 2 < 2) := by omega
  have w1 : IntKind.i64.wrap ((n : Int) + 2 - 1) = n + 1 := by rw [wrap_small (by omega) (by omega)]; omega
  have w2 : IntKind.i64.wrap ((n : Int) + 2 - 2) = n := by rw [wrap_small (by omega) (by omega)]; omega
  have b5 : (n : Int) < n + 2 := by omega
  have b6 : (n : Int) + 1 < n + 2 := by omega
  have b7 : (0 : Int) ≤ n + 1 := by omega
  clear h hl
  simp only [Int.natCast_add, Int.cast_ofNat_Int] at hL
  have HE : Hid (TurnedS 209 2 1 B w ((w.drew.setCell ⟨g, n + 1, none⟩ (.int .i64 u1)).setCell ⟨g, n, none⟩ (.int .i64 u2)) p most (.slice (some ⟨g, 0, none⟩) (n + 2) cap) (n + 2) (swapTop (ys.map (Value.int .i64)) n)) := by
    obtain ⟨v', a1, a2, a3⟩ := E
    exact ⟨v', a1, ⟨a2.os, a2.tape, a2.output, a2.size, a2.block⟩, a3⟩
  clear E
  go_enter Tryz.func189, Tryz.ntmps189
  go_wp2_with fail
  refine hL.mono ?_
  rintro e w1 ⟨rfl, rfl⟩
  clear hL
  go_wp2_with fail
  go_region
  all_goals
    go_wp2
    go_ret
    exact ⟨rfl, HE.out⟩
end

/-- So many values go; the value below k others. -/
def dropN (l : List Int) (k : Nat) : List Int := l.take (l.length - k)
def topN (l : List Int) (k : Nat) : Int := l.getD (l.length - 1 - k) 0
theorem hidS {p : Prop} (h : p) : Hid p := h
def wrp (x : Int) : Int := wrap64 x
def modM (a b : Int) : Int := if b < 1 then 0 else if a.tmod b < 0 then wrp (a.tmod b + b) else a.tmod b
def ifM (b : Bool) : Int := if b then 1 else 0
/-- A stack as a thing in memory. -/
def stkI (p : Nat) (v : Value) (st : List Int) : It :=
  ⟨p :: v.ownBlock.toList, fun w => StackAt 209 2 1 0 w p 32 v st.length (st.map (Value.int .i64)),
   fun w w' h k => ⟨(h p (by simp)).trans k.heap, own_loc k.own (fun b hb => h b (by simp [hb])), k.low, k.ne, k.fits, k.most⟩,
   fun w k b hb => by
     rcases List.mem_cons.1 hb with rfl | hb
     · exact lt_of_heap k.heap
     · exact (k.own.lt b (by simpa using hb)).2⟩
section
variable {o w : World} {its : List It} {S : Nat} {v : Value} {st : List Int}
theorem St.stk (h : St o its w) (i : Nat) (hi : its[i]? = some (stkI S v st)) : StackAt 209 2 1 0 w S 32 v st.length (st.map (Value.int .i64)) := h.get i hi
theorem stk_nodup {w : World} {p : Nat} {v : Value} {st : List Int} (k : StackAt 209 2 1 0 w p 32 v st.length (st.map (Value.int .i64))) : (stkI p v st).fp.Nodup := by
  have := k.ne
  simp only [stkI]
  cases e : v.ownBlock with
  | none => simp
  | some g => simp only [Option.toList, List.nodup_cons, List.mem_singleton, List.not_mem_nil, not_false_eq_true, List.nodup_nil, and_true]; intro h; exact this (by rw [e, h])
theorem St.turned (h : St o its w) (i : Nat) (hi : its[i]? = some (stkI S v st)) {w' : World} {l : List Int} (t : TurnedS 209 2 1 0 w w' S 32 v l.length (l.map (Value.int .i64))) : ∃ v', St o (its.set i (stkI S v' l)) w' := by
  obtain ⟨v', a, k, f⟩ := t
  refine ⟨v', h.set i hi (k.mono (fun b _ hb => ?_)) a (stk_nodup a) (fun b hb => ?_)⟩
  · rcases hb with rfl | hb
    · simp [stkI]
    · simp [stkI, hb]
  · rcases List.mem_cons.1 hb with rfl | hb
    · exact .inl (by simp [stkI])
    · rcases f b (by simpa using hb) with e | e
      · exact .inl (by simp [stkI, e])
      · exact .inr e
theorem kLen (h : St o its w) (i : Nat) (hi : its[i]? = some (stkI S v st)) : Calls Tryz.prog 111 #[.pointer (some ⟨S, 0, none⟩)] w fun e w' => e = .returned (.int .i64 st.length) ∧ w' = w := lenI_any (h.stk i hi)
theorem kPush (h : St o its w) (i : Nat) (hi : its[i]? = some (stkI S v st)) (hl : st.length < 32) (x : Int) : Calls Tryz.prog 184 #[.pointer (some ⟨S, 0, none⟩), .int .i64 x] w fun e w' => e = .returned (.int .i64 0) ∧ ∃ v', St o (its.set i (stkI S v' (st ++ [x]))) w' := by
  refine (pushI_ok x (by omega) (h.stk i hi) (Nat.zero_le _)).mono ?_
  rintro e w' ⟨he, t⟩
  exact ⟨he, h.turned i hi (by simpa using t)⟩
theorem kPeek (h : St o its w) (i : Nat) (hi : its[i]? = some (stkI S v st)) (k : Nat) (hk : k < st.length) : Calls Tryz.prog 214 #[.pointer (some ⟨S, 0, none⟩), .int .i64 k] w fun e w' => e = .returned (.tuple #[.int .i64 (topN st k), .int .i64 0]) ∧ St o its w' := by
  refine (peekI_ok k (st.length - 1 - k) (by omega) (h.stk i hi)).mono ?_
  rintro e w' ⟨he, n, rfl⟩
  refine ⟨?_, h.calm ((Kept.refl _ w).drewN n)⟩
  rw [he, map_getD _ _ (by omega)]
  rfl
theorem kPop (h : St o its w) (i : Nat) (hi : its[i]? = some (stkI S v st)) (hl : 0 < st.length) : Calls Tryz.prog 212 #[.pointer (some ⟨S, 0, none⟩)] w fun e w' => e = .returned (.tuple #[.int .i64 (topN st 0), .int .i64 0]) ∧ ∃ v', St o (its.set i (stkI S v' (dropN st 1))) w' := by
  obtain ⟨n, hn⟩ : ∃ n, st.length = n + 1 := ⟨st.length - 1, by omega⟩
  have k := h.stk i hi
  rw [hn] at k
  refine (popI_ok k).mono ?_
  rintro e w' ⟨he, t⟩
  refine ⟨?_, h.turned i hi ?_⟩
  · rw [he, map_getD _ _ (by omega)]
    unfold topN
    rw [hn]
    rfl
  · unfold dropN
    rw [← List.map_take] at t
    have e : st.length - 1 = n := by omega
    rw [e, List.length_take, hn, Nat.min_eq_left (by omega)]
    exact t
theorem kSwap (h : St o its w) (i : Nat) (hi : its[i]? = some (stkI S v st)) (hl : 2 ≤ st.length) : Calls Tryz.prog 189 #[.pointer (some ⟨S, 0, none⟩)] w fun e w' => e = .returned (.int .i64 0) ∧ ∃ v', St o (its.set i (stkI S v' (dropN st 2 ++ [topN st 0, topN st 1]))) w' := by
  obtain ⟨n, hn⟩ : ∃ n, st.length = n + 2 := ⟨st.length - 2, by omega⟩
  have k := h.stk i hi
  rw [hn] at k
  refine (swapI_ok k).mono ?_
  rintro e w' ⟨he, t⟩
  refine ⟨he, h.turned i hi ?_⟩
  have e1 : swapTop (st.map (Value.int .i64)) n = (dropN st 2 ++ [topN st 0, topN st 1]).map (Value.int .i64) := by
    unfold swapTop dropN topN
    rw [map_getD _ _ (by omega), map_getD _ _ (by omega), ← List.map_set, ← List.map_set]
    congr 1
    have ea : st.length - 1 - 0 = n + 1 := by omega
    have eb : st.length - 1 - 1 = n := by omega
    have ec : st.length - 2 = n := by omega
    rw [ea, eb, ec]
    apply List.ext_getElem?
    intro j
    rw [List.getElem?_set, List.getElem?_set]
    by_cases h1 : n = j
    · subst h1
      simp [hn]
    · rw [if_neg h1]
      by_cases h2 : n + 1 = j
      · subst h2
        rw [if_pos rfl, List.getElem?_append_right (by simp; omega)]
        simp [hn, Nat.min_eq_left (show n ≤ n + 2 by omega)]
      · rw [if_neg h2]
        rcases Nat.lt_or_ge j n with h3 | h3
        · rw [List.getElem?_append_left (by simp; omega), List.getElem?_take, if_pos h3]
        · rw [List.getElem?_eq_none (by omega), List.getElem?_eq_none (by simp; omega)]
  rw [e1] at t
  have e2 : (dropN st 2 ++ [topN st 0, topN st 1]).length = n + 2 := by simp [dropN]; omega
  rw [e2]
  exact t
theorem ints_one (l : List Int) : ∀ u ∈ l.map (Value.int .i64), u.oneCell' = true := by
  intro u hu
  obtain ⟨x, _, rfl⟩ := List.mem_map.1 hu
  rfl
theorem kAll (h : St o its w) (i : Nat) (hi : its[i]? = some (stkI S v st)) : Calls Tryz.prog 42 #[.pointer (some ⟨S, 0, none⟩)] w fun e w' => ∃ v', e = .returned v' ∧ St o (ownI 2 1 v' st.length (clCells st) :: its) w' := by
  refine (allI_any (h.stk i hi) (ints_one st)).mono ?_
  rintro e w' ⟨v', he, ho, hk⟩
  exact ⟨v', he, h.own hk ho⟩
theorem kCopy (h : St o its w) (i : Nat) (hi : its[i]? = some (stkI S v st)) : Calls Tryz.prog 211 #[.pointer (some ⟨S, 0, none⟩)] w fun e w' => ∃ p' v', e = .returned (.pointer (some ⟨p', 0, none⟩)) ∧ St o (stkI p' v' st :: its) w' := by
  refine (copyI_any (h.stk i hi) (ints_one st)).mono ?_
  rintro e w' ⟨p', v', he, ho, hk⟩
  have h0 := ho.mono (Nat.zero_le _)
  refine ⟨p', v', he, h.push _ hk h0 (stk_nodup h0) (fun b hb => ?_)⟩
  rcases List.mem_cons.1 hb with rfl | hb
  · exact ho.low
  · exact (ho.own.lt b (by simpa using hb)).1
theorem kNew (h : St o its w) : Calls Tryz.prog 39 #[.int .i64 32] w fun e w' => ∃ p', e = .returned (.tuple #[.pointer (some ⟨p', 0, none⟩), .int .i64 0]) ∧ St o (stkI p' (.slice none 0 0) [] :: its) w' := by
  refine (newI_yes 32 w (by decide) (by decide)).mono ?_
  rintro e w' ⟨he, ho, hk⟩
  have h0 := ho.mono (Nat.zero_le _)
  refine ⟨_, he, h.push _ hk h0 (stk_nodup (st := []) h0) (fun b hb => ?_)⟩
  simp [stkI, Value.ownBlock] at hb
  omega
end

end Go.Proofs.YthbcbjkgjgmegaaGreat
