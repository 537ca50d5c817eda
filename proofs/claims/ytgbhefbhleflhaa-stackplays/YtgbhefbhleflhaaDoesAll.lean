/- A step over a stack and the document's: All, told and written over; every step. -/
import Derived.Test.YtgbhefbhleflhaaOps
import Derived.Test.YtgbhefbhleflhaaDoes
namespace Go.Proofs.Ytgbhefbhleflhaa
open Go.RowKit
set_option linter.unusedVariables false
set_option linter.unusedSimpArgs false
section
variable {B : Nat} {w : World} {p q : Nat} {most : Int} {v u : Value} {ys : List Int}

set_option maxRecDepth 100000 in
set_option maxHeartbeats 1000000 in
theorem does_all (h : Two B w p q most v u ys) (o : Bool) (x : Int) :
    Calls Try.prog 11 #[.pointer (some ⟨p, 0, none⟩), .pointer (some ⟨q, 0, none⟩), .agg #[.bool o, .int .i64 7, .int .i64 x]] w fun e w' => e = .returned (.bool true) ∧ Did B w w' p q most v u := by
  obtain ⟨i0, hi0, hz0, hz1, hz2⟩ := info_parts Try.info3
  go_enter Try.func11, Try.ntmps11
  go_wp2_with fail
  have k0 := (Kept.refl (fun _ => False) w).alloc (.cells #[.bool o, .int .i64 7, .int .i64 x] 32)
  generalize w.alloc (.cells #[.bool o, .int .i64 7, .int .i64 x] 32) = W0 at k0 ⊢
  have h0 := h.calm k0
  refine (allI_any h0.a (ints_one ys)).mono ?_
  rintro e w1 ⟨vl, rfl, ho, k1⟩
  obtain ⟨gl, cl, rfl⟩ := own_shape ho
  have h1 := h0.calm k1
  obtain ⟨gx, cx, rfl⟩ := h1.x.shape
  have c1 := h1.x.c1
  have hS := sameInts_true gl gx ys.length cl cx ys w1 (owned_ints ho) (owned_ints h1.x.own) (by have := h1.a.small; omega)
  have hsm := h1.a.small
  have kk : Kept (fun _ => False) w w1 := k0.trans k1 (fun _ _ f => f)
  have HD : Hid (∀ w', Kept (fun k => W0.heap.size ≤ k) w1 w' → Did B w w' p q most v (.slice gx ys.length cx)) := fun w' k => h.did (kk.trans k (fun i hi f => by have := k0.size; omega))
  have HS : Hid (W0.heap.size ≤ w1.heap.size) := k1.size
  generalize hn : ys.length = n at *
  have HN : Hid (ys.length = n) := hn
  generalize W0.heap.size = H at *
  clear h h0 h1 kk k0 k1 hn
  go_wp2_with fail
  refine hS.mono ?_
  rintro e w2 ⟨rfl, d, rfl⟩
  have ho2 : (w1.drewN d).ownsRow H 3 1 (.slice gl n cl) n (ys.map (Value.int .i64)) := ho
  have K2 : Kept (fun k => H ≤ k) w1 (w1.drewN d) := (Kept.refl _ w1).drewN d
  generalize w1.drewN d = w2 at *
  clear ho hS c1
  go_wp2_with fail
  go_loopw [20] (fun i wr => ∃ (j : Nat) (zs : List Int), i = .int .i64 j ∧ j ≤ n ∧ wr.ownsRow H 3 1 (.slice gl n cl) n (zs.map (Value.int .i64)) ∧ Kept (fun k => H ≤ k) w1 wr) (fun i _ => n - (intOf i).toNat)
  case atStart => exact ⟨0, ys, rfl, Nat.zero_le _, ho2, K2⟩
  case round =>
    clear ho2 K2
    obtain ⟨j, zs, rfl, hj, hor, hkr⟩ := hrel
    by_cases hlt : j < n
    · rcases own_forms hor with ⟨h0, h1, _⟩ | ⟨g, cap, h0, hbg, hgl, hcap⟩
      · omega
      obtain ⟨rfl, rfl⟩ : gl = some ⟨g, 0, none⟩ ∧ cl = cap := by simpa using h0
      have cj := owned_cell hor hlt
      have fj : wr.frozen? ⟨g, j, none⟩ = false := hor.frozenAt j
      generalize zs.getD j 0 = z at cj
      have hi0' : (0 : Int) ≤ (j : Int) := Int.natCast_nonneg _
      have hi1' : (j : Int) < (n : Int) := by omega
      have HO : Hid (∀ X, (wr.setCell ⟨g, j, none⟩ (.int .i64 X)).ownsRow H 3 1 (.slice (some ⟨g, 0, none⟩) n cl) n ((zs.set j X).map (Value.int .i64)) ∧ Kept (fun k => H ≤ k) w1 (wr.setCell ⟨g, j, none⟩ (.int .i64 X))) := fun X => ⟨owned_set hor j X, hkr.setCell _ (.inl hbg)⟩
      clear hor hkr h0
      go_wp2
      go_roundw
      case rel => exact ⟨j + 1, _, by go_num, by omega, (HO.out _).1, (HO.out _).2⟩
      case measure => simp [intOf]; omega
    · have hb : H ≤ wr.heap.size := Nat.le_trans HS.out hkr.size
      go_wp2_with (at_builtin; refine wpList_append_lies _ rfl (.tmp 125) (.tmp 126) 37 rfl H 3 i0 _ 1 8 Try.underlying37 hi0 hz0 hz1 hz2 rfl (by omega) (.slice gl n cl) n (zs.map (Value.int .i64)) rfl (hor.alloc _) ⟨wr.heap.size, 0, none⟩ 2 2 [.int .i64 1, .int .i64 2] rfl rfl (World.news_of_block (cs := #[.int .i64 1, .int .i64 2]) (t := 3) (fr := (0, 0)) (heap_alloc_new wr _)) (by simp [Value.oneCell']) (by omega) (by unfold maxLen; omega) (by omega) (by simp; omega) (wr.heap.size + 1) (by simp) ?_; intro g cap w4 ho4 hg4 ha4 hl4; have K4 : Kept (fun k => H ≤ k) w1 w4 := (hkr.alloc _).grown hg4 (fun k e => .inl (hor.lt k e).1))
      go_ret
      exact ⟨rfl, HN.out ▸ HD.out _ K4⟩
theorem does_any (h : Two B w p q most v u ys) (o : OpD) :
    Calls Try.prog 11 #[.pointer (some ⟨p, 0, none⟩), .pointer (some ⟨q, 0, none⟩), .agg #[.bool o.other, .int .i64 o.kind, .int .i64 o.x]] w fun e w' => e = .returned (.bool true) ∧ Did B w w' p q most v u := by
  obtain ⟨other, kind, x⟩ := o
  by_cases hk : 1 ≤ kind ∧ kind ≤ 7
  · obtain ⟨h1, h2⟩ := hk
    have : kind = 1 ∨ kind = 2 ∨ kind = 3 ∨ kind = 4 ∨ kind = 5 ∨ kind = 6 ∨ kind = 7 := by omega
    rcases this with rfl | rfl | rfl | rfl | rfl | rfl | rfl
    · exact does_push h other x
    · exact does_pop h other x
    · exact does_peek h other x
    · exact does_swap h other x
    · exact does_cut h other x
    · exact does_clear h other x
    · exact does_all h other x
  · exact does_else h other x kind hk
end
end Go.Proofs.Ytgbhefbhleflhaa
