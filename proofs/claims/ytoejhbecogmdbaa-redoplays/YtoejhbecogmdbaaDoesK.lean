/- A step of the script over a log and the document's: the list of keys; and any step. -/
import Derived.Test.YtoejhbecogmdbaaDoes
namespace Go.Proofs.Ytoejhbecogmdbaa
open Go.RowKit
set_option linter.unusedVariables false
set_option linter.unusedSimpArgs false

/-- A list of numbers. -/
def Nums (xs : List Value) : Prop := ∀ x ∈ xs, ∃ k : Int, x = .int .i64 k
theorem Nums.set {xs : List Value} (h : Nums xs) (c : Nat) (y : Int) : Nums (xs.set c (.int .i64 y)) := by
  intro x hx
  rcases List.mem_or_eq_of_mem_set hx with hx | rfl
  · exact h x hx
  · exact ⟨y, rfl⟩
theorem St.ownSet {o w : World} {its : List It} (h : St o its w) (i : Nat) {e : TypeId} {z g n cap : Nat} {xs : List Value} (hi : its[i]? = some (ownI e z (.slice (some ⟨g, 0, none⟩) n cap) n xs)) (j : Nat) (x : Value) : St o (its.set i (ownI e z (.slice (some ⟨g, 0, none⟩) n cap) n (xs.set j x))) (w.setCell ⟨g, j, none⟩ x) :=
  h.set i hi ((Kept.refl _ w).setCell x (.inl (by simp [ownI, Value.ownBlock]))) ((show w.ownsRow 0 e z (.slice (some ⟨g, 0, none⟩) n cap) n xs from h.get i hi).stored j x).1 (own_nodup (.slice (some ⟨g, 0, none⟩) n cap)) (fun b hb => .inl hb)

section
variable {o w : World} {its : List It} {i j p q : Nat} {most : Int} {v : Value} {bm : Nat} {kv vv : Value} {ps : List (Value × Value)}
set_option maxRecDepth 100000 in
set_option maxHeartbeats 2000000 in
theorem does_keys (hS : St o its w) (hi : its[i]? = some (logA p most v bm ps)) (hj : its[j]? = some (refI q most kv vv ps)) (hij : i ≠ j) (other : Bool) (k x : Int) :
    Calls Try.prog 8 #[.pointer (some ⟨p, 0, none⟩), .pointer (some ⟨q, 0, none⟩), .agg #[.bool other, .int .i64 6, .int .i64 k, .int .i64 x]] w fun e w' => e = .returned (.bool true) ∧ Both o its i j p q most bm w' := by
  obtain ⟨i0, hi0, hz0, hz1, hz2⟩ := info_parts Try.info3
  have hS0 := hS.box #[.bool other, .int .i64 6, .int .i64 k, .int .i64 x] 32
  have hsm := (show LogA w p most v bm ps from hS.get i hi).small
  have hnum : Nums (ps.map Prod.fst) := by
    intro y hy
    obtain ⟨z, hz, rfl⟩ := List.mem_map.1 hy
    obtain ⟨a, ha, _⟩ := (show LogA w p most v bm ps from hS.get i hi).keys z hz
    exact ⟨a, ha⟩
  clear hS
  go_enter Try.func8, Try.ntmps8
  go_upto_region 1 with fail
  generalize w.alloc (.cells #[.bool other, .int .i64 6, .int .i64 k, .int .i64 x] 32) = W0 at *
  generalize w.heap.size = B at *
  have a1 : W0.cell? ⟨B, 1, none⟩ = some (.int .i64 6) := hS0.cell 0 rfl 1
  go_wp2_with fail
  refine (keysA_any (hS0.get (i + 1) hi)).mono ?_
  rintro e w1 ⟨rfl, hK, hT⟩
  have hS1 := hS0.pop.push (ownI 3 1 (.slice (some ⟨W0.heap.size, 0, none⟩) ps.length ps.length) ps.length (ps.map Prod.fst)) hT hK (own_nodup (.slice (some ⟨W0.heap.size, 0, none⟩) ps.length ps.length)) (by simp [ownI, Value.ownBlock])
  clear hT hS0
  generalize W0.heap.size = G at *
  have c1 := (show RefAt w1 q most kv vv ps from hS1.get (j + 1) hj).c1
  have hSm := same_any hK (show RefAt w1 q most kv vv ps from hS1.get (j + 1) hj).ownK hnum hsm
  clear hK
  go_wp2_with fail
  refine hSm.mono ?_
  rintro e w2 ⟨rfl, hT⟩
  have hS2 := hS1.calm hT
  clear hT hS1 hSm c1
  go_wp2_with fail
  go_loopw [21] (fun a wr => ∃ (c : Nat) (xs : List Value), a = .int .i64 c ∧ c ≤ ps.length ∧ Nums xs ∧ St o (ownI 3 1 (.slice (some ⟨G, 0, none⟩) ps.length ps.length) ps.length xs :: its) wr) (fun a _ => ps.length - (intOf a).toNat)
  case atStart => exact ⟨0, _, rfl, Nat.zero_le _, hnum, hS2⟩
  case round =>
    obtain ⟨c, xs, rfl, hc, hN, hS3⟩ := hrel
    have ho : wr.ownsRow 0 3 1 (.slice (some ⟨G, 0, none⟩) ps.length ps.length) ps.length xs := hS3.get 0 rfl
    by_cases hlt : c < ps.length
    · have hl := ho.1
      have hx : xs[c]? = some xs[c] := List.getElem?_eq_getElem (by omega)
      obtain ⟨y, hy⟩ := hN xs[c] (List.mem_of_getElem? hx)
      rw [hy] at hx
      have e1 : wr.cell? ⟨G, c, none⟩ = some (.int .i64 y) := (ho.cellAt c (by omega)).trans hx
      have f1 : wr.frozen? ⟨G, c, none⟩ = false := ho.frozenAt c
      have b1 : (0 : Int) ≤ c := Int.natCast_nonneg _
      have b2 : (c : Int) < ps.length := by omega
      have HS : Hid (∀ y', St o (ownI 3 1 (.slice (some ⟨G, 0, none⟩) ps.length ps.length) ps.length (xs.set c (.int .i64 y')) :: its) (wr.setCell ⟨G, c, none⟩ (.int .i64 y'))) := fun y' => hS3.ownSet 0 rfl c (.int .i64 y')
      clear hS2 hS3 ho hx hy hl hnum
      go_wp2
      go_roundw
      case rel => exact ⟨c + 1, _, by go_num, by omega, hN.set c _, HS.out _⟩
      case measure => simp [intOf]; omega
    · obtain rfl : c = ps.length := by omega
      have ho2 := ho.alloc (.cells #[.int .i64 1, .int .i64 2] 3)
      have HS : Hid (∀ w4, (wr.alloc (.cells #[.int .i64 1, .int .i64 2] 3)).grownBy w4 (some G) → Both o its i j p q most bm w4) := by
        intro w4 hg
        refine both_back hi hj ?_
        have h5 := hS3.alloc (.cells #[.int .i64 1, .int .i64 2] 3)
        have h6 : Kept (fun b => b ∈ (ownI 3 1 (.slice (some ⟨G, 0, none⟩) ps.length ps.length) ps.length xs).fp) (wr.alloc (.cells #[.int .i64 1, .int .i64 2] 3)) w4 := (Kept.refl _ _).grown hg (fun b e => .inl (by simp at e; simp [ownI, Value.ownBlock, e]))
        have h7 := h5.set 0 rfl h6 (A' := ⟨[], fun _ => True, fun _ _ _ _ => trivial, fun _ _ k hk => by simp at hk⟩) trivial (by simp) (fun b hb => by simp at hb)
        exact h7.pop
      clear hS2 hS3 ho hnum
      go_wp2_with (at_builtin; refine wpList_append_lies _ rfl (.tmp 137) (.tmp 138) 35 rfl 0 3 i0 _ 1 8 Try.underlying35 hi0 hz0 hz1 hz2 rfl (by omega) (.slice (some ⟨G, 0, none⟩) ps.length ps.length) ps.length xs rfl ho2 ⟨wr.heap.size, 0, none⟩ 2 2 [.int .i64 1, .int .i64 2] rfl rfl (World.news_of_block (cs := #[.int .i64 1, .int .i64 2]) (t := 3) (fr := (0, 0)) (heap_alloc_new wr _)) (by simp [Value.oneCell']) (by omega) (by unfold maxLen; omega) (by omega) (by simp) (wr.heap.size + 1) (by simp) ?_; intro g4 cap4 w4 ho4 hg4 ha4 hl4)
      go_ret
      exact ⟨rfl, HS.out _ hg4⟩
theorem does_any (hS : St o its w) (hi : its[i]? = some (logA p most v bm ps)) (hj : its[j]? = some (refI q most kv vv ps)) (hij : i ≠ j) (other : Bool) (kind k x : Int) (hwf : (Lit.int .i64 k).wf = true) :
    Calls Try.prog 8 #[.pointer (some ⟨p, 0, none⟩), .pointer (some ⟨q, 0, none⟩), .agg #[.bool other, .int .i64 kind, .int .i64 k, .int .i64 x]] w fun e w' => e = .returned (.bool true) ∧ Both o its i j p q most bm w' := by
  by_cases h : kind < 1 ∨ 6 < kind
  · exact does_none hS hi hj hij other kind k x h
  · have : kind = 1 ∨ kind = 2 ∨ kind = 3 ∨ kind = 4 ∨ kind = 5 ∨ kind = 6 := by omega
    rcases this with rfl | rfl | rfl | rfl | rfl | rfl
    · exact does_put hS hi hj hij other k x hwf
    · exact does_get hS hi hj hij other k x hwf
    · exact does_at hS hi hj hij other k x
    · exact does_drop hS hi hj hij other k x hwf
    · exact does_clear hS hi hj hij other k x
    · exact does_keys hS hi hj hij other k x
end
end Go.Proofs.Ytoejhbecogmdbaa
