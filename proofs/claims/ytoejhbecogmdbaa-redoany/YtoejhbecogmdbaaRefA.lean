/- The document's log in memory; New, Find, Get, At, Clear, Put. -/
import Derived.Test.YtoejhbecogmdbaaKeysA
namespace Go.Proofs.Ytoejhbecogmdbaa
open Go.RowKit
set_option linter.unusedVariables false
set_option linter.unusedSimpArgs false

def rfoot (p : Nat) (kv vv : Value) : List Nat := p :: (kv.ownBlock.toList ++ vv.ownBlock.toList)
structure RefAt (w : World) (p : Nat) (most : Int) (kv vv : Value) (ps : List (Value × Value)) : Prop where
  heap : w.heap[p]? = some (.cells #[.int .i64 most, kv, vv] 38 (0, 0))
  ownK : w.ownsRow 0 3 1 kv ps.length (ps.map Prod.fst)
  ownV : w.ownsRow 0 2 1 vv ps.length (ps.map Prod.snd)
  nodup : (rfoot p kv vv).Nodup
  keys : ∀ x ∈ ps, OKi x.1
  vals : ∀ x ∈ ps, ∃ y : Int, x.2 = .int .i64 y
  apart : Apart ps
  fits : (ps.length : Int) ≤ most
  most : most ≤ 4096
def RTurned (w w' : World) (p : Nat) (most : Int) (kv vv : Value) (ps : List (Value × Value)) : Prop :=
  ∃ kv' vv', RefAt w' p most kv' vv' ps ∧ Kept (fun b => b ∈ rfoot p kv vv) w w' ∧ ∀ b, b ∈ rfoot p kv' vv' → b ∈ rfoot p kv vv ∨ w.heap.size ≤ b

section
variable {w w' : World} {p : Nat} {most : Int} {kv vv : Value} {ps : List (Value × Value)}
theorem RefAt.ne1 (h : RefAt w p most kv vv ps) : kv.ownBlock ≠ some p := by
  have := h.nodup
  intro e
  simp [rfoot, e] at this
theorem RefAt.ne2 (h : RefAt w p most kv vv ps) : vv.ownBlock ≠ some p := by
  have := h.nodup
  intro e
  simp [rfoot, e] at this
theorem RefAt.ne3 (h : RefAt w p most kv vv ps) {g : Nat} (hk : kv.ownBlock = some g) : vv.ownBlock ≠ some g := by
  have := h.nodup
  intro e
  simp [rfoot, e, hk] at this
theorem RefAt.loc (h : RefAt w p most kv vv ps) (k : ∀ b, b ∈ rfoot p kv vv → w'.heap[b]? = w.heap[b]?) : RefAt w' p most kv vv ps :=
  ⟨(k p (by simp [rfoot])).trans h.heap, own_loc h.ownK (fun g hg => k g (by simp [rfoot, hg])), own_loc h.ownV (fun g hg => k g (by simp [rfoot, hg])), h.nodup, h.keys, h.vals, h.apart, h.fits, h.most⟩
theorem RefAt.old (h : RefAt w p most kv vv ps) : ∀ b, b ∈ rfoot p kv vv → b < w.heap.size := by
  intro b hb
  simp only [rfoot, List.mem_cons, List.mem_append, Option.mem_toList] at hb
  rcases hb with rfl | hb | hb
  · exact lt_of_heap h.heap
  · exact (h.ownK.lt b hb).2
  · exact (h.ownV.lt b hb).2
theorem RefAt.calm (h : RefAt w p most kv vv ps) (k : Kept (fun _ => False) w w') : RefAt w' p most kv vv ps :=
  h.loc (fun b hb => k.block b (h.old b hb) (fun f => f))
theorem RefAt.small (h : RefAt w p most kv vv ps) : ps.length ≤ 4096 := by
  have := h.fits
  have := h.most
  omega
theorem RefAt.c0 (h : RefAt w p most kv vv ps) : w.cell? ⟨p, 0, none⟩ = some (.int .i64 most) := cell_of_heap h.heap
theorem RefAt.c1 (h : RefAt w p most kv vv ps) : w.cell? ⟨p, 1, none⟩ = some kv := cell_of_heap h.heap
theorem RefAt.c2 (h : RefAt w p most kv vv ps) : w.cell? ⟨p, 2, none⟩ = some vv := cell_of_heap h.heap
theorem RefAt.f1 (h : RefAt w p most kv vv ps) : w.frozen? ⟨p, 1, none⟩ = false := frozen_of_heap h.heap
theorem RefAt.f2 (h : RefAt w p most kv vv ps) : w.frozen? ⟨p, 2, none⟩ = false := frozen_of_heap h.heap
theorem own_shape {e : TypeId} {z n : Nat} {v : Value} {xs : List Value} (h : w.ownsRow 0 e z v n xs) : ∃ ga ca, v = .slice ga n ca := by
  rcases own_forms h with ⟨rfl, rfl, _⟩ | ⟨g, cap, rfl, _⟩
  · exact ⟨_, _, rfl⟩
  · exact ⟨_, _, rfl⟩
theorem RefAt.keyAt (h : RefAt w p most kv vv ps) {i : Nat} {x : Value × Value} (hi : ps[i]? = some x) : ∃ g cap, kv = .slice (some ⟨g, 0, none⟩) ps.length cap ∧ w.cell? ⟨g, i, none⟩ = some x.1 := by
  have hlt := (List.getElem?_eq_some_iff.1 hi).1
  rcases own_forms h.ownK with ⟨_, h0, _⟩ | ⟨g, cap, hv, _, hg, hc⟩
  · omega
  · refine ⟨g, cap, hv, ?_⟩
    have := h.ownK
    rw [hv] at this
    rw [this.cellAt i (by omega), List.getElem?_map, hi]
    rfl
theorem RefAt.valAt (h : RefAt w p most kv vv ps) {i : Nat} {x : Value × Value} (hi : ps[i]? = some x) : ∃ g cap, vv = .slice (some ⟨g, 0, none⟩) ps.length cap ∧ w.cell? ⟨g, i, none⟩ = some x.2 := by
  have hlt := (List.getElem?_eq_some_iff.1 hi).1
  rcases own_forms h.ownV with ⟨_, h0, _⟩ | ⟨g, cap, hv, _, hg, hc⟩
  · omega
  · refine ⟨g, cap, hv, ?_⟩
    have := h.ownV
    rw [hv] at this
    rw [this.cellAt i (by omega), List.getElem?_map, hi]
    rfl
end
/-- It as a thing. -/
def refI (p : Nat) (most : Int) (kv vv : Value) (ps : List (Value × Value)) : It :=
  ⟨rfoot p kv vv, fun w => RefAt w p most kv vv ps, fun w w' k h => h.loc k, fun w h => h.old⟩
theorem St.rturn {w w' o : World} {its : List It} {p : Nat} {most : Int} {kv vv : Value} {ps ps' : List (Value × Value)} (h : St o its w) (i : Nat) (hi : its[i]? = some (refI p most kv vv ps)) (k : RTurned w w' p most kv vv ps') : ∃ kv' vv', St o (its.set i (refI p most kv' vv' ps')) w' := by
  obtain ⟨kv', vv', h1, h2, h3⟩ := k
  exact ⟨kv', vv', h.set i hi h2 h1 h1.nodup h3⟩
theorem RTurned.after {w w1 w' : World} {p : Nat} {most : Int} {kv vv : Value} {ps : List (Value × Value)} (k : Kept (fun _ => False) w w1) (h : RTurned w1 w' p most kv vv ps) : RTurned w w' p most kv vv ps := by
  obtain ⟨kv', vv', a1, a2, a3⟩ := h
  exact ⟨kv', vv', a1, k.calm.trans a2 (fun _ _ f => f), fun b hb => (a3 b hb).imp_right (fun f => Nat.le_trans k.size f)⟩

set_option maxRecDepth 100000 in
theorem newR_no (most : Int) (w : World) (h : ¬ (1 ≤ most ∧ most ≤ 4096)) :
    Calls Try.prog 7 #[.int .i64 most] w fun e w' => e = .returned (.tuple #[.pointer none, .int .i64 1]) ∧ w' = w := by
  by_cases h1 : most < 1
  · go_enter Try.func7, Try.ntmps7
    go_wp2
    go_ret2
    exact ⟨rfl, rfl⟩
  · have h2 : ¬ most ≤ 4096 := by omega
    go_enter Try.func7, Try.ntmps7
    go_wp2
    go_ret2
    exact ⟨rfl, rfl⟩
set_option maxRecDepth 100000 in
theorem newR_yes (most : Int) (w : World) (h1 : 1 ≤ most) (h2 : most ≤ 4096) :
    Calls Try.prog 7 #[.int .i64 most] w fun e w' => e = .returned (.tuple #[.pointer (some ⟨w.heap.size, 0, none⟩), .int .i64 0]) ∧ RefAt w' w.heap.size most (.slice none 0 0) (.slice none 0 0) [] ∧ Kept (fun _ => False) w w' := by
  have hm : RefAt (w.alloc (.cells #[.int .i64 most, .slice none 0 0, .slice none 0 0] 38)) w.heap.size most (.slice none 0 0) (.slice none 0 0) [] :=
    ⟨heap_alloc_new w _, World.ownsRow_nil _ _ _ _, World.ownsRow_nil _ _ _ _, by simp [rfoot, Value.ownBlock], by simp, by simp, fun a b x y hx => by simp at hx, by simp; omega, h2⟩
  have hk := kept_alloc w (.cells #[.int .i64 most, .slice none 0 0, .slice none 0 0] 38)
  go_enter Try.func7, Try.ntmps7
  go_wp2
  go_ret2
  exact ⟨rfl, hm, hk⟩

section
variable {w : World} {p : Nat} {most : Int} {kv vv : Value} {ps : List (Value × Value)}
set_option maxRecDepth 100000 in
set_option maxHeartbeats 1000000 in
theorem findR_at (h : RefAt w p most kv vv ps) {i : Nat} {k : Int} {u : Value} (hi : ps[i]? = some (.int .i64 k, u)) :
    Calls Try.prog 39 #[.pointer (some ⟨p, 0, none⟩), .int .i64 k] w fun e w' => e = .returned (.int .i64 i) ∧ w' = w := by
  have hsm := h.small
  obtain ⟨g, cap, rfl, _⟩ := h.keyAt hi
  have hlt : i < ps.length := (List.getElem?_eq_some_iff.1 hi).1
  have c1 := h.c1
  have HH : Hid (RefAt w p most (.slice (some ⟨g, 0, none⟩) ps.length cap) vv ps ∧ ps[i]? = some (.int .i64 k, u)) := ⟨h, hi⟩
  clear h hi
  go_enter Try.func39, Try.ntmps39
  go_wp2_with fail
  go_loopw [5] (fun j wr => ∃ c : Nat, j = .int .i64 c ∧ c ≤ i ∧ wr = w) (fun j _ => i - (intOf j).toNat)
  case atStart => exact ⟨0, rfl, Nat.zero_le _, rfl⟩
  case round =>
    obtain ⟨c, rfl, hc, rfl⟩ := hrel
    obtain ⟨h, hi⟩ := HH.out
    have hx : ps[c]? = some ps[c] := List.getElem?_eq_getElem (by omega)
    obtain ⟨kc, hkc, _⟩ := h.keys _ (List.mem_of_getElem? hx)
    obtain ⟨g', cap', hv, e1⟩ := h.keyAt hx
    cases hv
    rw [hkc] at e1
    have b1 : (0 : Int) ≤ c := Int.natCast_nonneg _
    have b2 : (c : Int) < ps.length := by omega
    by_cases heq : c = i
    · subst heq
      have : kc = k := by
        rw [hx, Option.some.injEq] at hi
        rw [hi] at hkc
        simpa using hkc.symm
      subst this
      clear hkc hx hi h HH
      go_wp2
      go_ret
      exact ⟨rfl, rfl⟩
    · have hne : (kc == k) = false := by
        rw [beq_eq_false_iff_ne]
        intro e
        subst e
        exact heq (h.apart c i _ _ hx hi hkc)
      clear hkc hx hi h HH
      go_wp2
      go_roundw
      case rel => exact ⟨c + 1, by go_num, by omega, trivial⟩
      case measure => simp [intOf]; omega
set_option maxRecDepth 100000 in
set_option maxHeartbeats 1000000 in
theorem findR_no (h : RefAt w p most kv vv ps) {k : Int} (hn : ∀ x ∈ ps, x.1 ≠ .int .i64 k) :
    Calls Try.prog 39 #[.pointer (some ⟨p, 0, none⟩), .int .i64 k] w fun e w' => e = .returned (.int .i64 (-1)) ∧ w' = w := by
  have hsm := h.small
  obtain ⟨ga, ca, hv⟩ := own_shape h.ownK
  have c1 := h.c1
  rw [hv] at c1
  have HH : Hid (RefAt w p most kv vv ps ∧ kv = .slice ga ps.length ca) := ⟨h, hv⟩
  clear h hv
  go_enter Try.func39, Try.ntmps39
  go_wp2_with fail
  go_loopw [5] (fun j wr => ∃ c : Nat, j = .int .i64 c ∧ c ≤ ps.length ∧ wr = w) (fun j _ => ps.length - (intOf j).toNat)
  case atStart => exact ⟨0, rfl, Nat.zero_le _, rfl⟩
  case round =>
    obtain ⟨c, rfl, hc, rfl⟩ := hrel
    by_cases hlt : c < ps.length
    · obtain ⟨h, rfl⟩ := HH.out
      have hx : ps[c]? = some ps[c] := List.getElem?_eq_getElem (by omega)
      obtain ⟨kc, hkc, _⟩ := h.keys _ (List.mem_of_getElem? hx)
      obtain ⟨g', cap', hv, e1⟩ := h.keyAt hx
      cases hv
      rw [hkc] at e1
      have b1 : (0 : Int) ≤ c := Int.natCast_nonneg _
      have b2 : (c : Int) < ps.length := by omega
      have hne : (kc == k) = false := by
        rw [beq_eq_false_iff_ne]
        intro e
        subst e
        exact hn _ (List.mem_of_getElem? hx) hkc
      clear hkc hx h HH hn
      go_wp2
      go_roundw
      case rel => exact ⟨c + 1, by go_num, by omega, trivial⟩
      case measure => simp [intOf]; omega
    · obtain rfl : c = ps.length := by omega
      clear HH hn
      go_wp2
      go_ret
      exact ⟨rfl, rfl⟩
set_option maxRecDepth 100000 in
theorem getR_at (h : RefAt w p most kv vv ps) {i : Nat} {k : Int} {u : Value} (hi : ps[i]? = some (.int .i64 k, u)) :
    Calls Try.prog 28 #[.pointer (some ⟨p, 0, none⟩), .int .i64 k] w fun e w' => e = .returned (.tuple #[u, .bool true]) ∧ w' = w := by
  have hF := findR_at h hi
  obtain ⟨g, cap, rfl, e1⟩ := h.valAt hi
  have c2 := h.c2
  have b1 : (0 : Int) ≤ i := Int.natCast_nonneg _
  have b2 : (i : Int) < ps.length := by have := (List.getElem?_eq_some_iff.1 hi).1; omega
  clear h hi
  go_enter Try.func28, Try.ntmps28
  go_wp2_with fail
  refine hF.mono ?_
  rintro e w1 ⟨rfl, rfl⟩
  go_wp2
  go_ret2
  exact ⟨rfl, rfl⟩
set_option maxRecDepth 100000 in
theorem getR_no (h : RefAt w p most kv vv ps) {k : Int} (hn : ∀ x ∈ ps, x.1 ≠ .int .i64 k) :
    Calls Try.prog 28 #[.pointer (some ⟨p, 0, none⟩), .int .i64 k] w fun e w' => e = .returned (.tuple #[.int .i64 0, .bool false]) ∧ w' = w := by
  have hF := findR_no h hn
  clear h hn
  go_enter Try.func28, Try.ntmps28
  go_wp2_with fail
  refine hF.mono ?_
  rintro e w1 ⟨rfl, rfl⟩
  go_wp2
  go_ret2
  exact ⟨rfl, rfl⟩
set_option maxRecDepth 100000 in
set_option maxHeartbeats 1000000 in
theorem atR_no (h : RefAt w p most kv vv ps) {i : Int} (hi : ¬ (0 ≤ i ∧ i < ps.length)) :
    Calls Try.prog 29 #[.pointer (some ⟨p, 0, none⟩), .int .i64 i] w fun e w' => e = .returned (.tuple #[.int .i64 0, .int .i64 0, .int .i64 2]) ∧ w' = w := by
  obtain ⟨ga, ca, hv⟩ := own_shape h.ownK
  have c1 := h.c1
  rw [hv] at c1
  clear h hv
  by_cases h0 : i < 0
  · go_enter Try.func29, Try.ntmps29
    go_wp2
    go_ret3
    exact ⟨rfl, rfl⟩
  · have h1 : (ps.length : Int) ≤ i := by omega
    clear hi
    go_enter Try.func29, Try.ntmps29
    go_wp2
    go_ret3
    exact ⟨rfl, rfl⟩
set_option maxRecDepth 100000 in
set_option maxHeartbeats 1000000 in
theorem atR_ok (h : RefAt w p most kv vv ps) {i : Nat} {k u : Value} (hi : ps[i]? = some (k, u)) :
    Calls Try.prog 29 #[.pointer (some ⟨p, 0, none⟩), .int .i64 i] w fun e w' => e = .returned (.tuple #[k, u, .int .i64 0]) ∧ Kept (fun _ => False) w w' := by
  have c1 := h.c1
  have c2 := h.c2
  obtain ⟨g, cap, rfl, e1⟩ := h.keyAt hi
  obtain ⟨g2, cap2, rfl, e2⟩ := h.valAt hi
  have b0 : ¬ (i : Int) < 0 := by omega
  have b1 : (0 : Int) ≤ i := Int.natCast_nonneg _
  have b2 : (i : Int) < ps.length := by have := (List.getElem?_eq_some_iff.1 hi).1; omega
  clear h hi
  go_enter Try.func29, Try.ntmps29
  go_wp2_with fail
  go_quiet (fail)
  go_wp2
  go_ret3
  exact ⟨rfl, (Kept.refl _ w).drewN _⟩
set_option maxRecDepth 100000 in
theorem clearR_any (h : RefAt w p most kv vv ps) :
    Calls Try.prog 33 #[.pointer (some ⟨p, 0, none⟩)] w fun e w' => e = .returned (.tuple #[]) ∧ RTurned w w' p most kv vv [] := by
  have c1 := h.c1
  have c2 := h.c2
  have f1 := h.f1
  have f2 := h.f2
  have HE : Hid (RTurned w ((w.setCell ⟨p, 1, none⟩ (.slice none 0 0)).setCell ⟨p, 2, none⟩ (.slice none 0 0)) p most kv vv []) := by
    refine ⟨.slice none 0 0, .slice none 0 0, ⟨?_, World.ownsRow_nil _ _ _ _, World.ownsRow_nil _ _ _ _, by simp [rfoot, Value.ownBlock], by simp, by simp, fun a b x y hx => by simp at hx, by have := h.fits; simp; omega, h.most⟩, ((Kept.refl _ w).setCell _ (.inl (by simp [rfoot]))).setCell _ (.inl (by simp [rfoot])), ?_⟩
    · rw [heap_setCell_at (heap_setCell_at h.heap _)]
      rfl
    · intro b hb
      simp [rfoot, Value.ownBlock] at hb
      subst hb
      exact .inl (by simp [rfoot])
  clear h
  go_enter Try.func33, Try.ntmps33
  go_wp2
  go_end0
  exact ⟨rfl, HE.out⟩
end
end Go.Proofs.Ytoejhbecogmdbaa
