/- The document's log: Put. -/
import Derived.Test.YtoejhbecogmdbaaRefA
namespace Go.Proofs.Ytoejhbecogmdbaa
open Go.RowKit
set_option linter.unusedVariables false
set_option linter.unusedSimpArgs false

theorem Try.info2 : (Try.prog.info? 2).map (fun i => (i.zero, i.size, i.bytes)) = some (some (.int .i64 0), 1, 8) := by kernel_rfl
section
variable {w : World} {p : Nat} {most : Int} {kv vv : Value} {ps : List (Value × Value)}
theorem Apart.set {ps : List (Value × Value)} (h : Apart ps) {i : Nat} {k u x : Value} (hi : ps[i]? = some (k, u)) : Apart (ps.set i (k, x)) := by
  have key : ∀ (a : Nat) (y : Value × Value), (ps.set i (k, x))[a]? = some y → ∃ y', ps[a]? = some y' ∧ y'.1 = y.1 := by
    intro a y hy
    rw [List.getElem?_set] at hy
    split at hy
    · rename_i e1
      subst e1
      simp at hy
      obtain ⟨_, rfl⟩ := hy
      exact ⟨_, hi, rfl⟩
    · exact ⟨y, hy, rfl⟩
  intro a b y z hy hz e
  obtain ⟨y', h1, e1⟩ := key a y hy
  obtain ⟨z', h2, e2⟩ := key b z hz
  exact h a b y' z' h1 h2 (by rw [e1, e2, e])
theorem Apart.snoc {ps : List (Value × Value)} (h : Apart ps) {k x : Value} (hn : ∀ y ∈ ps, y.1 ≠ k) : Apart (ps ++ [(k, x)]) := by
  have key : ∀ (a : Nat) (y : Value × Value), (ps ++ [(k, x)])[a]? = some y → (ps[a]? = some y) ∨ (a = ps.length ∧ y.1 = k) := by
    intro a y hy
    rcases Nat.lt_or_ge a ps.length with hlt | hge
    · rw [List.getElem?_append_left hlt] at hy
      exact .inl hy
    · rw [List.getElem?_append_right hge] at hy
      obtain ⟨h0, e0⟩ := List.getElem?_eq_some_iff.1 hy
      simp at h0
      refine .inr ⟨by omega, ?_⟩
      have : a - ps.length = 0 := by omega
      simp [this] at e0
      rw [← e0]
  intro a b y z hy hz e
  rcases key a y hy with h1 | ⟨h1, k1⟩ <;> rcases key b z hz with h2 | ⟨h2, k2⟩
  · exact h a b y z h1 h2 e
  · exact absurd (e.trans k2) (hn y (List.mem_of_getElem? h1))
  · exact absurd (e.symm.trans k1) (hn z (List.mem_of_getElem? h2))
  · omega
theorem map_fst_set {ps : List (Value × Value)} {i : Nat} {k u x : Value} (hi : ps[i]? = some (k, u)) : (ps.set i (k, x)).map Prod.fst = ps.map Prod.fst := by
  obtain ⟨a, b, rfl, rfl⟩ := psplit hi
  rw [List.set_append_right _ _ (Nat.le_refl _), Nat.sub_self]
  simp
set_option maxRecDepth 100000 in
set_option maxHeartbeats 1000000 in
theorem putR_old (h : RefAt w p most kv vv ps) {i : Nat} {k : Int} {u : Value} (hi : ps[i]? = some (.int .i64 k, u)) (x : Int) :
    Calls Try.prog 26 #[.pointer (some ⟨p, 0, none⟩), .int .i64 k, .int .i64 x] w fun e w' => e = .returned (.int .i64 0) ∧ RTurned w w' p most kv vv (ps.set i (.int .i64 k, .int .i64 x)) := by
  have hF := findR_at h hi
  have hlt := (List.getElem?_eq_some_iff.1 hi).1
  obtain ⟨g, cap, rfl, e1⟩ := h.valAt hi
  have c2 := h.c2
  have f3 : w.frozen? ⟨g, i, none⟩ = false := h.ownV.frozenAt i
  have b1 : (0 : Int) ≤ i := Int.natCast_nonneg _
  have b2 : (i : Int) < ps.length := by omega
  have HE : Hid (RTurned w (w.setCell ⟨g, i, none⟩ (.int .i64 x)) p most kv (.slice (some ⟨g, 0, none⟩) ps.length cap) (ps.set i (.int .i64 k, .int .i64 x))) := by
    have n1 : p ≠ g := fun e => h.ne2 (by simp [Value.ownBlock, e])
    have n2 : kv.ownBlock ≠ some g := fun e => h.ne3 e rfl
    refine ⟨kv, .slice (some ⟨g, 0, none⟩) ps.length cap, ⟨by rw [heap_setCell_far (by simpa using n1)]; exact h.heap, ?_, ?_, h.nodup, ?_, ?_, h.apart.set hi, by simpa using h.fits, h.most⟩, (Kept.refl _ w).setCell _ (.inl (by simp [rfoot, Value.ownBlock])), fun b hb => .inl hb⟩
    · rw [List.length_set, map_fst_set hi]
      exact ownsRow_setCell_far h.ownK n2 _
    · rw [List.length_set, List.map_set]
      exact (h.ownV.stored i _).1
    · intro y hy
      rcases List.mem_or_eq_of_mem_set hy with hy | rfl
      · exact h.keys y hy
      · exact h.keys (.int .i64 k, u) (List.mem_of_getElem? hi)
    · intro y hy
      rcases List.mem_or_eq_of_mem_set hy with hy | rfl
      · exact h.vals y hy
      · exact ⟨x, rfl⟩
  clear h hi
  go_enter Try.func26, Try.ntmps26
  go_wp2_with fail
  refine hF.mono ?_
  rintro e w1 ⟨rfl, rfl⟩
  go_wp2
  go_ret
  exact ⟨rfl, HE.out⟩
set_option maxRecDepth 100000 in
set_option maxHeartbeats 1000000 in
theorem putR_full (h : RefAt w p most kv vv ps) {k : Int} (hn : ∀ x ∈ ps, x.1 ≠ .int .i64 k) (hf : (ps.length : Int) = most) (x : Int) :
    Calls Try.prog 26 #[.pointer (some ⟨p, 0, none⟩), .int .i64 k, .int .i64 x] w fun e w' => e = .returned (.int .i64 11) ∧ Kept (fun _ => False) w w' := by
  have hF := findR_no h hn
  obtain ⟨ga, ca, hv⟩ := own_shape h.ownK
  have c0 := h.c0
  have c1 := h.c1
  rw [hv] at c1
  subst hf
  clear h hn hv
  go_enter Try.func26, Try.ntmps26
  go_wp2_with fail
  refine hF.mono ?_
  rintro e w1 ⟨rfl, rfl⟩
  go_wp2_with fail
  go_quiet (fail)
  go_wp2
  go_ret
  exact ⟨rfl, (Kept.refl _ w1).drewN _⟩

/-- A pair is laid behind the others: the key's row first, then the value's. -/
theorem RefAt.snoc (h : RefAt w p most kv vv ps) {k x : Int} (hk : (Lit.int .i64 k).wf = true) (hn : ∀ y ∈ ps, y.1 ≠ .int .i64 k) (hr : (ps.length : Int) < most)
    {w1 w2 w3 w4 : World} {g1 cap1 g2 cap2 : Nat} (k1 : Kept (fun _ => False) w w1) (hg1 : w1.grownBy w2 kv.ownBlock) (ho1 : w2.ownsRow 0 3 1 (.slice (some ⟨g1, 0, none⟩) (ps.length + 1) cap1) (ps.length + 1) (ps.map Prod.fst ++ [.int .i64 k])) (ha1 : kv.ownBlock = some g1 ∨ w.heap.size ≤ g1)
    (k3 : Kept (fun _ => False) (w2.setCell ⟨p, 1, none⟩ (.slice (some ⟨g1, 0, none⟩) (ps.length + 1) cap1)) w3) (hg2 : w3.grownBy w4 vv.ownBlock) (ho2 : w4.ownsRow 0 2 1 (.slice (some ⟨g2, 0, none⟩) (ps.length + 1) cap2) (ps.length + 1) (ps.map Prod.snd ++ [.int .i64 x])) (ha2 : vv.ownBlock = some g2 ∨ w2.heap.size ≤ g2) :
    RTurned w (w4.setCell ⟨p, 2, none⟩ (.slice (some ⟨g2, 0, none⟩) (ps.length + 1) cap2)) p most kv vv (ps ++ [(.int .i64 k, .int .i64 x)]) := by
  have hp := lt_of_heap h.heap
  have hs2 : w.heap.size ≤ w2.heap.size := Nat.le_trans k1.size hg1.size
  have hp2 : w2.heap[p]? = some (.cells #[.int .i64 most, kv, vv] 38 (0, 0)) := by
    rw [hg1.block p (Nat.lt_of_lt_of_le hp k1.size) (fun e => h.ne1 e.symm), k1.block p hp (fun f => f)]
    exact h.heap
  have hp4 : w4.heap[p]? = some (.cells #[.int .i64 most, .slice (some ⟨g1, 0, none⟩) (ps.length + 1) cap1, vv] 38 (0, 0)) := by
    rw [hg2.block p (Nat.lt_of_lt_of_le (lt_of_heap hp2) (by have := k3.size; rwa [size_setCell] at this)) (fun e => h.ne2 e.symm), k3.block p (by rw [size_setCell]; exact lt_of_heap hp2) (fun f => f), heap_setCell_at hp2]
    rfl
  have n1 : g1 ≠ p := by
    rcases ha1 with ha | ha
    · exact fun e => h.ne1 (e ▸ ha)
    · omega
  have n2 : g2 ≠ p := by
    rcases ha2 with ha | ha
    · exact fun e => h.ne2 (e ▸ ha)
    · have := lt_of_heap hp2; omega
  have hg1l : g1 < w2.heap.size := (ho1.lt g1 rfl).2
  have n3 : g1 ≠ g2 := by
    rcases ha2 with ha | ha
    · rcases ha1 with hb | hb
      · exact fun e => h.ne3 hb (e ▸ ha)
      · have := (h.ownV.lt g2 ha).2
        omega
    · omega
  have n4 : vv.ownBlock ≠ some g1 := by
    rcases ha1 with hb | hb
    · exact h.ne3 hb
    · intro e
      have := (h.ownV.lt g1 e).2
      omega
  have hK4 : Kept (fun b => b ∈ rfoot p kv vv) w w4 := by
    have a1 := (k1.calm (F := fun b => b ∈ rfoot p kv vv)).grown hg1 (fun b hb => .inl (by simp [rfoot, hb]))
    have a2 := (a1.setCell (p := ⟨p, 1, none⟩) (.slice (some ⟨g1, 0, none⟩) (ps.length + 1) cap1) (.inl (by simp [rfoot]))).trans k3 (fun _ _ f => f.elim)
    exact a2.grown hg2 (fun b hb => .inl (by simp [rfoot, hb]))
  refine ⟨.slice (some ⟨g1, 0, none⟩) (ps.length + 1) cap1, .slice (some ⟨g2, 0, none⟩) (ps.length + 1) cap2, ⟨by rw [heap_setCell_at hp4]; rfl, ?_, ?_, ?_, ?_, ?_, h.apart.snoc hn, by simp; omega, h.most⟩, hK4.setCell _ (.inl (by simp [rfoot])), ?_⟩
  · rw [List.length_append, List.map_append]
    have a1 := ownsRow_setCell_far ho1 (a := ⟨p, 1, none⟩) (by simpa [Value.ownBlock] using n1) (.slice (some ⟨g1, 0, none⟩) (ps.length + 1) cap1)
    have a2 : w4.ownsRow 0 3 1 (.slice (some ⟨g1, 0, none⟩) (ps.length + 1) cap1) (ps.length + 1) (ps.map Prod.fst ++ [.int .i64 k]) := own_loc a1 (fun b hb => by
      simp [Value.ownBlock] at hb
      subst hb
      rw [hg2.block g1 (Nat.lt_of_lt_of_le hg1l (by have := k3.size; rwa [size_setCell] at this)) (fun e => n4 e.symm), k3.block g1 (by rw [size_setCell]; exact hg1l) (fun f => f)])
    exact ownsRow_setCell_far a2 (a := ⟨p, 2, none⟩) (by simpa [Value.ownBlock] using n1) _
  · rw [List.length_append, List.map_append]
    exact ownsRow_setCell_far ho2 (a := ⟨p, 2, none⟩) (by simpa [Value.ownBlock] using n2) _
  · simp [rfoot, Value.ownBlock]
    exact ⟨⟨n1.symm, n2.symm⟩, n3⟩
  · intro y hy
    rcases List.mem_append.1 hy with hy | hy
    · exact h.keys y hy
    · rw [List.mem_singleton.1 hy]; exact ⟨k, rfl, hk⟩
  · intro y hy
    rcases List.mem_append.1 hy with hy | hy
    · exact h.vals y hy
    · rw [List.mem_singleton.1 hy]; exact ⟨x, rfl⟩
  · intro b hb
    simp [rfoot, Value.ownBlock] at hb
    rcases hb with rfl | rfl | rfl
    · exact .inl (by simp [rfoot])
    · rcases ha1 with ha | ha
      · exact .inl (by simp [rfoot, ha])
      · exact .inr ha
    · rcases ha2 with ha | ha
      · exact .inl (by simp [rfoot, ha])
      · exact .inr (Nat.le_trans hs2 ha)
set_option maxRecDepth 100000 in
set_option maxHeartbeats 1000000 in
theorem putR_new (h : RefAt w p most kv vv ps) {k : Int} (hk : (Lit.int .i64 k).wf = true) (hn : ∀ x ∈ ps, x.1 ≠ .int .i64 k) (hf : (ps.length : Int) < most) (x : Int) :
    Calls Try.prog 26 #[.pointer (some ⟨p, 0, none⟩), .int .i64 k, .int .i64 x] w fun e w' => e = .returned (.int .i64 0) ∧ RTurned w w' p most kv vv (ps ++ [(.int .i64 k, .int .i64 x)]) := by
  obtain ⟨i0, hi0, hz0, hz1, hz2⟩ := info_parts Try.info3
  obtain ⟨i2, hi2, hy0, hy1, hy2⟩ := info_parts Try.info2
  have hF := findR_no h hn
  obtain ⟨ga, ca, hv⟩ := own_shape h.ownK
  have c0 := h.c0
  have c1 := h.c1
  have hsm := h.small
  have hlt : ¬ (most ≤ (ps.length : Int)) := by omega
  subst hv
  go_enter Try.func26, Try.ntmps26
  go_wp2_with fail
  refine hF.mono ?_
  rintro e w1 ⟨rfl, rfl⟩
  clear hF
  go_wp2_with fail
  go_quiet (fail)
  have k1 := (Kept.refl (fun _ => False) w1).drewN nq
  have h1 := h.calm k1
  have H1 : Hid (RefAt (w1.drewN nq) p most (.slice ga ps.length ca) vv ps ∧ (∀ x ∈ ps, x.1 ≠ .int .i64 k) ∧ (ps.length : Int) < most ∧ Kept (fun _ => False) w1 (w1.drewN nq)) := ⟨h1, hn, hf, k1⟩
  clear h hn hf c0 c1 k1
  generalize w1.drewN nq = w2 at *
  have c1 := h1.c1
  have ho := h1.ownK.alloc (.cells #[.int .i64 k] 3)
  clear h1
  have hfz : ∀ w3, (w2.alloc (.cells #[.int .i64 k] 3)).grownBy w3 (Value.slice ga ps.length ca).ownBlock → w3.heap[p]? = some (.cells #[.int .i64 most, .slice ga ps.length ca, vv] 38 (0, 0)) := fun w3 hg =>
    (hg.block p (by have := lt_of_heap H1.out.1.heap; simp; omega) (fun e => H1.out.1.ne1 e.symm)).trans ((Below.heap_alloc w2 _ p (lt_of_heap H1.out.1.heap)).trans H1.out.1.heap)
  have hvz : ∀ w3 V, (w2.alloc (.cells #[.int .i64 k] 3)).grownBy w3 (Value.slice ga ps.length ca).ownBlock → (w3.setCell ⟨p, 1, none⟩ V).ownsRow 0 2 1 vv ps.length (ps.map Prod.snd) := fun w3 V hg =>
    ownsRow_setCell_far (own_loc H1.out.1.ownV (fun b hb => (hg.block b (by have := (H1.out.1.ownV.lt b hb).2; simp; omega) (fun e => H1.out.1.ne3 e.symm hb)).trans (Below.heap_alloc w2 _ b (H1.out.1.ownV.lt b hb).2))) H1.out.1.ne2 V
  have hxz : ∀ w3 V w4, (w2.alloc (.cells #[.int .i64 k] 3)).grownBy w3 (Value.slice ga ps.length ca).ownBlock → ((w3.setCell ⟨p, 1, none⟩ V).alloc (.cells #[.int .i64 x] 2)).grownBy w4 vv.ownBlock → w4.heap[p]? = some (.cells #[.int .i64 most, V, vv] 38 (0, 0)) := fun w3 V w4 hg hg' => by
    have a1 := hfz w3 hg
    have a2 : (w3.setCell ⟨p, 1, none⟩ V).heap[p]? = some (.cells #[.int .i64 most, V, vv] 38 (0, 0)) := by rw [heap_setCell_at a1]; rfl
    exact (hg'.block p (by have := lt_of_heap a2; rw [alloc_size]; omega) (fun e => H1.out.1.ne2 e.symm)).trans ((Below.heap_alloc _ _ p (lt_of_heap a2)).trans a2)
  have HX : Hid (∀ w3 V w4, (w2.alloc (.cells #[.int .i64 k] 3)).grownBy w3 (Value.slice ga ps.length ca).ownBlock → ((w3.setCell ⟨p, 1, none⟩ V).alloc (.cells #[.int .i64 x] 2)).grownBy w4 vv.ownBlock → w4.heap[p]? = some (.cells #[.int .i64 most, V, vv] 38 (0, 0))) := hxz
  clear hxz
  have HZ : Hid ((∀ w3, (w2.alloc (.cells #[.int .i64 k] 3)).grownBy w3 (Value.slice ga ps.length ca).ownBlock → w3.heap[p]? = some (.cells #[.int .i64 most, .slice ga ps.length ca, vv] 38 (0, 0))) ∧ ∀ w3 V, (w2.alloc (.cells #[.int .i64 k] 3)).grownBy w3 (Value.slice ga ps.length ca).ownBlock → (w3.setCell ⟨p, 1, none⟩ V).ownsRow 0 2 1 vv ps.length (ps.map Prod.snd)) := ⟨hfz, hvz⟩
  clear hfz hvz
  go_wp2_with (first
    | (at_builtin; refine wpList_append_lies _ rfl (.tmp 34) (.tmp 36) 35 rfl 0 3 i0 _ 1 8 Try.underlying35 hi0 hz0 hz1 hz2 rfl (by omega) (.slice ga ps.length ca) ps.length (ps.map Prod.fst) rfl ho ⟨w2.heap.size, 0, none⟩ 1 1 [.int .i64 k] rfl rfl (World.news_of_block (cs := #[.int .i64 k]) (t := 3) (fr := (0, 0)) (heap_alloc_new w2 _)) (by simp [Value.oneCell']) (by omega) (by unfold maxLen; omega) (by omega) (by simp) (w2.heap.size + 1) (by simp) ?_; intro g cap w3 ho3 hg3 ha3 hl3; have c3 : w3.cell? ⟨p, 1, none⟩ = some (.slice ga ps.length ca) := cell_of_heap (HZ.out.1 w3 hg3); have f3 : w3.frozen? ⟨p, 1, none⟩ = false := frozen_of_heap (HZ.out.1 w3 hg3); have c4 : w3.cell? ⟨p, 2, none⟩ = some vv := cell_of_heap (HZ.out.1 w3 hg3))
    | (at_builtin; refine wpList_append_lies _ rfl (.tmp 44) (.tmp 46) 36 rfl 0 2 i2 _ 1 8 Try.underlying36 hi2 hy0 hy1 hy2 rfl (by omega) vv ps.length (ps.map Prod.snd) rfl ((HZ.out.2 w3 (.slice (some ⟨g, 0, none⟩) (ps.length + 1) cap) hg3).alloc (.cells #[.int .i64 x] 2)) ⟨w3.heap.size, 0, none⟩ 1 1 [.int .i64 x] rfl rfl (by have := World.news_of_block (cs := #[.int .i64 x]) (t := 2) (fr := (0, 0)) (heap_alloc_new (w3.setCell ⟨p, 1, none⟩ (.slice (some ⟨g, 0, none⟩) (ps.length + 1) cap)) (.cells #[.int .i64 x] 2)); rwa [size_setCell] at this) (by simp [Value.oneCell']) (by omega) (by unfold maxLen; omega) (by omega) (by simp) (w3.heap.size + 1) (by simp [size_setCell]) ?_; intro g2 cap2 w4 ho4 hg4 ha4 hl4; have c5 : w4.cell? ⟨p, 2, none⟩ = some vv := cell_of_heap (HX.out w3 _ w4 hg3 hg4); have f5 : w4.frozen? ⟨p, 2, none⟩ = false := frozen_of_heap (HX.out w3 _ w4 hg3 hg4)))
  go_ret
  refine ⟨rfl, RTurned.after H1.out.2.2.2 (H1.out.1.snoc hk H1.out.2.1 H1.out.2.2.1 (kept_alloc w2 _) hg3 ho3 (ha3.imp_right fun e => ?_) (kept_alloc _ _) hg4 ho4 (ha4.imp_right fun e => ?_))⟩
  · omega
  · omega
end
end Go.Proofs.Ytoejhbecogmdbaa
