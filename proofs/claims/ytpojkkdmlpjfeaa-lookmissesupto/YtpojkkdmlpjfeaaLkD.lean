/- Looks: what is made; looks among other things. -/
import Derived.Test.YtpojkkdmlpjfeaaLkC
namespace Go.Proofs.Ytpojkkdmlpjfeaa
open Go.RowKit
set_option linter.unusedVariables false
set_option linter.unusedSimpArgs false
attribute [local go_sem ↓] Go.wp_at_zero Go.wp_at_succ

section
variable {o w : World} {its R : List It} {A : Ad} {c : Cfg} {z : SSt} {v u : Value} {K t : Nat} {k : Lk} {vl vd vv : Value}
set_option maxRecDepth 100000 in
set_option maxHeartbeats 1000000 in
theorem lkNew_out (h : St o its w) (i : Nat) (hi : its[i]? = some (spI A c z v u)) (s : Int) (wr : Sg) (hs : inT z.hs.length s = false) :
    Calls Try.prog 9 #[spp A, .int .i64 s, wr.val] w fun e w' => e = .returned (.tuple #[.pointer none, .int .i64 2]) ∧ St o its w' := by
  have h0 := h.alloc (.cells #[.int .u64 wr.lo, .int .u64 wr.hi] 24)
  have hSl := spSlots h0 i hi
  have hH := lkHas h0 i hi s
  rw [hs] at hH
  have HF : Hid (St o its (w.alloc (.cells #[.int .u64 wr.lo, .int .u64 wr.hi] 24))) := h0
  unfold spp Sg.val at *
  clear h h0 hi
  go_enter Try.func9, Try.ntmps9
  go_wp2_with (first | (go_at_call 19; refine hSl.mono ?_; rintro e wq ⟨rfl, rfl⟩) | (go_at_call 31; refine hH.mono ?_; rintro e wq ⟨rfl, rfl⟩))
  go_ret2
  exact ⟨rfl, HF.out⟩

set_option maxRecDepth 100000 in
set_option maxHeartbeats 1000000 in
theorem lkNew_st (h : St o its w) (i : Nat) (hi : its[i]? = some (spI A c z v u)) (s : Nat) (wr : Sg) (hs : s < z.hs.length) (h8 : z.hs.length ≤ 8) :
    Calls Try.prog 9 #[spp A, .int .i64 s, wr.val] w fun e w' => ∃ K vl, e = .returned (.tuple #[.pointer (some ⟨K, 0, none⟩), .int .i64 0]) ∧ St o (lkI K A.t (Lk.new wr z.hs.length s) vl (.slice none 0 0) (.slice none 0 0) :: its) w' := by
  have h0 := h.alloc (.cells #[.int .u64 wr.lo, .int .u64 wr.hi] 24)
  have hb := h.box #[.int .u64 wr.lo, .int .u64 wr.hi] 24
  have hSl := spSlots h0 i hi
  have hH := lkHas h0 i hi s
  rw [show inT z.hs.length (s : Int) = true from by unfold inT; rw [decide_eq_true (Int.natCast_nonneg s), decide_eq_true (by omega : (s : Int) < z.hs.length)]; rfl] at hH
  unfold spp Sg.val at *
  have HL : Hid (∀ W, Kept (fun _ => False) (w.alloc (.cells #[.int .u64 wr.lo, .int .u64 wr.hi] 24)) W → Calls Try.prog 29 #[.pointer (some ⟨A.t, 0, none⟩)] W fun e w' => e = .returned (.int .i64 z.hs.length) ∧ w' = W) := fun W kk => spLen (h0.calm kk) i hi
  have HO : Hid (∀ W, Calls Try.prog 32 #[.int .i64 (z.hs.length : Nat), .int .i64 s] W fun e w' => ∃ v, e = .returned v ∧ w'.ownsRow W.heap.size 3 1 v (othersOf z.hs.length s).length (cellsOf (othersOf z.hs.length s)) ∧ Kept (fun _ => False) W w') := fun W => lkOthers z.hs.length s h8 W
  have HF : Hid (∀ W W' v', Kept (fun _ => False) (w.alloc (.cells #[.int .u64 wr.lo, .int .u64 wr.hi] 24)) W → W'.ownsRow W.heap.size 3 1 v' (othersOf z.hs.length s).length (cellsOf (othersOf z.hs.length s)) → Kept (fun _ => False) W W' → St o (lkI W'.heap.size A.t (Lk.new wr z.hs.length s) v' (.slice none 0 0) (.slice none 0 0) :: its) (W'.alloc (.cells #[.pointer (some ⟨A.t, 0, none⟩), .int .u64 wr.lo, .int .u64 wr.hi, v', .bool false, .int .i64 0, .int .i64 0, .int .i64 0, .int .i64 0, .slice none 0 0, .slice none 0 0] 93))) := by
    intro W W' v' k1 p k2
    have a0 := (h0.calm k1).push (ownI 48 4 (.slice none 0 0) 0 []) (Kept.refl _ _) (World.ownsRow_nil _ _ _ _) (own_nodup (.slice none 0 0)) (fun b hb => by simp [ownI, Value.ownBlock] at hb)
    have a1 := a0.push (ownI 22 1 (.slice none 0 0) 0 []) (Kept.refl _ _) (World.ownsRow_nil _ _ _ _) (own_nodup (.slice none 0 0)) (fun b hb => by simp [ownI, Value.ownBlock] at hb)
    have a2 := a1.own k2 p
    have a3 := a2.box #[.pointer (some ⟨A.t, 0, none⟩), .int .u64 wr.lo, .int .u64 wr.hi, v', .bool false, .int .i64 0, .int .i64 0, .int .i64 0, .int .i64 0, .slice none 0 0, .slice none 0 0] 93
    have a4 := a3.ownTail 1 rfl
    exact St.unite (l := lkL W'.heap.size A.t (Lk.new wr z.hs.length s) v' (.slice none 0 0) (.slice none 0 0)) a4
  have HC : Hid (∀ W, Kept (fun _ => False) (w.alloc (.cells #[.int .u64 wr.lo, .int .u64 wr.hi] 24)) W → W.cell? ⟨w.heap.size, 0, none⟩ = some (.int .u64 wr.lo) ∧ W.cell? ⟨w.heap.size, 1, none⟩ = some (.int .u64 wr.hi)) := fun W kk => ⟨(hb.calm kk).cell 0 rfl 0, (hb.calm kk).cell 0 rfl 1⟩
  have HI : Hid (Lk.new wr z.hs.length s = Lk.new wr z.hs.length s) := rfl
  clear h h0 hi hb HI
  generalize Lk.new wr z.hs.length s = LN at *
  generalize othersOf z.hs.length s = OT at *
  generalize z.hs.length = nn at *
  obtain ⟨g0, g1⟩ := wr
  simp only at *
  go_enter Try.func9, Try.ntmps9
  go_upto_region 1 with fail
  generalize w.alloc (.cells #[.int .u64 g0, .int .u64 g1] 24) = w1 at *
  generalize w.heap.size = F at *
  go_upto_region 4 with (first | (go_at_call 19; refine hSl.mono ?_; rintro e wq ⟨rfl, rfl⟩) | (go_at_call 31; refine hH.mono ?_; rintro e wq ⟨rfl, rfl⟩))
  clear hSl hH
  have hl := HL.out _ (Kept.refl _ _).drew
  obtain ⟨d0, d1⟩ := HC.out _ (Kept.refl _ _)
  have ho := HO.out
  go_region_with (first | (go_at_call 29; refine hl.mono ?_; rintro e wq ⟨rfl, rfl⟩) | (go_at_call 32; refine (ho _).mono ?_; rintro e w3 ⟨v', rfl, ho', hk⟩; obtain ⟨la, lc, rfl⟩ := own_form (own_zero ho'); obtain ⟨e0, e1⟩ := HC.out _ hk.ofDrew))
  all_goals (go_wp2; go_ret2; exact ⟨_, _, rfl, HF.out _ _ _ (Kept.refl _ _).drew ho' hk⟩)

/-- Looks among other things. -/
theorem lkStep (h : St o its w) (i j : Nat) (hij : i ≠ j) (hi : its[i]? = some (spI A c z v u)) (hj : its[j]? = some (lkI K A.t k vl vd vv)) {n : Nat} (ok : z.ok c n) (hn : n ≤ 4611686018427) (hk : k.fit) (hw : WsOk z.ws) :
    Calls Try.prog 12 #[.pointer (some ⟨K, 0, none⟩)] w fun e w' => e = .returned (.int .i64 k.ans) ∧ ∃ v' vl' vd' vv', St o ((its.set i (spI A c (z.looks k) v' u)).set j (lkI K A.t (k.next z) vl' vd' vv')) w' := by
  obtain ⟨i', hi', hs'⟩ := erase_get hij hi
  refine (lkStep0 (h.open j hj) i' hi' ok hn hk hw).mono ?_
  rintro e w' ⟨he, v', vl', vd', vv', h'⟩
  rw [hs'] at h'
  exact ⟨he, v', vl', vd', vv', St.shut (l := lkL K A.t (k.next z) vl' vd' vv') (set_other hj hij) h'⟩
theorem lkDone (h : St o its w) (j : Nat) (hj : its[j]? = some (lkI K t k vl vd vv)) :
    Calls Try.prog 11 #[.pointer (some ⟨K, 0, none⟩)] w fun e w' => e = .returned (.bool (decide (k.left = []))) ∧ w' = w := lkDone0 (h.open j hj)
theorem lkVictims (h : St o its w) (j : Nat) (hj : its[j]? = some (lkI K t k vl vd vv)) (hk : k.vs.length ≤ 8) :
    Calls Try.prog 13 #[.pointer (some ⟨K, 0, none⟩)] w fun e w' => ∃ v', e = .returned v' ∧ St o (ownI 48 4 v' k.vs.length (vtCells k.vs) :: its) w' := by
  refine (lkVictims0 (h.open j hj) hk).mono ?_
  rintro e w' ⟨v', he, p, kk⟩
  exact ⟨v', he, h.own kk p⟩
end
end Go.Proofs.Ytpojkkdmlpjfeaa
