/- Parse: what was given up is caught at the face. -/
import Derived.Test.YtcchflfeomainaaGreatDoorPsF
import Derived.Defers
import Derived.Recover
namespace Go.Proofs.YtcchflfeomainaaGreatDoor
open Go.RowKit
set_option linter.unusedVariables false
set_option linter.unusedSimpArgs false
attribute [local go_sem ↓] Go.wp_at_zero Go.wp_at_succ

theorem assert_gave (l e : Int) (w : World) : (Instr.typeAssert (.iface 100 (.agg #[.int .i64 l, .int .i64 e])) 20 100 true).run Tryz.prog w = .ok (.tuple #[.agg #[.int .i64 l, .int .i64 e], .bool true]) w := by kernel_rfl
theorem assert_none (w : World) : (Instr.typeAssert .nilIface 20 100 true).run Tryz.prog w = .ok (.tuple #[.agg #[.int .i64 0, .int .i64 0], .bool false]) w := by kernel_rfl
set_option maxRecDepth 100000 in
set_option maxHeartbeats 1000000 in
theorem catch_gave (a b c : Nat) (l e : Int) (w : World) (va vb vc : Value) (ha : w.heap[a]? = some (.cells #[va] 23 (0, 0))) (hb : w.heap[b]? = some (.cells #[vb] 3 (0, 0))) (hc : w.heap[c]? = some (.cells #[vc] 25 (0, 0))) (hab : a ≠ b) (hac : a ≠ c) (hbc : b ≠ c) :
    CallsD Tryz.prog 45 #[.pointer (some ⟨a, 0, none⟩), .pointer (some ⟨b, 0, none⟩), .pointer (some ⟨c, 0, none⟩)] (.panicking [{ v := .iface 100 (.agg #[.int .i64 l, .int .i64 e]), recovered := false }]) w fun x u' w' =>
      x = .returned (.tuple #[]) ∧ u' = .panicking [{ v := .iface 100 (.agg #[.int .i64 l, .int .i64 e]), recovered := true }] ∧ (w'.cell? ⟨a, 0, none⟩ = some (.slice none 0 0) ∧ w'.cell? ⟨b, 0, none⟩ = some (.int .i64 l) ∧ w'.cell? ⟨c, 0, none⟩ = some (.int .i64 e)) ∧ Kept (fun k => k = a ∨ k = b ∨ k = c) w w' := by
  refine callsD_of_wpS Tryz.func45 rfl fun c₀ cs hu => ?_
  apply wpS_seq
  apply wpS_region
  simp [wpOpsS, go_sem, recoverD, hu, Tryz.ntmps45, Exit.thenS, assert_gave, Array.replicate, List.replicate]
  have la := lt_of_heap ha
  have lb := lt_of_heap hb
  have lc := lt_of_heap hc
  have hA := (Below.heap_alloc w (.cells #[.int .i64 l, .int .i64 e] 100) a la).trans ha
  have hB := (Below.heap_alloc w (.cells #[.int .i64 l, .int .i64 e] 100) b lb).trans hb
  have hC := (Below.heap_alloc w (.cells #[.int .i64 l, .int .i64 e] 100) c lc).trans hc
  have hF : (w.alloc (.cells #[.int .i64 l, .int .i64 e] 100)).heap[w.heap.size]? = some (.cells #[.int .i64 l, .int .i64 e] 100 (0, 0)) := heap_alloc_new _ _
  have HK : Hid (Kept (fun k => k = a ∨ k = b ∨ k = c) w (w.alloc (.cells #[.int .i64 l, .int .i64 e] 100))) := (Kept.refl _ w).alloc _
  have na : a ≠ w.heap.size := by omega
  have nb : b ≠ w.heap.size := by omega
  have nc : c ≠ w.heap.size := by omega
  generalize w.alloc (.cells #[.int .i64 l, .int .i64 e] 100) = W at *
  generalize w.heap.size = M at *
  have ca : W.cell? ⟨a, 0, none⟩ = some va := cell_of_heap hA
  have cb : W.cell? ⟨b, 0, none⟩ = some vb := cell_of_heap hB
  have cc : W.cell? ⟨c, 0, none⟩ = some vc := cell_of_heap hC
  have fa : W.frozen? ⟨a, 0, none⟩ = false := frozen_of_heap hA
  have fb : W.frozen? ⟨b, 0, none⟩ = false := frozen_of_heap hB
  have fc : W.frozen? ⟨c, 0, none⟩ = false := frozen_of_heap hC
  have f0 : W.cell? ⟨M, 0, none⟩ = some (.int .i64 l) := cell_of_heap hF
  have f1 : W.cell? ⟨M, 1, none⟩ = some (.int .i64 e) := cell_of_heap hF
  clear hA hB hC hF ha hb hc la lb lc
  refine wpS_of_wp ?_
  go_wp2_with fail
  go_region
  have q1 : (((W.setCell ⟨a, 0, none⟩ (.slice none 0 0)).setCell ⟨b, 0, none⟩ (.int .i64 l)).setCell ⟨c, 0, none⟩ (.int .i64 e)).cell? ⟨a, 0, none⟩ = some (.slice none 0 0) := by
    rw [World.cell?_of_block (heap_setCell_far (by simpa using hac)), World.cell?_of_block (heap_setCell_far (by simpa using hab))]
    exact World.cell?_setCell_same _ _ _ ca
  have q2 : (((W.setCell ⟨a, 0, none⟩ (.slice none 0 0)).setCell ⟨b, 0, none⟩ (.int .i64 l)).setCell ⟨c, 0, none⟩ (.int .i64 e)).cell? ⟨b, 0, none⟩ = some (.int .i64 l) := by
    rw [World.cell?_of_block (heap_setCell_far (by simpa using hbc))]
    exact World.cell?_setCell_same _ _ _ (u := vb) (by rw [World.cell?_of_block (heap_setCell_far (by simpa using hab.symm)), cb])
  have q3 : (((W.setCell ⟨a, 0, none⟩ (.slice none 0 0)).setCell ⟨b, 0, none⟩ (.int .i64 l)).setCell ⟨c, 0, none⟩ (.int .i64 e)).cell? ⟨c, 0, none⟩ = some (.int .i64 e) :=
    World.cell?_setCell_same _ _ _ (u := vc) (by rw [World.cell?_of_block (heap_setCell_far (by simpa using hbc.symm)), World.cell?_of_block (heap_setCell_far (by simpa using hac.symm)), cc])
  have qk := (((HK.out.setCell (p := ⟨a, 0, none⟩) (.slice none 0 0) (.inl (.inl rfl))).setCell (p := ⟨b, 0, none⟩) (.int .i64 l) (.inl (.inr (.inl rfl)))).setCell (p := ⟨c, 0, none⟩) (.int .i64 e) (.inl (.inr (.inr rfl)))).drew
  exact ⟨rfl, _, rfl, .tuple #[], results_none rfl _ _ _, rfl, rfl, ⟨q1, q2, q3⟩, qk⟩
set_option maxRecDepth 100000 in
set_option maxHeartbeats 1000000 in
theorem catch_idle (a b c : Nat) (w : World) :
    CallsD Tryz.prog 45 #[.pointer (some ⟨a, 0, none⟩), .pointer (some ⟨b, 0, none⟩), .pointer (some ⟨c, 0, none⟩)] .returning w fun x u' w' => x = .returned (.tuple #[]) ∧ u' = .returning ∧ Kept (fun _ => False) w w' := by
  refine callsD_of_wpS Tryz.func45 rfl fun c₀ cs hu => ?_
  apply wpS_seq
  apply wpS_region
  simp [wpOpsS, go_sem, recoverD, hu, Tryz.ntmps45, Exit.thenS, assert_none, Array.replicate, List.replicate]
  refine wpS_of_wp ?_
  go_wp2
  have qk : Kept (fun _ => False) w (w.alloc (.cells #[.int .i64 0, .int .i64 0] 100)) := kept_alloc _ _
  refine ⟨rfl, .returning, ?_, .tuple #[], results_none rfl _ _ _, rfl, rfl, qk⟩
  cases c₀
  simp_all
theorem St.rebase {o o' w w' : World} {its : List It} (h : St o' its w) (hk : Kept (fun k => o.heap.size ≤ k) o w') (hs : o.heap.size ≤ o'.heap.size) (hl : ∀ k, o'.heap.size ≤ k → k < w.heap.size → w'.heap[k]? = w.heap[k]?) : St o its w' :=
  ⟨h.nodup, fun i hi => i.loc w w' (fun k hk => hl k (h.high i hi k hk) (i.old w (h.all i hi) k hk)) (h.all i hi), fun i hi b hb => Nat.le_trans hs (h.high i hi b hb), hk⟩
/-- What Parse answers. -/
def pAns (r : Except (Int × Int) (List Ins)) (la : Option Addr) (lc : Nat) : Value :=
  match r with
  | .error (l, e) => .tuple #[.slice none 0 0, .int .i64 l, .int .i64 e]
  | .ok l => .tuple #[.slice la l.length lc, .int .i64 0, .int .i64 0]
set_option maxRecDepth 100000 in
set_option maxHeartbeats 1000000 in
theorem Parse_any (s : ByteArray) (w : World) (hE : Env w) (hP : PlainT s) (hs63 : s.size ≤ 9223372036854775807) :
    Calls Tryz.prog 23 #[.string s] w fun e w' => match parseM s with
      | .error (l, x) => e = .returned (.tuple #[.slice none 0 0, .int .i64 l, .int .i64 x]) ∧ Kept (fun _ => False) w w'
      | .ok l => ∃ lv, e = .returned (.tuple #[lv, .int .i64 0, .int .i64 0]) ∧ St w [ownI 48 2 lv l.length (insCells l)] w' := by
  have hmf : ∀ (fn : Fn) (first cap : Array Value) (w : World), (Instr.makeFunc fn first cap).run Tryz.prog w = .ok (.func fn first cap) w := fun _ _ _ _ => rfl
  have k0 : Kept (fun _ => False) w (((w.alloc (.cells #[.slice none 0 0] 23)).alloc (.cells #[.int .i64 0] 3)).alloc (.cells #[.int .i64 0] 25)) := ((kept_alloc w _).alloc _).alloc _
  have hp := parse_any s _ (hE.kept k0) hP hs63
  have HB : Hid ((∀ W, Kept (fun _ => False) (((w.alloc (.cells #[.slice none 0 0] 23)).alloc (.cells #[.int .i64 0] 3)).alloc (.cells #[.int .i64 0] 25)) W → W.heap[w.heap.size]? = some (.cells #[.slice none 0 0] 23 (0, 0))) ∧ (∀ W, Kept (fun _ => False) (((w.alloc (.cells #[.slice none 0 0] 23)).alloc (.cells #[.int .i64 0] 3)).alloc (.cells #[.int .i64 0] 25)) W → W.heap[w.heap.size + 1]? = some (.cells #[.int .i64 0] 3 (0, 0))) ∧ (∀ W, Kept (fun _ => False) (((w.alloc (.cells #[.slice none 0 0] 23)).alloc (.cells #[.int .i64 0] 3)).alloc (.cells #[.int .i64 0] 25)) W → W.heap[w.heap.size + 1 + 1]? = some (.cells #[.int .i64 0] 25 (0, 0)))) := by
    have s3 := (((St.nil w).box #[.slice none 0 0] 23).box #[.int .i64 0] 3).box #[.int .i64 0] 25
    rw [alloc_size, alloc_size] at s3
    exact ⟨fun W k => (s3.calm k).get 2 rfl, fun W k => (s3.calm k).get 1 rfl, fun W k => (s3.calm k).get 0 rfl⟩
  generalize parseM s = X at *
  cases X with
  | error le =>
    obtain ⟨l, x⟩ := le
    simp only [Res] at hp ⊢
    go_enter_defers Tryz.func23, Tryz.ntmps23
    go_wp2_with (go_at_call 46; refine hp.mono ?_; rintro e w1 ⟨rfl, k1⟩)
    have ha : w1.heap[w.heap.size]? = some (.cells #[.slice none 0 0] 23 (0, 0)) := (HB.out.1 w1 k1)
    have hb : w1.heap[w.heap.size + 1]? = some (.cells #[.int .i64 0] 3 (0, 0)) := (HB.out.2.1 w1 k1)
    have hc : w1.heap[w.heap.size + 1 + 1]? = some (.cells #[.int .i64 0] 25 (0, 0)) := (HB.out.2.2 w1 k1)
    have HK := hid (k0.trans k1 (fun _ _ f => f))
    refine leaves_cons (f := 45) (args := #[.pointer (some ⟨w.heap.size, 0, none⟩), .pointer (some ⟨w.heap.size + 1, 0, none⟩), .pointer (some ⟨w.heap.size + 1 + 1, 0, none⟩)]) (by simp) (by simp [go_sem]) ?_
    refine (catch_gave w.heap.size (w.heap.size + 1) (w.heap.size + 1 + 1) l x w1 _ _ _ ha hb hc (by omega) (by omega) (by omega)).mono ?_
    rintro e u' w2 ⟨rfl, rfl, ⟨q1, q2, q3⟩, k2⟩
    have HK2 := hid (HK.out.trans k2 (fun i hi f => by omega))
    simp [Leaves, settle, results, Tryz.results23, go_sem, q1, q2, q3]
    exact HK2.out
  | ok l =>
    simp only [Res] at hp ⊢
    go_enter_defers Tryz.func23, Tryz.ntmps23
    go_wp2_with fail
    refine hp.mono ?_
    rintro e w1 ⟨lv, rfl, s1⟩
    obtain ⟨la, lc, rfl, _⟩ := own_iin (show w1.ownsRow 0 48 2 lv l.length (insCells l) from s1.get 0 rfl)
    have k1 := s1.same
    have ha : w1.heap[w.heap.size]? = some (.cells #[.slice none 0 0] 23 (0, 0)) := (HB.out.1 w1 k1)
    have hb : w1.heap[w.heap.size + 1]? = some (.cells #[.int .i64 0] 3 (0, 0)) := (HB.out.2.1 w1 k1)
    have hc : w1.heap[w.heap.size + 1 + 1]? = some (.cells #[.int .i64 0] 25 (0, 0)) := (HB.out.2.2 w1 k1)
    have a0 : w1.cell? ⟨w.heap.size, 0, none⟩ = some (.slice none 0 0) := cell_of_heap ha
    have b0 : w1.cell? ⟨w.heap.size + 1, 0, none⟩ = some (.int .i64 0) := cell_of_heap hb
    have c0 : w1.cell? ⟨w.heap.size + 1 + 1, 0, none⟩ = some (.int .i64 0) := cell_of_heap hc
    have a1 : w1.frozen? ⟨w.heap.size, 0, none⟩ = false := frozen_of_heap ha
    have b1 : w1.frozen? ⟨w.heap.size + 1, 0, none⟩ = false := frozen_of_heap hb
    have c1 : w1.frozen? ⟨w.heap.size + 1 + 1, 0, none⟩ = false := frozen_of_heap hc
    have HS := hid s1
    clear hp s1 k1
    go_wp2
    have z1 : (((w1.setCell ⟨w.heap.size, 0, none⟩ (.slice la l.length lc)).setCell ⟨w.heap.size + 1, 0, none⟩ (.int .i64 0)).setCell ⟨w.heap.size + 1 + 1, 0, none⟩ (.int .i64 0)).heap[w.heap.size]? = some (.cells #[.slice la l.length lc] 23 (0, 0)) := by
      rw [heap_setCell_far (by simp; omega), heap_setCell_far (by simp), heap_setCell_at ha]
      rfl
    have z2 : (((w1.setCell ⟨w.heap.size, 0, none⟩ (.slice la l.length lc)).setCell ⟨w.heap.size + 1, 0, none⟩ (.int .i64 0)).setCell ⟨w.heap.size + 1 + 1, 0, none⟩ (.int .i64 0)).heap[w.heap.size + 1]? = some (.cells #[.int .i64 0] 3 (0, 0)) := by
      rw [heap_setCell_far (by simp), heap_setCell_at (by rw [heap_setCell_far (by simp)]; exact hb)]
      rfl
    have z3 : (((w1.setCell ⟨w.heap.size, 0, none⟩ (.slice la l.length lc)).setCell ⟨w.heap.size + 1, 0, none⟩ (.int .i64 0)).setCell ⟨w.heap.size + 1 + 1, 0, none⟩ (.int .i64 0)).heap[w.heap.size + 1 + 1]? = some (.cells #[.int .i64 0] 25 (0, 0)) := by
      rw [heap_setCell_at (by rw [heap_setCell_far (by simp), heap_setCell_far (by simp; omega)]; exact hc)]
      rfl
    have HQ : Hid (St w [ownI 48 2 (.slice la l.length lc) l.length (insCells l)] (((w1.setCell ⟨w.heap.size, 0, none⟩ (.slice la l.length lc)).setCell ⟨w.heap.size + 1, 0, none⟩ (.int .i64 0)).setCell ⟨w.heap.size + 1 + 1, 0, none⟩ (.int .i64 0))) := by
      refine HS.out.rebase ?_ (by simp; omega) ?_
      · exact ((((k0.trans HS.out.same (fun _ _ f => f)).mono (fun _ _ f => f.elim)).setCell (p := ⟨w.heap.size, 0, none⟩) _ (.inl (Nat.le_refl _))).setCell (p := ⟨w.heap.size + 1, 0, none⟩) _ (.inl (Nat.le_succ _))).setCell (p := ⟨w.heap.size + 1 + 1, 0, none⟩) _ (.inl (Nat.le_trans (Nat.le_succ _) (Nat.le_succ _)))
      · intro k h1 h2
        simp at h1
        rw [heap_setCell_far (by simp; omega), heap_setCell_far (by simp; omega), heap_setCell_far (by simp; omega)]
    generalize ((w1.setCell ⟨w.heap.size, 0, none⟩ (.slice la l.length lc)).setCell ⟨w.heap.size + 1, 0, none⟩ (.int .i64 0)).setCell ⟨w.heap.size + 1 + 1, 0, none⟩ (.int .i64 0) = w4 at *
    refine leaves_cons (f := 45) (args := #[.pointer (some ⟨w.heap.size, 0, none⟩), .pointer (some ⟨w.heap.size + 1, 0, none⟩), .pointer (some ⟨w.heap.size + 1 + 1, 0, none⟩)]) (by simp) (by simp [go_sem]) ?_
    refine (catch_idle w.heap.size (w.heap.size + 1) (w.heap.size + 1 + 1) w4).mono ?_
    rintro e u' w5 ⟨rfl, rfl, k5⟩
    have q1 : w5.cell? ⟨w.heap.size, 0, none⟩ = some (.slice la l.length lc) := cell_of_heap ((k5.block _ (lt_of_heap z1) (fun f => f)).trans z1)
    have q2 : w5.cell? ⟨w.heap.size + 1, 0, none⟩ = some (.int .i64 0) := cell_of_heap ((k5.block _ (lt_of_heap z2) (fun f => f)).trans z2)
    have q3 : w5.cell? ⟨w.heap.size + 1 + 1, 0, none⟩ = some (.int .i64 0) := cell_of_heap ((k5.block _ (lt_of_heap z3) (fun f => f)).trans z3)
    have HQ2 := hid (HQ.out.calm k5)
    simp [Leaves, settle, results, Tryz.results23, go_sem, q1, q2, q3]
    exact HQ2.out
end Go.Proofs.YtcchflfeomainaaGreatDoor
