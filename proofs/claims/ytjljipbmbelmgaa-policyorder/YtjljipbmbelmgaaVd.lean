/- What each tag's function says: commitWins, readerBias, aging. -/
import Derived.Test.YtjljipbmbelmgaaVt
import Derived.LoopN
namespace Go.Proofs.Ytjljipbmbelmgaa
open Go.RowKit
set_option linter.unusedVariables false
set_option linter.unusedSimpArgs false
attribute [local go_sem ↓] Go.wp_at_zero Go.wp_at_succ

/-- Is one of them older? -/
def anyOld (sp : Int) (zs : List Vt) : Bool := zs.any (fun t => decide (t.sp < sp))

set_option maxRecDepth 100000 in
theorem cw_any (c : Cfg) (sp df : Int) (v : Value) (w : World) : Calls Try.prog 25 #[c.val, .int .i64 sp, .int .i64 df, v] w fun e w' => e = .returned (.int .i64 1) ∧ Kept (fun _ => False) w w' := by
  have k0 := kept_alloc w (.cells #[.int .i64 c.ce, .int .i64 c.sl, .int .i64 c.bi, .int .i64 c.ta, .int .i64 c.ba, .int .i64 c.de] 23)
  unfold Cfg.val
  go_enter Try.func25, Try.ntmps25
  go_wp2
  go_ret
  exact ⟨rfl, k0⟩

def rbAns (c : Cfg) (df : Int) (n : Nat) : Int := if c.ba < (n : Int) ∧ df < c.de then 2 else 1

set_option maxRecDepth 100000 in
theorem rb_any (c : Cfg) (sp df : Int) (la : Option Addr) (n lc : Nat) (w : World) : Calls Try.prog 26 #[c.val, .int .i64 sp, .int .i64 df, .slice la n lc] w fun e w' => e = .returned (.int .i64 (rbAns c df n)) ∧ Kept (fun _ => False) w w' := by
  obtain ⟨ce, sl, bi, ta, ba, de⟩ := c
  have k0 := kept_alloc w (.cells #[.int .i64 ce, .int .i64 sl, .int .i64 bi, .int .i64 ta, .int .i64 ba, .int .i64 de] 23)
  have hh := heap_alloc_new w (.cells #[.int .i64 ce, .int .i64 sl, .int .i64 bi, .int .i64 ta, .int .i64 ba, .int .i64 de] 23)
  obtain ⟨E, hE⟩ : ∃ E : Int, rbAns ⟨ce, sl, bi, ta, ba, de⟩ df n = E := ⟨_, rfl⟩
  have HE : Hid (rbAns ⟨ce, sl, bi, ta, ba, de⟩ df n = E) := hE
  rw [hE]
  clear hE
  unfold Cfg.val
  simp only
  go_enter Try.func26, Try.ntmps26
  go_upto_region 1 with fail
  generalize w.alloc (.cells #[.int .i64 ce, .int .i64 sl, .int .i64 bi, .int .i64 ta, .int .i64 ba, .int .i64 de] 23) = W0 at *
  generalize w.heap.size = B at *
  have c4 : W0.cell? ⟨B, 4, none⟩ = some (.int .i64 ba) := cell_of_heap hh
  have c5 : W0.cell? ⟨B, 5, none⟩ = some (.int .i64 de) := cell_of_heap hh
  clear hh
  by_cases h1 : ba < (n : Int)
  · by_cases h2 : df < de
    · obtain rfl : 2 = E := by rw [← HE.out]; simp [rbAns, h1, h2]
      go_wp2
      go_ret
      exact ⟨rfl, k0⟩
    · obtain rfl : 1 = E := by rw [← HE.out]; simp [rbAns, h1, h2]
      go_wp2
      go_ret
      exact ⟨rfl, k0⟩
  · obtain rfl : 1 = E := by rw [← HE.out]; simp [rbAns, h1]
    go_wp2
    go_ret
    exact ⟨rfl, k0⟩

set_option maxRecDepth 100000 in
theorem older_any (t : Vt) (B : Nat) (sp : Int) (w : World) (hB : w.cell? ⟨B, 0, none⟩ = some (.int .i64 sp)) : Calls Try.prog 28 #[t.val, .pointer (some ⟨B, 0, none⟩)] w fun e w' => e = .returned (.bool (decide (t.sp < sp))) ∧ Kept (fun _ => False) w w' := by
  obtain ⟨so, ge, ts, th⟩ := t
  have k0 := kept_alloc w (.cells #[.int .i64 so, .int .i64 ge, .int .i64 ts, .int .i64 th] 46)
  have hh := heap_alloc_new w (.cells #[.int .i64 so, .int .i64 ge, .int .i64 ts, .int .i64 th] 46)
  have hb : B < w.heap.size := World.block_lt_of_cell? w _ hB
  have cB : (w.alloc (.cells #[.int .i64 so, .int .i64 ge, .int .i64 ts, .int .i64 th] 46)).cell? ⟨B, 0, none⟩ = some (.int .i64 sp) := by
    rw [World.cell?_alloc_past _ _ _ hb]; exact hB
  unfold Vt.val
  simp only
  go_enter Try.func28, Try.ntmps28
  go_upto_region 1 with fail
  generalize w.alloc (.cells #[.int .i64 so, .int .i64 ge, .int .i64 ts, .int .i64 th] 46) = W0 at *
  generalize w.heap.size = N at *
  have c2 : W0.cell? ⟨N, 2, none⟩ = some (.int .i64 ts) := cell_of_heap hh
  clear hh hB
  cases h : decide (ts < sp)
  all_goals
    go_wp2
    go_ret
    first | exact ⟨rfl, k0⟩ | simp_all

set_option maxRecDepth 100000 in
set_option maxHeartbeats 1000000 in
theorem index_any (la : Option Addr) (n lc : Nat) (zs : List Vt) (B : Nat) (sp : Int) (w : World) (hL : VIn w la n zs) (hn : n ≤ 17592186044416) (hB : w.cell? ⟨B, 0, none⟩ = some (.int .i64 sp)) :
    Calls Try.prog 30 #[.slice la n lc, .func (.func 28) #[] #[.pointer (some ⟨B, 0, none⟩)]] w fun e w' => ∃ r : Int, e = .returned (.int .i64 r) ∧ decide (0 ≤ r) = anyOld sp zs ∧ Kept (fun _ => False) w w' := by
  have HN : Hid (n = zs.length) := hL.1
  have HB : Hid (B < w.heap.size) := World.block_lt_of_cell? w _ hB
  go_enter Try.func30, Try.ntmps30
  go_wp2
  go_loopw [8] (fun i wr => ∃ j : Nat, i = .int .i64 j ∧ j ≤ n ∧ (∀ k (h : k < zs.length), k < j → sp ≤ zs[k].sp) ∧ Kept (fun _ => False) w wr) (fun i _ => n - (intOf i).toNat)
  case atStart => exact ⟨0, rfl, Nat.zero_le _, fun k h h0 => by omega, Kept.refl _ _⟩
  case round =>
    obtain ⟨j, rfl, hj, ho, hk⟩ := hrel
    have HO : Hid (∀ k (h : k < zs.length), k < j → sp ≤ zs[k].sp) := ho
    clear ho
    by_cases hlt : j < n
    · have hz : j < zs.length := by have := HN.out; omega
      obtain ⟨g, o, rfl, _⟩ := hL.2 (by omega)
      obtain ⟨c0, c1, c2, c3⟩ := (hL.kept hk).cells hz
      have hcB : wr.cell? ⟨B, 0, none⟩ = some (.int .i64 sp) := by
        rw [World.cell?_of_block (hk.block B HB.out (fun f => f))]; exact hB
      have hq := older_any zs[j] B sp wr hcB
      have HZ : Hid (decide (zs[j].sp < sp) = true → anyOld sp zs = true) := fun h => List.any_eq_true.2 ⟨zs[j], List.getElem_mem hz, h⟩
      have HY : Hid (decide (zs[j].sp < sp) = false → ∀ k (h : k < zs.length), k < j + 1 → sp ≤ zs[k].sp) := fun h k hk1 hk2 => by
        by_cases e : k = j
        · subst e; simpa using h
        · exact HO.out k hk1 (by omega)
      unfold Vt.val at hq
      generalize zs[j] = t at *
      generalize decide (t.sp < sp) = b at *
      have h0 : (0 : Int) ≤ (j : Int) := Int.natCast_nonneg _
      have h1 : (j : Int) < (n : Int) := by omega
      clear hL hcB hB
      cases b
      · go_wp2_with (go_at_call 28; refine hq.mono ?_; rintro e w2 ⟨rfl, k2⟩)
        go_roundw
        case rel => exact ⟨j + 1, by simp, by omega, HY.out (by simp), hk.trans k2 (fun _ _ f => f)⟩
        case measure => simp [intOf]; omega
      · go_wp2_with (go_at_call 28; refine hq.mono ?_; rintro e w2 ⟨rfl, k2⟩)
        go_ret
        exact ⟨_, rfl, by rw [HZ.out (by simp)]; simp, hk.trans k2 (fun _ _ f => f)⟩
    · have h1 : ¬ (j : Int) < (n : Int) := by omega
      have hje : anyOld sp zs = false := by
        cases hh : anyOld sp zs
        · rfl
        · obtain ⟨t, ht, hl⟩ := List.any_eq_true.1 hh
          obtain ⟨i, hi, rfl⟩ := List.getElem_of_mem ht
          exact absurd (of_decide_eq_true hl) (Int.not_lt.2 (HO.out i hi (by have := HN.out; omega)))
      clear hL hB
      go_wp2
      go_ret
      exact ⟨_, rfl, by first | decide | (rw [hje]; decide), hk⟩

set_option maxRecDepth 100000 in
theorem contains_any (la : Option Addr) (n lc : Nat) (zs : List Vt) (B : Nat) (sp : Int) (w : World) (hL : VIn w la n zs) (hn : n ≤ 17592186044416) (hB : w.cell? ⟨B, 0, none⟩ = some (.int .i64 sp)) :
    Calls Try.prog 29 #[.slice la n lc, .func (.func 28) #[] #[.pointer (some ⟨B, 0, none⟩)]] w fun e w' => e = .returned (.bool (anyOld sp zs)) ∧ Kept (fun _ => False) w w' := by
  have hq := index_any la n lc zs B sp w hL hn hB
  clear hL hn hB
  generalize anyOld sp zs = b at *
  go_enter Try.func29, Try.ntmps29
  go_wp2_with fail
  refine hq.mono ?_
  rintro e w1 ⟨r, rfl, hr, k1⟩
  clear hq
  cases b
  · have hr : ¬ 0 ≤ r := of_decide_eq_false hr
    go_wp2
    go_ret
    exact ⟨rfl, k1⟩
  · have hr : 0 ≤ r := of_decide_eq_true hr
    go_wp2
    go_ret
    exact ⟨rfl, k1⟩

set_option maxRecDepth 100000 in
theorem aging_any (c : Cfg) (sp df : Int) (la : Option Addr) (n lc : Nat) (zs : List Vt) (w : World) (hL : VIn w la n zs) (hn : n ≤ 17592186044416) : Calls Try.prog 27 #[c.val, .int .i64 sp, .int .i64 df, .slice la n lc] w fun e w' => e = .returned (.int .i64 (if anyOld sp zs then 3 else 1)) ∧ Kept (fun _ => False) w w' := by
  have hmf : ∀ (fn : Fn) (first cap : Array Value) (w : World), (Instr.makeFunc fn first cap).run Try.prog w = .ok (.func fn first cap) w := fun _ _ _ _ => rfl
  obtain ⟨ce, sl, bi, ta, ba, de⟩ := c
  have h0 := ((St.nil w).box #[.int .i64 ce, .int .i64 sl, .int .i64 bi, .int .i64 ta, .int .i64 ba, .int .i64 de] 23).box #[.int .i64 sp] 3
  have hq := contains_any la n lc zs _ sp _ (hL.kept h0.same) hn (h0.cell 0 rfl 0)
  have k0 := h0.same
  simp only [alloc_size] at hq
  clear hL h0 hn
  generalize anyOld sp zs = b at *
  unfold Cfg.val
  simp only
  go_enter Try.func27, Try.ntmps27
  go_wp2_with fail
  refine hq.mono ?_
  rintro e w1 ⟨rfl, k1⟩
  have hk := k0.trans k1 (fun _ _ f => f)
  clear hq k0 k1
  cases b
  all_goals
    go_wp2
    go_ret
    exact ⟨rfl, hk⟩
end Go.Proofs.Ytjljipbmbelmgaa
