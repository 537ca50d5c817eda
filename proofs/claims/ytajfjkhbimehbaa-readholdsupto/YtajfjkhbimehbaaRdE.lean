/- Reads: done, its value, what it goes out from; a step; a new one. -/
import Derived.Test.YtajfjkhbimehbaaRdD
namespace Go.Proofs.Ytajfjkhbimehbaa
open Go.RowKit
set_option linter.unusedVariables false
set_option linter.unusedSimpArgs false
attribute [local go_sem ↓] Go.wp_at_zero Go.wp_at_succ

section
variable {o w : World} {its : List It} {A : Ad} {c : Cfg} {z : SSt} {v u : Value} {k s : Nat} {r : Rd}

theorem nextV_done (k st : Nat) (h : st ≤ 4) (w : World) : (binOp .eql 41 (nextV k st) .nilFunc).run Try.prog w = .ok (.bool (st == 4)) w := by
  rcases (show st = 0 ∨ st = 1 ∨ st = 2 ∨ st = 3 ∨ st = 4 by omega) with rfl | rfl | rfl | rfl | rfl <;> kernel_rfl

set_option maxRecDepth 100000 in
theorem rdDone (h : St o its w) (j : Nat) (hj : its[j]? = some (rdI k s r)) (hs : r.st ≤ 4) :
    Calls Try.prog 14 #[.pointer (some ⟨k, 0, none⟩)] w fun e w' => e = .returned (.bool (r.st == 4)) ∧ w' = w := by
  have c9 : w.cell? ⟨k, 9, none⟩ = some (nextV k r.st) := rdCell h j hj 9
  clear h hj
  have hb := nextV_done k r.st hs
  rcases (show r.st = 0 ∨ r.st = 1 ∨ r.st = 2 ∨ r.st = 3 ∨ r.st = 4 by omega) with h | h | h | h | h
  all_goals
    rw [h] at c9 hb ⊢
    simp [nextV] at c9 hb
    clear h hs
    go_enter Try.func14, Try.ntmps14
    go_wp2
    go_ret
    exact ⟨rfl, rfl⟩

def Rd.valX (r : Rd) : Int := if r.e = 0 then r.va else 0
set_option maxRecDepth 100000 in
theorem rdValue (h : St o its w) (j : Nat) (hj : its[j]? = some (rdI k s r)) :
    Calls Try.prog 16 #[.pointer (some ⟨k, 0, none⟩)] w fun e w' => e = .returned (.tuple #[.int .i64 r.valX, .int .i64 r.e]) ∧ ∃ q, w' = w.drewN q := by
  have c10 : w.cell? ⟨k, 10, none⟩ = some (.int .i64 r.va) := rdCell h j hj 10
  have c11 : w.cell? ⟨k, 11, none⟩ = some (.int .i64 r.e) := rdCell h j hj 11
  clear h hj
  unfold Rd.valX
  by_cases he : r.e = 0
  · rw [if_pos he, he]
    rw [he] at c11
    generalize r.va = va at *
    clear he
    go_enter Try.func16, Try.ntmps16
    go_wp2
    go_ret2
    exact ⟨rfl, 0, rfl⟩
  · rw [if_neg he]
    have he' : (r.e != 0) = true := by simpa using he
    generalize r.e = er at *
    clear he c10
    go_enter Try.func16, Try.ntmps16
    go_upto_region 2 with fail
    go_quiet (fail)
    go_wp2
    go_ret2
    exact ⟨rfl, nq, rfl⟩

def Rd.fromV (r : Rd) : Value := .agg #[.int .i64 r.sl, .int .i64 r.gn, .int .i64 r.sn, .int .u64 r.sg.lo, .int .u64 r.sg.hi]
set_option maxRecDepth 100000 in
theorem rdFrom (h : St o its w) (j : Nat) (hj : its[j]? = some (rdI k s r)) :
    Calls Try.prog 17 #[.pointer (some ⟨k, 0, none⟩)] w fun e w' => e = .returned r.fromV ∧ St o its w' := by
  have h0 := h.box #[.int .i64 0, .int .i64 0, .int .i64 0, .int .u64 0, .int .u64 0] 34
  clear h
  unfold Rd.fromV
  go_enter Try.func17, Try.ntmps17
  go_upto_region 1 with fail
  generalize w.alloc (.cells #[.int .i64 0, .int .i64 0, .int .i64 0, .int .u64 0, .int .u64 0] 34) = W0 at *
  generalize w.heap.size = B at *
  have c1 : W0.cell? ⟨k, 1, none⟩ = some (.int .i64 r.sl) := rdCell h0 (j + 1) hj 1
  have c2 : W0.cell? ⟨k, 2, none⟩ = some (.int .i64 r.gn) := rdCell h0 (j + 1) hj 2
  have c3 : W0.cell? ⟨k, 3, none⟩ = some (.int .i64 r.sn) := rdCell h0 (j + 1) hj 3
  have c4 : W0.cell? ⟨k, 4, none⟩ = some (.int .u64 r.sg.lo) := rdCell h0 (j + 1) hj 4
  have c5 : W0.cell? ⟨k, 5, none⟩ = some (.int .u64 r.sg.hi) := rdCell h0 (j + 1) hj 5
  have b0 : W0.cell? ⟨B, 0, none⟩ = some (.int .i64 0) := h0.cell 0 rfl 0
  have b1 : W0.cell? ⟨B, 1, none⟩ = some (.int .i64 0) := h0.cell 0 rfl 1
  have b2 : W0.cell? ⟨B, 2, none⟩ = some (.int .i64 0) := h0.cell 0 rfl 2
  have b3 : W0.cell? ⟨B, 3, none⟩ = some (.int .u64 0) := h0.cell 0 rfl 3
  have b4 : W0.cell? ⟨B, 4, none⟩ = some (.int .u64 0) := h0.cell 0 rfl 4
  have f0 : W0.frozen? ⟨B, 0, none⟩ = false := h0.frozen 0 rfl 0
  have f1 : W0.frozen? ⟨B, 1, none⟩ = false := h0.frozen 0 rfl 1
  have f2 : W0.frozen? ⟨B, 2, none⟩ = false := h0.frozen 0 rfl 2
  have f3 : W0.frozen? ⟨B, 3, none⟩ = false := h0.frozen 0 rfl 3
  have f4 : W0.frozen? ⟨B, 4, none⟩ = false := h0.frozen 0 rfl 4
  have HS : Hid (∀ u0 u1 u2 u3 u4 : Value, St o its (((((W0.setCell ⟨B, 0, none⟩ u0).setCell ⟨B, 1, none⟩ u1).setCell ⟨B, 2, none⟩ u2).setCell ⟨B, 3, none⟩ u3).setCell ⟨B, 4, none⟩ u4)) := fun u0 u1 u2 u3 u4 => (((((h0.write 0 rfl 0 u0).write 0 rfl 1 u1).write 0 rfl 2 u2).write 0 rfl 3 u3).write 0 rfl 4 u4).pop
  clear h0 hj
  obtain ⟨sl, gn, sn, ⟨g0, g1⟩, ce, ⟨x0, x1⟩, st, va, er⟩ := r
  simp only at *
  go_wp2
  exact bodyPost_ret (v := .agg #[.int .i64 sl, .int .i64 gn, .int .i64 sn, .int .u64 g0, .int .u64 g1]) (by simp [results, Try.results17, go_sem, b0, b1, b2, b3, b4]) rfl ⟨rfl, HS.out _ _ _ _ _⟩

set_option maxRecDepth 100000 in
set_option maxHeartbeats 1000000 in
theorem rdStep (h : St o its w) (i j : Nat) (hij : i ≠ j) (hi : its[i]? = some (spI A c z v u)) (hj : its[j]? = some (rdI k A.sp r)) {n : Nat} (ok : z.ok c n) (hn : n ≤ 4611686018427) (hr : r.fit) :
    Calls Try.prog 15 #[.pointer (some ⟨k, 0, none⟩)] w fun e w' => e = .returned (.int .i64 (r.ans z)) ∧ ∃ v', St o ((its.set i (spI A c (z.reads r) v' u)).set j (rdI k A.sp (r.next z))) w' := by
  have hd := rdDone h j hj hr.st
  have c9 : w.cell? ⟨k, 9, none⟩ = some (nextV k r.st) := rdCell h j hj 9
  unfold Rd.ans SSt.reads
  rcases (show r.st = 0 ∨ r.st = 1 ∨ r.st = 2 ∨ r.st = 3 ∨ r.st = 4 by have := hr.st; omega) with h0 | h0 | h0 | h0 | h0
  · have hq : Calls Try.prog 64 #[.pointer (some ⟨k, 0, none⟩)] w _ := rdPublish h i j hij hi hj ok hn hr h0
    have en : r.next z = r.pub := by unfold Rd.next; rw [if_pos h0]
    have n4 : ¬ r.st = 4 := by omega
    have n2 : ¬ r.st = 2 := by omega
    rw [en, if_neg n4, if_neg (fun x => n2 x.1), if_pos h0]
    rw [h0] at hd c9
    simp only [nextV, if_true] at c9
    generalize z.put r.sl (r.miss.headD 0 : Nat) (r.both (r.miss.headD 0) : Nat) = z' at *
    generalize r.pub = r' at *
    clear h hi hj ok hr h0 en
    go_enter Try.func15, Try.ntmps15
    go_wp2_with (go_at_call 14; refine hd.mono ?_; rintro e wq ⟨rfl, rfl⟩)
    refine hq.mono ?_
    rintro e w1 ⟨rfl, v', h1⟩
    have HS : Hid _ := h1
    clear hq hd h1 c9
    go_wp2
    go_ret
    exact ⟨rfl, v', HS.out⟩
  · have hq : Calls Try.prog 65 #[.pointer (some ⟨k, 0, none⟩)] w _ := rdLoad h i j hij hi hj ok hn
    have en : r.next z = { r with va := loadR z.xs r.ce, st := 2 } := by unfold Rd.next; rw [if_neg (by omega), if_pos h0]
    have n4 : ¬ r.st = 4 := by omega
    have n2 : ¬ r.st = 2 := by omega
    have n0 : ¬ r.st = 0 := by omega
    rw [en, if_neg n4, if_neg (fun x => n2 x.1), if_neg n0, if_pos h0]
    rw [h0] at hd c9
    simp only [nextV] at c9
    generalize z.load r.ce = z' at *
    generalize ({ r with va := loadR z.xs r.ce, st := 2 } : Rd) = r' at *
    clear h hi hj ok hr h0 en
    go_enter Try.func15, Try.ntmps15
    go_wp2_with (go_at_call 14; refine hd.mono ?_; rintro e wq ⟨rfl, rfl⟩)
    refine hq.mono ?_
    rintro e w1 ⟨rfl, v', h1⟩
    have HS : Hid _ := h1
    clear hq hd h1 c9
    go_wp2
    go_ret
    exact ⟨rfl, v', HS.out⟩
  · have hq : Calls Try.prog 82 #[.pointer (some ⟨k, 0, none⟩)] w _ := rdGate h i j hij hi hj ok hn h0
    have ea : (if r.st = 4 then (3 : Int) else if r.st = 2 ∧ z.x.n % 2 ≠ 0 then 2 else 1) = (if z.x.n % 2 = 0 then 1 else 2) := by
      have n4 : ¬ r.st = 4 := by omega
      rw [if_neg n4]
      by_cases hz : z.x.n % 2 = 0
      · rw [if_neg (fun x => x.2 hz), if_pos hz]
      · rw [if_pos ⟨h0, hz⟩, if_neg hz]
    have n1 : ¬ r.st = 1 := by omega
    have n0 : ¬ r.st = 0 := by omega
    rw [ea, if_neg n0, if_neg n1, if_pos h0]
    rw [h0] at hd c9
    simp only [nextV] at c9
    generalize (if z.x.n % 2 = 0 then (1 : Int) else 2) = an at *
    generalize z.glook = z' at *
    generalize r.next z = r' at *
    clear h hi hj ok hr h0 ea
    go_enter Try.func15, Try.ntmps15
    go_wp2_with (go_at_call 14; refine hd.mono ?_; rintro e wq ⟨rfl, rfl⟩)
    refine hq.mono ?_
    rintro e w1 ⟨rfl, v', h1⟩
    have HS : Hid _ := h1
    clear hq hd h1 c9
    go_wp2
    go_ret
    exact ⟨rfl, v', HS.out⟩
  · have hq : Calls Try.prog 94 #[.pointer (some ⟨k, 0, none⟩)] w _ := rdHead h i j hij hi hj ok hn
    have en : r.next z = { r with st := 4, e := if r.fair (nowAt z.hs r.sl) then 0 else 7 } := by unfold Rd.next; rw [if_neg (by omega), if_neg (by omega), if_neg (by omega), if_pos h0]
    have n4 : ¬ r.st = 4 := by omega
    have n2 : ¬ r.st = 2 := by omega
    have n1 : ¬ r.st = 1 := by omega
    have n0 : ¬ r.st = 0 := by omega
    rw [en, if_neg n4, if_neg (fun x => n2 x.1), if_neg n0, if_neg n1, if_neg n2, if_pos h0]
    rw [h0] at hd c9
    simp only [nextV] at c9
    generalize z.look r.sl = z' at *
    generalize ({ r with st := 4, e := if r.fair (nowAt z.hs r.sl) then 0 else 7 } : Rd) = r' at *
    clear h hi hj ok hr h0 en
    go_enter Try.func15, Try.ntmps15
    go_wp2_with (go_at_call 14; refine hd.mono ?_; rintro e wq ⟨rfl, rfl⟩)
    refine hq.mono ?_
    rintro e w1 ⟨rfl, v', h1⟩
    have HS : Hid _ := h1
    clear hq hd h1 c9
    go_wp2
    go_ret
    exact ⟨rfl, v', HS.out⟩
  · have en : r.next z = r := by unfold Rd.next; rw [if_neg (by omega), if_neg (by omega), if_neg (by omega), if_neg (by omega)]
    have n3 : ¬ r.st = 3 := by omega
    have n2 : ¬ r.st = 2 := by omega
    have n1 : ¬ r.st = 1 := by omega
    have n0 : ¬ r.st = 0 := by omega
    rw [en, if_pos h0, if_neg n0, if_neg n1, if_neg n2, if_neg n3]
    rw [h0] at hd
    have HS : Hid (St o ((its.set i (spI A c z v u)).set j (rdI k A.sp r)) w) := by
      show St _ _ _
      rw [set_back hi, set_back hj]
      exact h
    clear h hi hj ok hr h0 en c9
    go_enter Try.func15, Try.ntmps15
    go_wp2_with (go_at_call 14; refine hd.mono ?_; rintro e wq ⟨rfl, rfl⟩)
    go_ret
    exact ⟨rfl, v, HS.out⟩
end
end Go.Proofs.Ytajfjkhbimehbaa
