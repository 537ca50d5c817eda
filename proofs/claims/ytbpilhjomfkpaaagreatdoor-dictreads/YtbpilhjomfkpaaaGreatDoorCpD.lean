/- Copied, pick; entries as arguments with both their ranges. -/
import Derived.Test.YtbpilhjomfkpaaaGreatDoorLyD
import Derived.Test.YtbpilhjomfkpaaaGreatDoorDoesWalk
import Derived.Test.YtbpilhjomfkpaaaGreatDoorDiF
import Derived.ProofKit
import Derived.Deep.Slices
import Derived.OpenShut
import Derived.SizedLaws
import Derived.WideKeyPair
namespace Go.Proofs.YtbpilhjomfkpaaaGreatDoor
open Go.RowKit Go.ChangeShapes Go.WideShapes Go.Deep
set_option linter.unusedVariables false
set_option linter.unusedSimpArgs false
section
variable {H : Type} {enc : TypeId × Value → H} {w : World}

attribute [local go_sem ↓] Go.wp_at_zero Go.wp_at_succ
def CameE2 (w : World) (la : Option Addr) (n lc : Nat) (zs : List Pr) : Prop := EIn w la n zs ∧ n ≤ lc ∧ n * 16 ≤ 140737488351232 ∧ (la = none → n = 0 ∧ lc = 0) ∧ ∀ p ∈ zs, Rg p.1 ∧ Rg p.2
theorem CameE2.kept {w w' : World} {la : Option Addr} {n lc : Nat} {zs : List Pr} (h : CameE2 w la n lc zs) (k : Kept (fun _ => False) w w') : CameE2 w' la n lc zs := ⟨h.1.kept k, h.2⟩
set_option maxRecDepth 100000 in
theorem open_entry2 {fuel : Nat} {cs : List Value} {x : DataW H × List MemPlace} (h : DataW.trod enc Tryz.prog w 0 (fun _ => true) true fuel 41 cs = some x) :
    ∃ o : Pr, cs = [.int .i64 o.1, .int .i64 o.2] ∧ Rg o.1 ∧ Rg o.2 := by
  obtain ⟨xs, n, _, rfl, hl, hlen, hf⟩ := DataW.trod_struct Tryz.underlying41 h
  rw [Tryz.cellsA_e] at hl
  match cs, hl with
  | [v0, v1], _ =>
    match xs, hlen with
    | [y0, y1], _ =>
      have g0 := hf 0 _ rfl
      have g1 := hf 1 _ rfl
      simp [Tryz.cellsA_i64] at g0 g1
      obtain ⟨b0, e0, _, wf0⟩ := DataW.trod_int Tryz.underlying2 g0
      obtain ⟨b1, e1, _, wf1⟩ := DataW.trod_int Tryz.underlying2 g1
      simp only [List.cons.injEq, and_true] at e0 e1
      subst e0 e1
      exact ⟨(b0, b1), rfl, i64_rng wf0, i64_rng wf1⟩
set_option maxRecDepth 100000 in
theorem arg_e2 {b0 : Nat} {v : Value} {d : DataW H} {pl : List MemPlace} (h : DataW.Trod enc Tryz.prog w 0 (fun _ => true) true 32 v d pl) (hv : Value.okWide Tryz.prog w .any b0 32 v) (hz : ∀ n ∈ d.weights Tryz.prog 32, n ≤ reachBytes) :
    ∃ la ll lc zs, v = .slice la ll lc ∧ CameE2 w la ll lc zs := by
  obtain ⟨a, len, cap, rfl⟩ := okWide_slice Tryz.underlying32 hv
  obtain ⟨fuel, hf⟩ := h
  rcases open_slice Tryz.underlying32 hf with ⟨hcs, _⟩ | ⟨a', len', cap', m, n, D, Pl, hcs, _, hl, hm, hmm, hx, hcell⟩
  · simp [Value.cells] at hcs
    obtain ⟨rfl, rfl, rfl⟩ := hcs
    exact ⟨_, _, _, [], rfl, ⟨rfl, fun h => by omega⟩, by omega, by omega, fun _ => ⟨rfl, rfl⟩, by simp⟩
  · simp [Value.cells] at hcs
    obtain ⟨rfl, rfl, rfl⟩ := hcs
    simp only [if_true] at hmm
    subst hmm
    simp only [Prod.mk.injEq] at hx
    obtain ⟨hd, _⟩ := hx
    have hreach : len * 16 ≤ 140737488351232 := by
      have := hz ((len + (m - len)) * 16) (by
        rw [hd]
        simp [DataW.weights, Tryz.underlying32, Tryz.bytesA_e])
      simp only [reachBytes] at this
      omega
    by_cases h0 : len = 0
    · subst h0
      exact ⟨_, _, _, [], rfl, ⟨rfl, fun h => by omega⟩, by omega, by omega, (fun e => by cases e), by simp⟩
    obtain ⟨cs0, hc0, _⟩ := hcell 0 (by omega)
    rw [Tryz.cellsA_e] at hc0
    have hs := (World.cells?_some hc0)
    obtain ⟨b, off, spot⟩ := a'
    have h00 := hs.2.2 0 (by omega)
    rw [List.getElem?_eq_getElem (by omega)] at h00
    have hspot : spot = none := by simpa [Addr.add] using World.cell?_spot h00
    subst hspot
    have hall : ∀ i, i < len → ∃ o : Pr, (w.cell? ⟨b, off + i * 2, none⟩ = some (.int .i64 o.1) ∧ w.cell? ⟨b, off + i * 2 + 1, none⟩ = some (.int .i64 o.2)) ∧ Rg o.1 ∧ Rg o.2 := by
      intro i hi
      obtain ⟨cs, hc, ht⟩ := hcell i (by omega)
      rw [Tryz.cellsA_e] at hc
      obtain ⟨o, rfl, hr⟩ := open_entry2 ht
      have hcc := (World.cells?_some hc).2.2
      have eadd : ∀ j, ((⟨b, off, none⟩ : Addr).add (i * 2)).add j = ⟨b, off + i * 2 + j, none⟩ := by
        intro j
        unfold Addr.add
        split <;> split <;> simp_all
      have c0 := hcc 0 (by omega)
      have c1 := hcc 1 (by omega)
      rw [eadd] at c0 c1
      exact ⟨o, ⟨c0, c1⟩, hr⟩
    obtain ⟨f, hff⟩ := @choose_lt Pr ⟨(0, 0)⟩ len (fun i o => (w.cell? ⟨b, off + i * 2, none⟩ = some (.int .i64 o.1) ∧ w.cell? ⟨b, off + i * 2 + 1, none⟩ = some (.int .i64 o.2)) ∧ Rg o.1 ∧ Rg o.2) hall
    have hgd : ∀ i, i < len → ((List.range len).map f).getD i (0, 0) = f i := fun i hi => by simp [List.getD_eq_getElem?_getD, hi]
    have hln : ((List.range len).map f).length = len := by simp
    refine ⟨_, _, _, (List.range len).map f, rfl, ⟨hln.symm, fun _ => ⟨b, off, rfl, fun j u hu => ?_⟩⟩, hl, hreach, (fun e => by cases e), fun p hp => ?_⟩
    · have hj := (List.getElem?_eq_some_iff.1 hu).1
      rw [eC_length, hln] at hj
      have hq : j / 2 < len := by omega
      obtain ⟨a1, a2⟩ := eC_at ((List.range len).map f) (j / 2) (by rw [hln]; exact hq)
      rw [hgd _ hq] at a1 a2
      obtain ⟨⟨f1, f2⟩, _⟩ := hff (j / 2) hq
      rcases Nat.mod_two_eq_zero_or_one j with hm2 | hm2
      · have ej : j = j / 2 * 2 := by omega
        rw [← ej] at a1 f1
        rw [a1] at hu
        rw [← hu]
        exact f1
      · have ej : j = j / 2 * 2 + 1 := by omega
        rw [← ej] at a2
        rw [Nat.add_assoc, ← ej] at f2
        rw [a2] at hu
        rw [← hu]
        exact f2
    · obtain ⟨i, hi, rfl⟩ := List.mem_map.1 hp
      exact (hff i (List.mem_range.1 hi)).2
end
section
theorem sizeX : (Tryz.prog.info? 2).map (·.size) = some 1 := by kernel_rfl
/-- A list cut or filled up to a length. -/
def padM (k : Nat) (l : List Int) : List Int := l.take k ++ List.replicate (k - l.length) 0
theorem padM_length (k : Nat) (l : List Int) : (padM k l).length = k := by
  unfold padM
  rw [List.length_append, List.length_take, List.length_replicate]
  omega
theorem padM_self (l : List Int) : padM l.length l = l := by simp [padM]
theorem owns_row {w : World} {g n : Nat} {l : List Int} (h : w.heap[g]? = some (.cells (xC l).toArray 2 (0, 0))) (hn : l.length = n) (hm : n ≤ maxLen) : w.ownsRow g 2 1 (.slice (some ⟨g, 0, none⟩) n n) n (xC l) :=
  ⟨by rw [xC_length]; omega, .inr ⟨g, n, (xC l).toArray, rfl, Nat.le_refl _, h, Nat.le_refl _, hm, by simp [xC]; omega, by rw [Nat.mul_one]; exact List.take_of_length_le (by simp [xC]; omega)⟩⟩
theorem copyX (la : Option Addr) (m lc k : Nat) (l : List Int) (w : World) (hX : XIn w la m l) : ∃ w', (Builtin.copy_ #[24, 24] 3 #[.slice (some ⟨w.heap.size, 0, none⟩) k k, .slice la m lc]).run Tryz.prog (w.alloc (.cells (xC (List.replicate k 0)).toArray 2)) = .ok (goInt (Nat.min m k : Nat)) w' ∧ Kept (fun _ => False) w w' ∧ w'.heap[w.heap.size]? = some (.cells (xC (padM k l)).toArray 2 (0, 0)) := by
  have hml := hX.1
  by_cases h0 : Nat.min m k = 0
  · refine ⟨_, by rw [h0]; exact run_copy_none _ 24 24 3 2 _ _ _ _ _ _ Tryz.underlying24 sizeX h0, kept_alloc w _, ?_⟩
    have hp : padM k l = List.replicate k 0 := by
      unfold padM
      by_cases hk : k = 0
      · subst hk; simp
      · have hm0 : m = 0 := by
          simp only [Nat.min_def] at h0
          split at h0 <;> omega
        have : l = [] := List.length_eq_zero_iff.1 (by omega)
        subst this
        simp
    rw [hp]
    exact heap_alloc_new w _
  · have hm1 : 0 < m := by
      simp only [Nat.min_def] at h0
      split at h0 <;> omega
    obtain ⟨g, o, rfl, hc⟩ := (hX.kept (kept_alloc w (.cells (xC (List.replicate k 0)).toArray 2))).2 hm1
    have hl : (xC (l.take k)).length = Nat.min m k := by
      rw [xC_length, List.length_take, ← hml, Nat.min_comm]
    have hl2 : Nat.min m k ≤ k := Nat.min_le_right _ _
    have hl3 : Nat.min m k ≤ m := Nat.min_le_left _ _
    have hrun := run_copy_row (P := Tryz.prog) (w.alloc (.cells (xC (List.replicate k 0)).toArray 2)) 24 24 3 2 w.heap.size 0 k k ⟨g, o, none⟩ m lc (xC (List.replicate k 0)).toArray 2 (xC (l.take k)) Tryz.underlying24 sizeX (heap_alloc_new w _) hl (fun j v hj => by
      have hjl := (List.getElem?_eq_some_iff.1 hj).1
      rw [hl] at hjl
      rw [xC_at _ j (by rw [List.length_take]; omega)] at hj
      rw [Addr.add_lit, hc j (by omega), ← hj]
      congr 2
      simp only [List.getD_eq_getElem?_getD]
      rw [List.getElem?_take_of_lt (by omega)]) (by rw [hl]; simp [xC]; omega) (xC_one _)
    rw [hl] at hrun
    refine ⟨_, hrun, (kept_alloc w _).trans (G := fun b => b = w.heap.size) ⟨rfl, rfl, rfl, by simp [World.setRow], fun b _ hb => setRow_other _ _ _ _ hb⟩ (fun i hi e => by omega), ?_⟩
    rw [setRow_heap _ _ _ _ _ _ (heap_alloc_new w _)]
    have he : (List.take 0 (xC (List.replicate k 0)).toArray.toList ++ xC (l.take k) ++ List.drop (0 + Nat.min m k) (xC (List.replicate k 0)).toArray.toList) = xC (padM k l) := by
      unfold padM
      rw [xC_append, List.take_zero, List.nil_append, Nat.zero_add]
      have e1 : ∀ q, List.drop q (xC (List.replicate k 0)).toArray.toList = xC (List.replicate (k - q) 0) := fun q => by simp [xC, List.drop_replicate]
      rw [e1]
      have e2 : k - Nat.min m k = k - l.length := by
        rw [← hml]
        have hmin : Nat.min m k = if m ≤ k then m else k := rfl
        rw [hmin]
        split <;> omega
      rw [e2]
    rw [he]
set_option maxHeartbeats 1000000 in
theorem Copied_any (la : Option Addr) (n lc : Nat) (l : List Int) (w : World) (hX : XIn w la n l) (hb : n * 8 ≤ 140737488355328) :
    Calls Tryz.prog 16 #[.slice la n lc] w fun e w' => ∃ v, e = .returned v ∧ St w [ownI 2 1 v n (xC l)] w' := by
  have hm := makeX n (n : Int) rfl hb w
  obtain ⟨w2, hcp, k2, hg⟩ := copyX la n lc n l w hX
  have hln : l.length = n := hX.1.symm
  rw [← hln, padM_self] at hg
  have HS := hid ((St.nil w).own k2 (owns_row hg hln (by unfold maxLen; omega)))
  clear hX hln k2 hg
  generalize (xC (List.replicate n 0)).toArray = Z at *
  go_enter Tryz.func16, Tryz.ntmps16
  go_wp2_with (first | simp only [hm] | simp only [hcp])
  go_ret
  exact ⟨_, rfl, HS.out⟩
theorem pick_any (c : Int) (n : Nat) (w : World) (hn : 0 < n) (hn2 : n ≤ 9223372036854775807) (h0 : -9223372036854775808 ≤ c) (h1 : c ≤ 9223372036854775807) : Calls Tryz.prog 21 #[.int .i64 c, .int .i64 n] w fun e w' => (∃ k : Nat, k < n ∧ e = .returned (.int .i64 k)) ∧ w' = w := by
  have key : ∀ z : Int, 0 ≤ z → ∃ k : Nat, k < n ∧ z.tmod n = (k : Int) := fun z hz => by
    refine ⟨(z.tmod n).toNat, ?_, ?_⟩
    · have := Int.tmod_lt_of_pos z (show (0 : Int) < n by omega)
      have h2 := Int.tmod_nonneg (n : Int) hz
      omega
    · have h2 := Int.tmod_nonneg (n : Int) hz
      omega
  have hnz : ¬ (n : Int) = 0 := by omega
  by_cases hc : c < 0
  · obtain ⟨k, hk, ek⟩ := key (-(c + 1)) (by omega)
    have tc : decide (c < 0) = true := decide_eq_true hc
    clear key
    go_enter Tryz.func21, Tryz.ntmps21
    go_wp2_with (simp only [ek])
    go_ret
    exact ⟨⟨k, hk, by first | rfl | (simp; omega) | (simp [ek])⟩, rfl⟩
  · obtain ⟨k, hk, ek⟩ := key c (by omega)
    have tc : decide (c < 0) = false := decide_eq_false hc
    clear key
    go_enter Tryz.func21, Tryz.ntmps21
    go_wp2_with (simp only [ek])
    go_ret
    exact ⟨⟨k, hk, by first | rfl | (simp; omega) | (simp [ek])⟩, rfl⟩
theorem row_xin {o w : World} {R : List It} {g n cap : Nat} {zs : List Int} (h : St o (rowI g n cap zs :: R) w) : XIn w (some ⟨g, 0, none⟩) n zs :=
  ⟨row_len h, fun _ => ⟨g, 0, rfl, fun j hj => by rw [Nat.zero_add]; exact row_cell h hj⟩⟩
theorem own_slice {w : World} {base t n : Nat} {v : Value} {xs : List Value} (h : w.ownsRow base t 1 v n xs) : ∃ la lc, v = .slice la n lc := by
  rcases h.2 with ⟨rfl, hn⟩ | ⟨g, cap, cur, rfl, _⟩
  · exact ⟨none, 0, by rw [hn]⟩
  · exact ⟨_, _, rfl⟩
end
end Go.Proofs.YtbpilhjomfkpaaaGreatDoor
