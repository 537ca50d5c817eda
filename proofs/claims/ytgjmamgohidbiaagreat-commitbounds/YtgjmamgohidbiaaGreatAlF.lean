/- A commit with nobody else at work: how many steps, which of them waits, what is left. -/
import Derived.Test.YtgjmamgohidbiaaGreatAlR
namespace Go.Proofs.YtgjmamgohidbiaaGreat
open Go.RowKit
set_option linter.unusedVariables false
set_option linter.unusedSimpArgs false

/-- The end by the verdict. -/
def endOf (v : Int) : Int := if v = 2 then 9 else if v = 3 then 8 else 0
def alK (v : Int) (L m n : Nat) : Nat := if endOf v = 0 then 2 + L + (m + (n + 2)) else 2 + L + 2
theorem judged_won (x : Cm) {v : Int} (h : endOf v = 0) : x.judged v = x.doomOn ⟨x.th, x.lk.vs, []⟩ := by
  unfold endOf at h
  unfold Cm.judged
  split at h
  · omega
  · split at h
    · omega
    · rename_i h1 h2
      rw [if_neg h1, if_neg h2]
theorem judged_lost (x : Cm) {v : Int} (h : endOf v ≠ 0) : x.judged v = x.giveUp (endOf v) := by
  unfold endOf at *
  unfold Cm.judged
  split
  · rfl
  · rename_i h1
    rw [if_neg h1] at h
    split
    · rfl
    · rename_i h2
      rw [if_neg h2] at h
      exact absurd rfl h
theorem al_run {c : Cfg} {z : SSt} {ps : List Pr} {wr : Sg} {g : Int} (hl : z.hs.length = 8) (hx : z.x = ⟨g, 0⟩) (hm : (nowAt z.hs 0).mine 1 = true) (hp : 0 < ps.length) {v : Int} (hv : v = vdV c 5 0 (vicsOf z wr 0)) {K : Nat} (hK : K = alK v (lookN z 0) (vicsOf z wr 0).length ps.length) :
    (∀ j, j < K → (cS c (z, Cm.new 0 1 1 5 ps wr 8, 0) j).2.1.done = false ∧ (cS c (z, Cm.new 0 1 1 5 ps wr 8, 0) j).2.1.ans (cS c (z, Cm.new 0 1 1 5 ps wr 8, 0) j).1 = if j = 2 + lookN z 0 ∧ endOf v = 9 then 2 else 1) ∧
    (cS c (z, Cm.new 0 1 1 5 ps wr 8, 0) K).2.1.done = true ∧ (cS c (z, Cm.new 0 1 1 5 ps wr 8, 0) K).2.1.end_ = endOf v ∧ (cS c (z, Cm.new 0 1 1 5 ps wr 8, 0) K).2.1.won = decide (endOf v = 0) ∧ (cS c (z, Cm.new 0 1 1 5 ps wr 8, 0) K).2.1.lk.vs = vicsOf z wr 0 ∧
    (cS c (z, Cm.new 0 1 1 5 ps wr 8, 0) K).1.x = ⟨g + 2, 0⟩ ∧ (cS c (z, Cm.new 0 1 1 5 ps wr 8, 0) K).1.ws = z.ws ∧
    (cS c (z, Cm.new 0 1 1 5 ps wr 8, 0) K).1.xs = (if endOf v = 0 then putL z.xs ps else z.xs) ∧
    (cS c (z, Cm.new 0 1 1 5 ps wr 8, 0) K).1.hs = (freeOp 1).H (if endOf v = 0 then (dzS (heldZ z wr 0 1) ⟨1, vicsOf z wr 0, []⟩ (vicsOf z wr 0).length).1.hs else z.hs) 0 := by
  have hxo : z.x.o = 0 := by rw [hx]
  obtain ⟨lk, l1, l2, l3⟩ := run_judged (c := c) (z := z) (so := 0) (ge := 1) (th := 1) (sp := 5) (ps := ps) (wr := wr) (df := 0) rfl hxo hm (by rw [hl]; decide)
  rw [hl, ← hv] at l2
  rw [hl] at l3
  obtain ⟨r1, r2, r3, r4⟩ := heldZ_rest (z := z) (wr := wr) (so := 0) (th := 1) rfl hxo
  have hxn : z.x.n = g := by rw [hx]
  generalize vicsOf z wr 0 = V at *
  by_cases he : endOf v = 0
  · have hK' : K = 2 + lookN z 0 + (V.length + (ps.length + 2)) := by rw [hK]; unfold alK; rw [if_pos he]
    rw [judged_won _ he] at l2
    simp only [l1] at l2
    obtain ⟨q1, q2⟩ := run_won (c := c) (so := 0) (ge := 1) (th := 1) (sp := 5) (ps := ps) (lk := lk) (z1 := heldZ z wr 0 1) (nm := z.x.n + 1) (df1 := nxt c 5 0 V) V hp
    have hR : Runs c (z, Cm.new 0 1 1 5 ps wr 8, 0) (2 + lookN z 0 + (V.length + (ps.length + 2))) := l3.add (by rw [l2]; exact q2)
    have hF := cS_add c (z, Cm.new 0 1 1 5 ps wr 8, 0) (2 + lookN z 0) (V.length + (ps.length + 2))
    rw [l2, q1] at hF
    obtain ⟨d1, d2, d3⟩ := dzS_rest (heldZ z wr 0 1) ⟨1, V, []⟩ V.length
    obtain ⟨w1, w2, w3, w4⟩ := zW_rest ps (dzS (heldZ z wr 0 1) ⟨1, V, []⟩ V.length).1
    rw [hK', hF]
    refine ⟨fun j hj => ?_, rfl, ?_, ?_, l1, ?_, ?_, ?_, ?_⟩
    · obtain ⟨a, b⟩ := hR j hj
      refine ⟨a, ?_⟩
      rw [b, if_neg (by omega)]
    · rw [he]; rfl
    · simp [he]
    · show giveX (zW _ ps).x 1 = _
      rw [w1, d1, r1]
      show (⟨z.x.n + 1 + 1, 0⟩ : Gt) = _
      rw [hxn]
      congr 1
      omega
    · show (zW _ ps).ws = _
      rw [w3, d3, r4]
    · rw [if_pos he]
      show (zW _ ps).xs = _
      rw [w4, d2, r2]
    · rw [if_pos he]
      show (freeOp 1).H (zW _ ps).hs 0 = _
      rw [w2]
  · have hK' : K = 2 + lookN z 0 + 2 := by rw [hK]; unfold alK; rw [if_neg he]
    rw [judged_lost _ he] at l2
    obtain ⟨q1, q2⟩ := run_lost (c := c) (so := 0) (ge := 1) (th := 1) (sp := 5) (ps := ps) (lk := lk) (z1 := heldZ z wr 0 1) (nm := z.x.n + 1) (df1 := nxt c 5 0 V) (e := endOf v)
    have hF := cS_add c (z, Cm.new 0 1 1 5 ps wr 8, 0) (2 + lookN z 0) 2
    rw [l2, q1] at hF
    rw [hK', hF]
    refine ⟨fun j hj => ?_, rfl, rfl, ?_, l1, ?_, ?_, ?_, ?_⟩
    · by_cases hja : j < 2 + lookN z 0
      · obtain ⟨a, b⟩ := l3 j hja
        refine ⟨a, ?_⟩
        rw [b, if_neg (by omega)]
      · obtain ⟨i, rfl⟩ : ∃ i, j = 2 + lookN z 0 + i := ⟨j - (2 + lookN z 0), by omega⟩
        rw [cS_add, l2]
        obtain ⟨a, b⟩ := q2 i (by omega)
        refine ⟨a, ?_⟩
        rw [b]
        by_cases hi : i = 0 ∧ endOf v = 9
        · rw [if_pos hi, if_pos ⟨by omega, hi.2⟩]
        · rw [if_neg hi, if_neg (fun e => hi ⟨by omega, e.2⟩)]
    · simp [he]
    · show giveX (heldZ z wr 0 1).x 1 = _
      rw [r1]
      show (⟨z.x.n + 1 + 1, 0⟩ : Gt) = _
      rw [hxn]
      congr 1
      omega
    · show (heldZ z wr 0 1).ws = _
      rw [r4]
    · rw [if_neg he]
      show (heldZ z wr 0 1).xs = _
      rw [r2]
    · rw [if_neg he]
      show (freeOp 1).H (heldZ z wr 0 1).hs 0 = _
      rw [r3]
theorem vics_so {z : SSt} {wr : Sg} {t : Vt} (h : t ∈ vicsOf z wr 0) : t.so ≠ 0 := by
  unfold vicsOf wantOf at h
  obtain ⟨s, hs, rfl⟩ := List.mem_map.1 h
  have h1 := (List.mem_filter.1 (List.mem_filter.1 hs).1).2
  simp at h1
  show ((s : Nat) : Int) ≠ 0
  omega
theorem free_set {hs : List Hd} {g : Int} (hl : hs.length = 8) (hm : (nowAt hs 0).mine g = true) : (freeOp g).H hs 0 = hs.set 0 ⟨g, 0, 0, 0, false, 0⟩ := by
  have e := headAt_in (hs := hs) (k := 0) (by omega)
  rw [show ((0 : Nat) : Int) = 0 from rfl] at e
  unfold nowAt at hm
  rw [e] at hm
  simp only [Option.getD_some, Hd.mine, Bool.and_eq_true, beq_iff_eq] at hm
  unfold HOp.H
  simp [freeOp, e, hm.1.1, hm.1.2]
theorem doom_otherW {z : SSt} {c : Cfg} {n : Nat} (hok : z.ok c n) {wr : Sg} {own : Nat} {wy : Int} (hw : isTh wy = true) {WN : List Vt} (hWN : WN = wantOf z.hs z.ws wr (othersOf z.hs.length own)) (j : Nat) (hj : j ≤ WN.length) (s : Nat) (h : ∀ i (hi : i < WN.length), WN[i].so ≠ (s : Int)) : (dzS z ⟨wy, WN, []⟩ j).1.hs[s]? = z.hs[s]? := by
  subst hWN
  exact (doom_all hok hw j hj).2 s (fun i hi => h i (by omega))
theorem al_free {c : Cfg} {N : Nat} {z : SSt} {wr : Sg} (ok : z.ok c N) (hl : z.hs.length = 8) (hx : z.x.o = 0) (hm : (nowAt z.hs 0).mine 1 = true) (b : Prop) [Decidable b] :
    (freeOp 1).H (if b then (dzS (heldZ z wr 0 1) ⟨1, vicsOf z wr 0, []⟩ (vicsOf z wr 0).length).1.hs else z.hs) 0 = (if b then (dzS (heldZ z wr 0 1) ⟨1, vicsOf z wr 0, []⟩ (vicsOf z wr 0).length).1.hs else z.hs).set 0 ⟨1, 0, 0, 0, false, 0⟩ := by
  split
  · obtain ⟨r1, r2, r3, r4⟩ := heldZ_rest (z := z) (wr := wr) (so := 0) (th := 1) rfl hx
    have okh : (heldZ z wr 0 1).ok c (N + 2 + lookN z 0) := kS_ok ((ok.take 1).look 0) _
    have hw : vicsOf z wr 0 = wantOf (heldZ z wr 0 1).hs (heldZ z wr 0 1).ws wr (othersOf (heldZ z wr 0 1).hs.length 0) := by rw [r3, r4]; rfl
    have h0 := doom_otherW okh (wr := wr) (own := 0) (wy := 1) rfl hw (vicsOf z wr 0).length (Nat.le_refl _) 0 (fun i hi => vics_so (List.getElem_mem hi))
    have hlen : (dzS (heldZ z wr 0 1) ⟨1, vicsOf z wr 0, []⟩ (vicsOf z wr 0).length).1.hs.length = 8 := by
      have h1 := (dzS_ok (d := ⟨1, vicsOf z wr 0, []⟩) okh (vicsOf z wr 0).length).hl
      have h2 := ok.hl
      omega
    refine free_set hlen ?_
    have e : nowAt (dzS (heldZ z wr 0 1) ⟨1, vicsOf z wr 0, []⟩ (vicsOf z wr 0).length).1.hs 0 = nowAt z.hs 0 := by
      unfold nowAt headAt
      rw [if_pos (Int.le_refl 0), if_pos (Int.le_refl 0), Int.toNat_zero, h0, r3]
    rw [e]; exact hm
  · exact free_set hl hm
end Go.Proofs.YtgjmamgohidbiaaGreat
