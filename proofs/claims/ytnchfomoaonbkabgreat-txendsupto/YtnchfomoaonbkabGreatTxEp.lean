/- Rounds in which every thread that is busy goes on: each leaves less to do. No program is named here. -/
import Derived.Test.YtnchfomoaonbkabGreatTxPot
import Derived.Test.YtnchfomoaonbkabGreatTxX
namespace Go.Proofs.YtnchfomoaonbkabGreat
open Go.RowKit
set_option linter.unusedVariables false
set_option linter.unusedSimpArgs false
structure Gp.fin (g : Gp) (c : Cfg) (n : Nat) : Prop where
  ok : g.ok c n
  gate : g.gate c
  liv : g.liv
theorem Gp.fin.goes {g : Gp} {c : Cfg} {n : Nat} (h : g.fin c n) (m : Mv) : (g.goes c m).fin c (n + 5) := ⟨h.ok.goes m, (h.gate.goes h.ok m).1, h.liv.goes h.ok h.gate m⟩
theorem gsq_fin {c : Cfg} (hf : c.fits = true) (zs : List Int) (f : Nat → MwD) (j : Nat) : (gsq c zs f j).fin c (1 + 5 * j) := by
  induction j with
  | zero => exact ⟨Gp.ok_new hf zs, Gp.gate_new c zs, Gp.liv_new c zs⟩
  | succ j ih =>
    have := ih.goes (f j).mv
    rwa [show 1 + 5 * j + 5 = 1 + 5 * (j + 1) by omega] at this
/-- Within a round: k threads have had their turn. -/
structure Inn (c : Cfg) (n : Nat) (g : Gp) (k : Nat) (g1 : Gp) (bs : Bool) : Prop where
  fin : ∃ q, q ≤ n + 5 * k ∧ g1.fin c q
  way : (bs = false ∧ g1 = g ∧ ∀ j, j < k → (g.ts j).dg.phase = 0) ∨ (bs = true ∧ g1.pot < g.pot) ∨ (bs = true ∧ g1.pot ≤ g.pot ∧ ∃ h : Nat, k ≤ h ∧ h < 4 ∧ g1.z.x.o = h + 1)
theorem Gp.gate.busy {g : Gp} {c : Cfg} (hg : g.gate c) {h : Nat} (h4 : h < 4) (ho : g.z.x.o = h + 1) : (g.ts h).dg.phase ≠ 0 := by
  have := (hg.own h h4).2 ho
  intro e
  rw [phase_zero e] at this
  cases this
section
variable {c : Cfg} {n k : Nat} {g g1 : Gp} {bs : Bool}
theorem Inn.idle (h : Inn c n g k g1 bs) (hp : (g1.ts k).dg.phase = 0) : Inn c n g (k + 1) g1 bs := by
  obtain ⟨q, hq, hf⟩ := h.fin
  refine ⟨⟨q, by omega, hf⟩, ?_⟩
  rcases h.way with ⟨a1, a2, a3⟩ | a | ⟨a1, a2, x, a3, a4, a5⟩
  · refine .inl ⟨a1, a2, fun j hj => ?_⟩
    by_cases e : j = k
    · rw [e, ← a2]; exact hp
    · exact a3 j (by omega)
  · exact .inr (.inl a)
  · refine .inr (.inr ⟨a1, a2, x, ?_, a4, a5⟩)
    by_cases e : x = k
    · exact absurd hp (e ▸ hf.gate.busy a4 a5)
    · omega
theorem Inn.goes (h : Inn c n g k g1 bs) (hk : k < 4) (hp : (g1.ts k).dg.phase ≠ 0) (m : Mv) (hm : m.k = k) (h6 : m.n % 8 = 6) : Inn c n g (k + 1) (g1.goes c m) true := by
  obtain ⟨q, hq, hf⟩ := h.fin
  have hf' := hf.goes m
  refine ⟨⟨q + 5, by omega, hf'⟩, ?_⟩
  obtain ⟨p1, p2⟩ := Gp.pot_goes hf.liv hf.ok hf.gate m h6 (by rw [hm]; exact hp)
  rw [hm] at p2
  have hkeep : ∀ x : Nat, x < 4 → x ≠ k → g1.z.x.o = x + 1 → (g1.goes c m).z.x.o = x + 1 := by
    intro x h4 hne ho
    refine (hf'.gate.own x h4).1 ?_
    rw [show (g1.goes c m).ts x = g1.ts x from upd_ne _ (by rw [hm]; exact hne) _]
    exact (hf.gate.own x h4).2 ho
  rcases h.way with ⟨a1, a2, a3⟩ | ⟨a1, a2⟩ | ⟨a1, a2, x, a3, a4, a5⟩
  · subst a2
    by_cases h0 : g1.z.x.o = 0 ∨ g1.z.x.o = k + 1
    · exact .inr (.inl ⟨rfl, p2 h0⟩)
    · have hfew := hf.gate.few
      have hgk := hf.ok.z.gk
      have hpos : 1 ≤ g1.z.x.o := by
        rcases hgk with ⟨b1, b2⟩ | ⟨b1, b2, b3⟩
        · omega
        · exact b1
      obtain ⟨x, hx⟩ : ∃ x : Nat, g1.z.x.o = x + 1 := ⟨(g1.z.x.o - 1).toNat, by omega⟩
      have x4 : x < 4 := by omega
      have hb := hf.gate.busy x4 hx
      have hkx : k ≤ x := by
        by_cases e : x < k
        · exact absurd (a3 x e) hb
        · omega
      have hne : x ≠ k := fun e => h0 (.inr (by rw [hx, e]))
      exact .inr (.inr ⟨rfl, p1, x, by omega, x4, hkeep x x4 hne hx⟩)
  · exact .inr (.inl ⟨rfl, by omega⟩)
  · by_cases e : x = k
    · exact .inr (.inl ⟨rfl, by have := p2 (.inr (by rw [a5, e])); omega⟩)
    · exact .inr (.inr ⟨rfl, by omega, x, by omega, a4, hkeep x a4 e a5⟩)
theorem Inn.start (h : g.fin c n) : Inn c n g 0 g false := ⟨⟨n, by omega, h⟩, .inl ⟨rfl, rfl, fun j hj => by omega⟩⟩
theorem Inn.none (h : Inn c n g 4 g1 false) : g1.z.x.n % 2 = 0 := by
  obtain ⟨q, hq, hf⟩ := h.fin
  rcases h.way with ⟨a1, a2, a3⟩ | ⟨a1, a2⟩ | ⟨a1, a2, x, a3, a4, a5⟩
  · subst a2
    have hfew := hf.gate.few
    rcases hf.ok.z.gk with ⟨b1, b2⟩ | ⟨b1, b2, b3⟩
    · exact b2
    · exfalso
      have x4 : (g1.z.x.o - 1).toNat < 4 := by omega
      exact hf.gate.busy x4 (by omega) (a3 _ x4)
  · cases a1
  · cases a1
theorem Inn.less (h : Inn c n g 4 g1 true) : g1.pot < g.pot := by
  rcases h.way with ⟨a1, a2, a3⟩ | ⟨a1, a2⟩ | ⟨a1, a2, x, a3, a4, a5⟩
  · cases a1
  · exact a2
  · omega
end
theorem Mv.k_of {k : Nat} (h : k < 4) : Mv.k ⟨(k : Int), 0, 6, 0, 0⟩ = k := by
  unfold Mv.k
  simp only
  omega
end Go.Proofs.YtnchfomoaonbkabGreat
