/- More of what the laws over four threads have in common: View, Writes, arrays of four. -/
import Derived.Test.YtnchfomoaonbkaaGreatTxX
import Derived.Test.YtnchfomoaonbkaaGreatTxN
namespace Go.Proofs.YtnchfomoaonbkaaGreat
open Go.RowKit
set_option linter.unusedVariables false
set_option linter.unusedSimpArgs false
def sB (S : Nat → Int) : Array Value := #[.int .i64 (S 0), .int .i64 (S 1), .int .i64 (S 2), .int .i64 (S 3)]
def wB (W : Nat → Bool) : Array Value := #[.bool (W 0), .bool (W 1), .bool (W 2), .bool (W 3)]
theorem sB_at (S : Nat → Int) {k : Nat} (h : k < 4) : (sB S)[k]? = some (.int .i64 (S k)) := by
  rcases k_cases h with rfl | rfl | rfl | rfl <;> rfl
theorem wB_at (W : Nat → Bool) {k : Nat} (h : k < 4) : (wB W)[k]? = some (.bool (W k)) := by
  rcases k_cases h with rfl | rfl | rfl | rfl <;> rfl
theorem sB_set (S : Nat → Int) {k : Nat} (h : k < 4) (x : Int) : (sB S).setIfInBounds k (.int .i64 x) = sB (upd S k x) := by
  rcases k_cases h with rfl | rfl | rfl | rfl <;> rfl
theorem wB_set (W : Nat → Bool) {k : Nat} (h : k < 4) (x : Bool) : (wB W).setIfInBounds k (.bool x) = wB (upd W k x) := by
  rcases k_cases h with rfl | rfl | rfl | rfl <;> rfl
theorem gsq_own {c : Cfg} (hf : c.fits = true) (zs : List Int) (f : Nat → MwD) (j : Nat) : (gsq c zs f j).own := by
  induction j with
  | zero => exact Gp.own_new c zs
  | succ j ih => exact (ih.goes (gsq_ok hf zs f j) (gsq_gate hf zs f j) (f j).mv).1
theorem fieldSl (a b : Option Addr) (n m c d : Nat) (x y : Int) (W : World) : (Instr.field 84 (.agg #[.slice a n c, .int .i64 x, .int .i64 y, .slice b m d]) 2).run Tryz.prog W = .ok (.slice b m d) W := by kernel_rfl
theorem neLast (W : World) : (binOp .neq 53 (.agg #[.int .i64 4, .int .i64 0, .int .i64 0]) (.agg #[.int .i64 4, .int .i64 0, .int .i64 0])).run Tryz.prog W = .ok (.bool false) W := by kernel_rfl
section
variable {o w : World} {R : List It} {A : Ad} {c : Cfg} {g : Gp} {Ps : Nat → TA} {G : Nat}
theorem GQ.view (h : GQ o c A G Ps g R w) {n : Nat} (hk : g.ok c n) : Calls Tryz.prog 23 #[.pointer (some ⟨A.sp, 0, none⟩)] w fun e w' => ∃ qa ca qb cb, e = .returned (.agg #[.slice qa g.z.xs.length ca, .int .i64 g.z.x.n, .int .i64 g.z.x.o, .slice (some ⟨qb, 0, none⟩) g.z.hs.length cb]) ∧
    GQ o c A G Ps g (ownI 2 1 (.slice qa g.z.xs.length ca) g.z.xs.length (clCells g.z.xs) :: ownI 109 8 (.slice (some ⟨qb, 0, none⟩) g.z.hs.length cb) g.z.hs.length (slCells (slots g.z.hs g.z.ws)) :: R) w' := by
  obtain ⟨v, u, hJ, h⟩ := h
  refine (spView h 5 rfl hk.z.wl hk.z.h1 hk.z.h8).mono ?_
  rintro e w' ⟨va, vs, he, q⟩
  obtain ⟨qa, ca, rfl⟩ := own_form (n := g.z.xs.length) (q.get 0 rfl)
  obtain ⟨qb, cb, rfl⟩ := q.form 1 rfl (by have := hk.z.h1; omega)
  have p := List.perm_append_comm (l₁ := [ownI 2 1 (.slice qa g.z.xs.length ca) g.z.xs.length (clCells g.z.xs), ownI 109 8 (.slice (some ⟨qb, 0, none⟩) g.z.hs.length cb) g.z.hs.length (slCells (slots g.z.hs g.z.ws))]) (l₂ := gpL c A G Ps g v u)
  refine ⟨qa, ca, qb, cb, he, v, u, hJ, q.perm ?_⟩
  have := p.append_right R
  simpa using this
theorem GQ.slots (h : GQ o c A G Ps g R w) (i : Nat) {gg cap : Nat} {hs : List Hd} {ws : List Int} (hi : R[i]? = some (ownI 109 8 (.slice (some ⟨gg, 0, none⟩) hs.length cap) hs.length (slCells (slots hs ws)))) (e : ws.length = hs.length * 2) {k : Nat} (hk : k < hs.length) :
    w.cell? ⟨gg, k * 8, none⟩ = some (.int .i64 (hs.getD k Hd.zero).gn) ∧ w.cell? ⟨gg, k * 8 + 1, none⟩ = some (.int .i64 (hs.getD k Hd.zero).sa) ∧ w.cell? ⟨gg, k * 8 + 2, none⟩ = some (.int .i64 (hs.getD k Hd.zero).sp) ∧ w.cell? ⟨gg, k * 8 + 3, none⟩ = some (.int .i64 (hs.getD k Hd.zero).th) ∧ w.cell? ⟨gg, k * 8 + 4, none⟩ = some (.bool (hs.getD k Hd.zero).dm) ∧ w.cell? ⟨gg, k * 8 + 5, none⟩ = some (.int .i64 (hs.getD k Hd.zero).wy) := by
  obtain ⟨v, u, hJ, h⟩ := h
  obtain ⟨b0, b1, b2, b3, b4, b5, -, -⟩ := slot_cells h (6 + i) (by rw [Nat.add_comm]; exact hi) e hk
  exact ⟨b0, b1, b2, b3, b4, b5⟩
theorem GQ.writes (h : GQ o c A G Ps g R w) {n : Nat} (hg : g.ok c n) {k : Nat} (hk : k < 4) : Calls Tryz.prog 38 #[.pointer (some ⟨(Ps k).T, 0, none⟩)] w fun e w' => ∃ p, e = .returned (.slice (some ⟨p, 0, none⟩) (g.ts k).wr.length (g.ts k).wr.length) ∧ GQ o c A G Ps g R w' := by
  obtain ⟨v, u, hJ, h⟩ := h
  have hf := hg.ts k hk
  refine (tWrites (h.pick hk) rfl hf.wl (fun p hp => ?_)).mono ?_
  · obtain ⟨a1, a2⟩ := inN_iff.1 (hf.wc p hp)
    have := (Cfg.fits_cells hg.f).2.1
    exact wf_small a1 (by omega)
  · rintro e w' ⟨p, he, q⟩
    exact ⟨p, he, v, u, hJ, gUnpick hk q.pop⟩
end
end Go.Proofs.YtnchfomoaonbkaaGreat
