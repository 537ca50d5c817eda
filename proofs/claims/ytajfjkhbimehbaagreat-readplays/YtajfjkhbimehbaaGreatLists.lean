/- Lists of int that came in; the lowest bits of a number. -/
import Derived.Test.YtajfjkhbimehbaaGreatKit
import Derived.Test.YtajfjkhbimehbaaGreatProg
import Derived.OpenShut
import Derived.SizedLaws
namespace Go.Proofs.YtajfjkhbimehbaaGreat
open Go.RowKit Go.ChangeShapes Go.WideShapes Go.ChangeAt
set_option linter.unusedVariables false
set_option linter.unusedSimpArgs false

theorem and_mask (z : Int) (k : Nat) (hk : k < 63) : bits .and .i64 z ((2 ^ k - 1 : Nat) : Int) = z % ((2 ^ k : Nat) : Int) := by
  show IntKind.i64.wrap ((BitVec.ofInt 64 z &&& BitVec.ofInt 64 ((2 ^ k - 1 : Nat) : Int)).toNat : Int) = _
  have hp : 2 ^ k < 2 ^ 63 := Nat.pow_lt_pow_right (by decide) hk
  have h2 : (BitVec.ofInt 64 ((2 ^ k - 1 : Nat) : Int)).toNat = 2 ^ k - 1 := by
    rw [BitVec.ofInt_natCast, BitVec.toNat_ofNat]; exact Nat.mod_eq_of_lt (by omega)
  rw [BitVec.toNat_and, h2, Nat.and_two_pow_sub_one_eq_mod, BitVec.toNat_ofInt]
  have hpos : 0 < 2 ^ k := Nat.two_pow_pos k
  have hz0 : 0 ≤ z % ((2 ^ k : Nat) : Int) := Int.emod_nonneg _ (by omega)
  have hz1 : z % ((2 ^ k : Nat) : Int) < ((2 ^ k : Nat) : Int) := Int.emod_lt_of_pos _ (by omega)
  have hd : ((2 ^ k : Nat) : Int) ∣ ((2 ^ 64 : Nat) : Int) := Int.natCast_dvd_natCast.2 (Nat.pow_dvd_pow 2 (by omega))
  have e : (((z % ((2 ^ 64 : Nat) : Int)).toNat % 2 ^ k : Nat) : Int) = z % ((2 ^ k : Nat) : Int) := by
    rw [Int.natCast_emod, Int.toNat_of_nonneg (Int.emod_nonneg _ (by decide)), Int.emod_emod_of_dvd _ hd]
  have e2 : (((z % (2 ^ 64 : Nat)).toNat % 2 ^ k : Nat) : Int) = z % ((2 ^ k : Nat) : Int) := e
  rw [e2, IntKind.wrap_i64]
  generalize z % ((2 ^ k : Nat) : Int) = r at hz0 hz1
  generalize 2 ^ k = P at *
  omega
theorem and7 (z : Int) : bits .and .i64 z 7 = z % 8 := and_mask z 3 (by decide)
theorem and255 (z : Int) : bits .and .i64 z 255 = z % 256 := and_mask z 8 (by decide)
theorem and1023 (z : Int) : bits .and .i64 z 1023 = z % 1024 := and_mask z 10 (by decide)
theorem and15 (z : Int) : bits .and .i64 z 15 = z % 16 := and_mask z 4 (by decide)
theorem and3 (z : Int) : bits .and .i64 z 3 = z % 4 := and_mask z 2 (by decide)
theorem and20 (z : Int) : bits .and .i64 z 1048575 = z % 1048576 := and_mask z 20 (by decide)
theorem and1 (z : Int) : bits .and .i64 z 1 = z % 2 := and_mask z 1 (by decide)

theorem Kept.cell {F : Nat → Prop} {a w : World} (h : Kept F a w) {p : Addr} {u : Value} (hc : a.cell? p = some u) (hf : ¬ F p.block) : w.cell? p = some u :=
  (World.cell?_of_block (h.block p.block (World.block_lt_of_cell? a p hc) hf)).trans hc

/-- A list of int in memory, of n elements. -/
def IntsIn (w : World) (la : Option Addr) (n : Nat) (zs : List Int) : Prop :=
  n = zs.length ∧ (0 < n → ∃ g o, la = some ⟨g, o, none⟩ ∧ ∀ j, j < n → w.cell? ⟨g, o + j, none⟩ = some (.int .i64 (zs.getD j 0)))
theorem IntsIn.drew {w : World} {la : Option Addr} {n : Nat} {zs : List Int} (h : IntsIn w la n zs) : IntsIn w.drew la n zs := h
/-- It stays where its block isn't touched. -/
theorem IntsIn.kept {w w' : World} {la : Option Addr} {n : Nat} {zs : List Int} (h : IntsIn w la n zs) (k : Kept (fun _ => False) w w') : IntsIn w' la n zs := by
  refine ⟨h.1, fun hn => ?_⟩
  obtain ⟨g, o, hla, hc⟩ := h.2 hn
  exact ⟨g, o, hla, fun j hj => k.cell (hc j hj) (fun f => f)⟩

theorem IntsIn.below {w w' : World} {la : Option Addr} {n : Nat} {zs : List Int} {B : Nat} (h : IntsIn w la n zs) (k : Below B w w') (hB : w.heap.size ≤ B) : IntsIn w' la n zs := by
  refine ⟨h.1, fun hn => ?_⟩
  obtain ⟨g, o, hla, hc⟩ := h.2 hn
  exact ⟨g, o, hla, fun j hj => (k.cell (Nat.lt_of_lt_of_le (World.block_lt_of_cell? w _ (hc j hj)) hB)).trans (hc j hj)⟩

/-- A list of int64 that came in: nil, or a row of cells. -/
def ListAt (w : World) (la : Option Addr) (ll lc : Nat) (zs : List Int) : Prop :=
  (la = none ∧ ll = 0 ∧ lc = 0 ∧ zs = []) ∨
  ∃ a, la = some a ∧ ll = zs.length ∧ ll ≤ lc ∧ lc * 8 ≤ 140737488351232 ∧ ∀ j, j < ll → w.cell? (a.add j) = some (.int .i64 (zs.getD j 0))

theorem ListAt.below {B : Nat} {w w' : World} {la : Option Addr} {ll lc : Nat} {zs : List Int} (h : ListAt w la ll lc zs) (k : Below B w w') (hB : w.heap.size ≤ B) : ListAt w' la ll lc zs := by
  rcases h with h | ⟨a, h1, h2, h3, h4, h5⟩
  · exact .inl h
  · refine .inr ⟨a, h1, h2, h3, h4, fun j hj => ?_⟩
    have := World.block_lt_of_cell? w _ (h5 j hj)
    rw [k.cell (p := a.add j) (Nat.lt_of_lt_of_le this hB)]
    exact h5 j hj
section
variable {H : Type} {enc : TypeId × Value → H} {w : World}
theorem Tryz.cells3 : Tryz.prog.cellsOf 3 = 1 := by kernel_rfl
theorem Tryz.bytes3 : Tryz.prog.bytesOf 3 = 8 := by kernel_rfl
theorem open_list {fuel : Nat} {v : Value} {x : DataW H × List MemPlace} (h : DataW.trod enc Tryz.prog w 0 (fun _ => true) true fuel 97 [v] = some x) (hz : ∀ n ∈ x.1.weights Tryz.prog 97, n ≤ reachBytes) :
    ∃ la ll lc zs, v = .slice la ll lc ∧ ListAt w la ll lc zs := by
  rcases open_ints Tryz.underlying97 Tryz.underlying3 Tryz.cells3 h with ⟨hcs, _⟩ | ⟨a, len, cap, zs, hcs, _, hl, hm, hzl, hx, hcell, _⟩
  · simp only [List.cons.injEq, and_true] at hcs
    exact ⟨_, _, _, [], hcs, .inl ⟨rfl, rfl, rfl, rfl⟩⟩
  · simp only [List.cons.injEq, and_true] at hcs
    simp only [if_true] at hzl
    have hr : cap * 8 ≤ 140737488351232 := by
      have := hz ((zs.take len).length * 8 + (zs.drop len).length * 8) (by
        rw [hx]
        simp [DataW.weights, Tryz.underlying97, Tryz.bytes3, lits, Nat.add_mul])
      simp only [List.length_take, List.length_drop, reachBytes] at this
      omega
    refine ⟨_, _, _, zs.take len, hcs, .inr ⟨a, rfl, by simp; omega, hl, hr, fun j hj => ?_⟩⟩
    have := hcell j (by omega)
    simpa [hj] using this

end

theorem list_ints {w : World} {la : Option Addr} {ll lc : Nat} {zs : List Int} (h : ListAt w la ll lc zs) : IntsIn w la ll zs ∧ ll = zs.length ∧ ll * 8 ≤ 140737488351232 := by
  rcases h with ⟨rfl, rfl, rfl, rfl⟩ | ⟨a, rfl, h1, h2, h3, h4⟩
  · exact ⟨⟨rfl, fun h => by omega⟩, rfl, by omega⟩
  · refine ⟨⟨h1, fun h0 => ?_⟩, h1, by omega⟩
    obtain ⟨g, o, spot⟩ := a
    have hs := World.cell?_spot (h4 0 h0)
    have : spot = none := by simpa [Addr.add] using hs
    subst this
    refine ⟨g, o, rfl, fun j hj => ?_⟩
    have := h4 j hj
    have ea : (⟨g, o, none⟩ : Addr).add j = ⟨g, o + j, none⟩ := by unfold Addr.add; split <;> simp_all
    rwa [ea] at this
end Go.Proofs.YtajfjkhbimehbaaGreat
