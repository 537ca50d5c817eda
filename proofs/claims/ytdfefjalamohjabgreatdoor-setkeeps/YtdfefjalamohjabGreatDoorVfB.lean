/- A spot is come to. -/
import Derived.Test.YtdfefjalamohjabGreatDoorVfA
import Derived.Test.YtdfefjalamohjabGreatDoorPsD
namespace Go.Proofs.YtdfefjalamohjabGreatDoor
open Go.RowKit
set_option linter.unusedVariables false
set_option linter.unusedSimpArgs false
attribute [local go_sem ↓] Go.wp_at_zero Go.wp_at_succ

def bCells (l : List Bool) : Array Value := (l.map Value.bool).toArray
def nCells (l : List Int) : Array Value := (l.map (Value.int .i64)).toArray
theorem bCells_at (l : List Bool) (k : Nat) (hk : k < l.length) : (bCells l)[k]? = some (.bool (l.getD k true)) := by
  simp [bCells, hk, List.getD_eq_getElem?_getD]
theorem nCells_at (l : List Int) (k : Nat) (hk : k < l.length) : (nCells l)[k]? = some (.int .i64 (l.getD k 0)) := by
  simp [nCells, hk, List.getD_eq_getElem?_getD]
theorem bCells_set (l : List Bool) (k : Nat) (x : Bool) : (bCells l).setIfInBounds k (.bool x) = bCells (l.set k x) := by
  simp [bCells, List.map_set]
theorem nCells_set (l : List Int) (k : Nat) (x : Int) : (nCells l).setIfInBounds k (.int .i64 x) = nCells (l.set k x) := by
  simp [nCells, List.map_set]
theorem spCells_length (l : List Spt) : (spCells l).length = l.length * 4 := by
  induction l with
  | nil => rfl
  | cons x l ih => simp only [spCells, List.length_append, Spt.cells, List.length_cons, List.length_nil, ih]; omega
theorem spCells_append (a b : List Spt) : spCells (a ++ b) = spCells a ++ spCells b := by
  induction a with
  | nil => rfl
  | cons x l ih => simp [spCells, ih]
/-- The places of a walk: its block, the table, the list, what is seen, how often, what is wrong. -/
structure Wad where
  k : Nat
  bt : Nat
  vl : Value
  gs : Nat
  gc : Nat
  gw : Nat
def wkC (A : Wad) (n : Nat) (vt : Value) : Array Value := #[.slice (some ⟨A.bt, 0, none⟩) 23 23, A.vl, .slice (some ⟨A.gs, 0, none⟩) (n * 1122) (n * 1122), vt, .slice (some ⟨A.gc, 0, none⟩) n n, .slice (some ⟨A.gw, 0, none⟩) n n]
section
variable {o w : World} {A : Wad} {L : List Ins} {vt : Value} {V : Vst} {R : List It}
theorem St.perm {o w : World} {its its' : List It} (h : St o its w) (hp : its.Perm its') : St o its' w :=
  ⟨(hp.flatMap_right It.fp).nodup_iff.1 h.nodup, fun i hi => h.all i (hp.mem_iff.2 hi), fun i hi => h.high i (hp.mem_iff.2 hi), h.kept⟩
end
end Go.Proofs.YtdfefjalamohjabGreatDoor
