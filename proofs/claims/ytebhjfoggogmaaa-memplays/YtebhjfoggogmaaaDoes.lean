/- One step of a script, whatever it is; and what a law's set-up lays. -/
import Derived.Test.YtebhjfoggogmaaaDoesC
namespace Go.Proofs.Ytebhjfoggogmaaa
open Go.RowKit
set_option linter.unusedVariables false
set_option linter.unusedSimpArgs false

/-- One step of a script, whatever it is: it answers true, and both sides stay alike. -/
theorem does_any {b : Nat} {w : World} {m r c x y d : Nat} {kind : Int} {s : Mt} {v v2 : Value} {xs : List Int} {n : Nat} (o : OpD) (h : Pair b w m r c x y d kind s v v2 xs) (hw : s.within n) (hn : n ≤ 2199023255552)
    (hL : ListAt w o.la o.ll o.lc o.zs) (hap : ∀ a, o.la = some a → 0 < o.ll → a.block ≠ c ∧ a.block ≠ d) :
    Calls Try.prog 14 #[.pointer (some ⟨m, 0, none⟩), .pointer (some ⟨x, 0, none⟩), .pointer (some ⟨r, 0, none⟩), .pointer (some ⟨y, 0, none⟩), .agg #[.bool o.other, .int .i64 o.kind, .int .i64 o.i, .int .i64 o.x, .int .i64 o.old, .slice o.la o.ll o.lc]] w fun e w' => e = .returned (.bool true) ∧ Did b w w' m r c x y d kind n v v2 xs := by
  obtain ⟨other, k, i, xv, old, la, ll, lc, zs⟩ := o
  simp only at *
  by_cases k1 : k = 1
  · subst k1; exact does_begin other i xv old la ll lc h hw hn
  by_cases k2 : k = 2
  · subst k2; exact does_load other i xv old la ll lc h hw hn
  by_cases k3 : k = 3
  · subst k3; exact does_store other i xv old la ll lc h hw hn
  by_cases k4 : k = 4
  · subst k4; exact does_trade other i xv old la ll lc h hw hn
  by_cases k5 : k = 5
  · subst k5; exact does_fill other i xv old la ll lc zs h hw hL hap
  by_cases k6 : k = 6
  · subst k6; exact does_all other i xv old la ll lc h hw
  · exact does_none other k i xv old la ll lc h hw k1 k2 k3 k4 k5 k6

theorem carry {w w' : World} {i : Nat} {o : Obj} (h : w.heap[i]? = some o) (k : Kept (fun _ => False) w w') : w'.heap[i]? = some o := (k.block i (lt_of_heap h) (fun f => f)).trans h
theorem calm_trans {a b c : World} (h : Kept (fun _ => False) a b) (k : Kept (fun _ => False) b c) : Kept (fun _ => False) a c := h.trans k (fun _ _ f => f)

/-- A new meter of type t. -/
structure NewM (t : TypeId) (w w' : World) : Prop where
  size : w'.heap.size = w.heap.size + 1
  at_ : w'.heap[w.heap.size]? = some (.cells #[.int .i64 0, .int .i64 0, .int .i64 0, .int .i64 0, .slice none 0 0] t)
  calm : Kept (fun _ => False) w w'
theorem newM (t : TypeId) (w : World) : NewM t w (w.alloc (.cells #[.int .i64 0, .int .i64 0, .int .i64 0, .int .i64 0, .slice none 0 0] t)) := ⟨by simp, heap_alloc_new w _, boxed _ _⟩
/-- A new row of type t, of n cells, with a meter m. -/
structure NewR (t : TypeId) (m : Nat) (kind : Int) (n : Nat) (w w' : World) : Prop where
  size : w'.heap.size = w.heap.size + 2
  cells : w'.heap[w.heap.size]? = some (.cells (ints (List.replicate n 0)) 2)
  row : w'.heap[w.heap.size + 1]? = some (.cells #[.pointer (some ⟨m, 0, none⟩), .int .i64 kind, .slice (some ⟨w.heap.size, 0, none⟩) n n] t)
  calm : Kept (fun _ => False) w w'
theorem newR (t : TypeId) (m : Nat) (kind : Int) (n : Nat) (w : World) : NewR t m kind n w ((w.alloc (.cells (ints (List.replicate n 0)) 2)).alloc (.cells #[.pointer (some ⟨m, 0, none⟩), .int .i64 kind, .slice (some ⟨w.heap.size, 0, none⟩) n n] t)) := by
  generalize h1 : w.alloc (.cells (ints (List.replicate n 0)) 2) = w1
  have s1 : w1.heap.size = w.heap.size + 1 := by rw [← h1]; simp
  have m1 : w1.heap[w.heap.size]? = some (.cells (ints (List.replicate n 0)) 2) := by rw [← h1]; exact heap_alloc_new w _
  have k1 : Kept (fun _ => False) w w1 := by rw [← h1]; exact boxed _ _
  refine ⟨by simp [s1], carry m1 (boxed _ _), ?_, calm_trans k1 (boxed _ _)⟩
  rw [← s1]
  exact heap_alloc_new w1 _

theorem newMeter_f (w : World) : Calls Try.prog 10 #[] w fun e w' => e = .returned (.pointer (some ⟨w.heap.size, 0, none⟩)) ∧ NewM 79 w w' :=
  (newMeter_any w).mono fun e w' ⟨he, hw⟩ => ⟨he, hw ▸ newM 79 w⟩
theorem newRow_f (m : Nat) (kind n : Int) (w : World) (h0 : 1 ≤ n) (h1 : n ≤ 4096) : Calls Try.prog 11 #[.pointer (some ⟨m, 0, none⟩), .int .i64 kind, .int .i64 n] w fun e w' => e = .returned (.tuple #[.pointer (some ⟨w.heap.size + 1, 0, none⟩), .int .i64 0]) ∧ NewR 81 m kind n.toNat w w' :=
  (newRow_int (some ⟨m, 0, none⟩) kind n w h0 h1).mono fun e w' ⟨he, hw⟩ => ⟨he, hw ▸ newR 81 m kind n.toNat w⟩
theorem refNew_f (m : Nat) (kind n : Int) (w : World) (h0 : 1 ≤ n) (h1 : n ≤ 4096) : Calls Try.prog 13 #[.pointer (some ⟨m, 0, none⟩), .int .i64 kind, .int .i64 n] w fun e w' => e = .returned (.pointer (some ⟨w.heap.size + 1, 0, none⟩)) ∧ NewR 48 m kind n.toNat w w' :=
  (refNew_yes (some ⟨m, 0, none⟩) kind n w h0 h1).mono fun e w' ⟨he, hw⟩ => ⟨he, hw ▸ newR 48 m kind n.toNat w⟩

theorem meter_made {t : TypeId} {b : Nat} {w w' W : World} (h : NewM t w w') (k : Kept (fun _ => False) w' W) (hb : w.heap.size < b) (hW : b ≤ W.heap.size) : MeterS t 50 b W w.heap.size Mt.zero (.slice none 0 0) :=
  ⟨carry h.at_ k, World.ownsRow_nil _ _ _ _, hb, hW⟩
theorem row_made {t : TypeId} {b m : Nat} {kind : Int} {n : Nat} {w w' W : World} (h : NewR t m kind n w w') (k : Kept (fun _ => False) w' W) (hn : n ≤ 4096) (hb : w.heap.size + 1 < b) (h1 : w.heap.size + 1 ≠ m) (h2 : w.heap.size ≠ m) : RowIn t b W (w.heap.size + 1) w.heap.size m kind (List.replicate n 0) :=
  ⟨by simpa using carry h.row k, carry h.cells k, by simpa using hn, hb, by omega, by omega, h1, h2⟩
end Go.Proofs.Ytebhjfoggogmaaa
