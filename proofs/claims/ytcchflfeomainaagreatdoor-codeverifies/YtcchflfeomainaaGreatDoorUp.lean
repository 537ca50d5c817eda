/- The head of all statements: examples of the document. -/
import Derived.Test.YtcchflfeomainaaGreatDoorPsG
import Derived.Test.YtcchflfeomainaaGreatDoorPr
import Derived.Test.YtcchflfeomainaaGreatDoorVfF
namespace Go.Proofs.YtcchflfeomainaaGreatDoor
open Go.RowKit
set_option linter.unusedVariables false
set_option linter.unusedSimpArgs false

theorem iin_new {w : World} {g : Nat} {l : List Ins} {t : TypeId} {fr : Nat × Nat} {cs : Array Value} (h : w.heap[g]? = some (.cells cs t fr)) (hc : cs = (insCells l).toArray) : IIn w (some ⟨g, 0, none⟩) l.length l := by
  refine ⟨rfl, fun _ => ⟨g, 0, rfl, fun j u hu => ?_⟩⟩
  subst hc
  rw [Nat.zero_add, cell_of_heap h]
  simpa using hu
def plainB (l : List UInt8) : Bool := decide (8 < l.length) || l.all (fun b => decide (b.toNat < 128))
theorem plain_of {l : List UInt8} (h : plainB l = true) : Plain8 l := by
  intro h8 b hb
  unfold plainB at h
  rw [Bool.or_eq_true] at h
  rcases h with h | h
  · simp at h; omega
  · simpa using List.all_eq_true.1 h b hb
theorem plainT_of {s : ByteArray} (h : (linesM s).all (fun x => plainB (saidM x.data.toList)) = true) : PlainT s := fun x hx => plain_of (List.all_eq_true.1 h x hx)
def awT : ByteArray := ⟨#[32, 97, 58, 10, 112, 117, 115, 104, 32, 51, 32, 59, 32, 116, 104, 114, 101, 101, 10, 10, 106, 117, 109, 112, 32, 97]⟩
theorem aw1 : parseM awT = .ok [⟨1, 3⟩, ⟨14, 0⟩] := by kernel_rfl
theorem aw2 : PlainT awT := plainT_of (by kernel_rfl)
def awL : List Ins := [⟨1, 0⟩, ⟨15, 3⟩, ⟨1, 1⟩, ⟨22, 0⟩]
theorem aw3 : verifyM awL = (157, 3) := (verify_run (by kernel_rfl) (k := 10) (by kernel_rfl)).trans (by kernel_rfl)
theorem aw4 : printM [⟨1, -5⟩, ⟨14, 0⟩] = [112, 117, 115, 104, 32, 45, 53, 10, 106, 117, 109, 112, 32, 48, 10] := by kernel_rfl
theorem aw5 : checkM [⟨1, -5⟩, ⟨14, 0⟩] = (0, 0) := by kernel_rfl
theorem aw6 : checkM [⟨5, 8⟩] = (152, 0) := by kernel_rfl
theorem build2 (W : World) : (Instr.buildSlice 23 2 #[(0, .agg #[.int .i64 1, .int .i64 (-5)]), (1, .agg #[.int .i64 14, .int .i64 0])]).run Tryz.prog W = .ok (.slice (some ⟨W.heap.size, 0, none⟩) 2 2) (W.alloc (.cells #[.int .i64 1, .int .i64 (-5), .int .i64 14, .int .i64 0] 48)) := by kernel_rfl
theorem build4 (W : World) : (Instr.buildSlice 23 4 #[(0, .agg #[.int .i64 1, .int .i64 0]), (1, .agg #[.int .i64 15, .int .i64 3]), (2, .agg #[.int .i64 1, .int .i64 1]), (3, .agg #[.int .i64 22, .int .i64 0])]).run Tryz.prog W = .ok (.slice (some ⟨W.heap.size, 0, none⟩) 4 4) (W.alloc (.cells #[.int .i64 1, .int .i64 0, .int .i64 15, .int .i64 3, .int .i64 1, .int .i64 1, .int .i64 22, .int .i64 0] 48)) := by kernel_rfl
theorem equalIn (a b c d : Int) (w : World) : (Op.equalIn 10000 48 (.agg #[.int .i64 a, .int .i64 b]) (.agg #[.int .i64 c, .int .i64 d])).run Tryz.prog w = .ok (decide (a = c) && decide (b = d)) w := by
  rw [run_equalIn_struct w 9999 48 _ _ (by kernel_rfl) (by kernel_rfl)]
  have hi0 : ∀ (x y : Int) (w : World), (Op.equalIn 9999 32 (.int .i64 x) (.int .i64 y)).run Tryz.prog w = .ok (x == y) w := fun x y w => run_equalIn_int w 9998 32 .i64 .i64 x y Tryz.underlying32
  have hi1 : ∀ (x y : Int) (w : World), (Op.equalIn 9999 3 (.int .i64 x) (.int .i64 y)).run Tryz.prog w = .ok (x == y) w := fun x y w => run_equalIn_int w 9998 3 .i64 .i64 x y Tryz.underlying3
  have p0 : ∀ (x y : Int) w, (part 32 #[.int .i64 x, .int .i64 y] 0).run Tryz.prog w = .ok (.int .i64 x) w := fun x y w => run_part_plain (P := Tryz.prog) w (by kernel_rfl) rfl
  have p1 : ∀ (x y : Int) w, (part 3 #[.int .i64 x, .int .i64 y] 1).run Tryz.prog w = .ok (.int .i64 y) w := fun x y w => run_part_plain (P := Tryz.prog) w (by kernel_rfl) rfl
  by_cases h1 : a = c
  · by_cases h2 : b = d
    · simp [Program.fieldsOf, Tryz.underlying48, Op.eqFields, Sem.run_bind, p0, p1, hi0, hi1, h1, h2]
    · simp [Program.fieldsOf, Tryz.underlying48, Op.eqFields, Sem.run_bind, p0, p1, hi0, hi1, h1, h2]
  · simp [Program.fieldsOf, Tryz.underlying48, Op.eqFields, Sem.run_bind, p0, p1, hi0, hi1, h1]
theorem eqIn (a b c d : Int) (w : World) : (binOp .eql 48 (.agg #[.int .i64 a, .int .i64 b]) (.agg #[.int .i64 c, .int .i64 d])).run Tryz.prog w = .ok (.bool (decide (a = c) && decide (b = d))) w := by
  rw [run_eql_struct, equalIn]
  rfl
theorem neIn (a b c d : Int) (w : World) : (binOp .neq 48 (.agg #[.int .i64 a, .int .i64 b]) (.agg #[.int .i64 c, .int .i64 d])).run Tryz.prog w = .ok (.bool (!(decide (a = c) && decide (b = d)))) w := by
  rw [run_neq_struct, equalIn]
  rfl
set_option maxRecDepth 100000 in
set_option maxHeartbeats 2000000 in
theorem awake_any (w : World) (hE : Env w) : Calls Tryz.prog 9 #[] w fun e w' => e = .returned (.bool true) ∧ Kept (fun _ => False) w w' := by
  have hp := Parse_any awT w hE aw2 (by decide)
  rw [aw1] at hp
  have HE := hid hE
  unfold awT at hp
  go_enter Tryz.func9, Tryz.ntmps9
  go_wp2_with fail
  refine hp.mono ?_
  clear hp
  rintro e w1 ⟨lv, rfl, s1⟩
  obtain ⟨la, lc, rfl, hI1, _⟩ := own_iin (show w1.ownsRow 0 48 2 lv ([⟨1, 3⟩, ⟨14, 0⟩] : List Ins).length (insCells [⟨1, 3⟩, ⟨14, 0⟩]) from s1.get 0 rfl)
  have k1 := s1.same
  have hE1 := hE.kept k1
  have hb2 := build2 w1
  have kb := kept_alloc w1 (.cells #[.int .i64 1, .int .i64 (-5), .int .i64 14, .int .i64 0] 48)
  have hpr := Print_any (some ⟨w1.heap.size, 0, none⟩) 2 2 [⟨1, -5⟩, ⟨14, 0⟩] _ (iin_new (l := [⟨1, -5⟩, ⟨14, 0⟩]) (heap_alloc_new w1 (.cells #[.int .i64 1, .int .i64 (-5), .int .i64 14, .int .i64 0] 48)) rfl) (hE1.kept kb) (by decide)
  rw [aw4, aw5] at hpr
  clear s1 hE
  go_wp2_with (simp only [hb2])
  refine hpr.mono ?_
  clear hpr hb2
  rintro e w2 ⟨rfl, k2⟩
  have hb4 := build4 w2
  have hvf := Verify_any (some ⟨w2.heap.size, 0, none⟩) 4 4 awL _ (iin_new (l := awL) (heap_alloc_new w2 (.cells #[.int .i64 1, .int .i64 0, .int .i64 15, .int .i64 3, .int .i64 1, .int .i64 1, .int .i64 22, .int .i64 0] 48)) rfl)
  rw [aw3] at hvf
  go_wp2_with (simp only [hb4])
  refine hvf.mono ?_
  clear hvf hb4
  rintro e w3 ⟨rfl, k3⟩
  have hb1 := buildIn w3 5 8
  have hck := Check_any (some ⟨w3.heap.size, 0, none⟩) 1 1 [⟨5, 8⟩] _ (iin_new (l := [⟨5, 8⟩]) (heap_alloc_new w3 (.cells #[.int .i64 5, .int .i64 8] 48)) rfl)
  rw [aw6] at hck
  go_wp2_with (simp only [hb1])
  refine hck.mono ?_
  clear hck hb1
  rintro e w4 ⟨rfl, k4⟩
  have K12 : Kept (fun _ => False) w1 w4 := ((((kb.trans k2 (fun _ _ f => f)).alloc _).trans k3 (fun _ _ f => f)).alloc _).trans k4 (fun _ _ f => f)
  have HK := hid (k1.trans K12 (fun _ _ f => f))
  have hI4 := hI1.kept K12
  obtain ⟨g, o, rfl⟩ := hI4.addr (by decide)
  obtain ⟨x0, x1⟩ := hI4.cells (j := 0) (by decide)
  obtain ⟨x2, x3⟩ := hI4.cells (j := 1) (by decide)
  simp at x0 x1 x2 x3
  have q1 := eqIn 1 3 1 3
  have q2 := eqIn 14 0 14 0
  clear hI1 hI4 k1 k2 k3 k4 kb K12 hE1
  go_wp2_with (first | simp only [q1, q2])
  go_ret
  exact ⟨rfl, HK.out⟩
end Go.Proofs.YtcchflfeomainaaGreatDoor
