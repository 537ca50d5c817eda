/- Meters: what they have counted and noted, and how they lie in memory. -/
import Derived.Test.YtajfjkhbimehbaaGreatProg
import Derived.Test.YtajfjkhbimehbaaGreatKit
import Derived.Deep.RegionHeld3
import Derived.Deep.DrawnRows
import Derived.RegionTactic
import Derived.ChangeAlike
import Derived.BigRegion
import Derived.Deep.RegionLaw
namespace Go.Proofs.YtajfjkhbimehbaaGreat
open Go.RowKit
set_option linter.unusedVariables false
set_option linter.unusedSimpArgs false
attribute [local go_sem ↓] Go.wp_at_zero Go.wp_at_succ

/-- One access, as a log keeps it. -/
structure Acc where
  st : Int
  th : Int
  kind : Int
  at_ : Int
  op : Int
  ok : Bool
def Acc.cells (a : Acc) : List Value := [.int .i64 a.st, .int .i64 a.th, .int .i64 a.kind, .int .i64 a.at_, .int .i64 a.op, .bool a.ok]
def logCells : List Acc → List Value
  | [] => []
  | a :: l => a.cells ++ logCells l
theorem logCells_append (l k : List Acc) : logCells (l ++ k) = logCells l ++ logCells k := by
  induction l with
  | nil => rfl
  | cons a l ih => simp [logCells, ih]
theorem logCells_length (l : List Acc) : (logCells l).length = l.length * 6 := by
  induction l with
  | nil => rfl
  | cons a l ih => simp [logCells, Acc.cells, ih]; omega
theorem logCells_one (l : List Acc) : ∀ u ∈ logCells l, u.oneCell' = true := by
  induction l with
  | nil => intro u h; cases h
  | cons a l ih =>
    intro u h
    simp only [logCells, List.mem_append] at h
    rcases h with h | h
    · simp only [Acc.cells, List.mem_cons, List.not_mem_nil, or_false] at h
      rcases h with h | h | h | h | h | h <;> subst h <;> rfl
    · exact ih u h

/-- What a meter has counted and noted. -/
structure Mt where
  st : Int
  th : Int
  dn : Int
  mo : Int
  l : List Acc
def Mt.zero : Mt := ⟨0, 0, 0, 0, []⟩
def Mt.start (s : Mt) (t : Int) : Mt := ⟨s.st + 1, t, 0, s.mo, s.l⟩
def Mt.note (s : Mt) (kind i op : Int) (ok : Bool) : Mt := ⟨s.st, s.th, s.dn + 1, max s.mo (s.dn + 1), s.l ++ [⟨s.st, s.th, kind, i, op, ok⟩]⟩
/-- Its numbers are at most n. -/
structure Mt.within (s : Mt) (n : Nat) : Prop where
  st0 : 0 ≤ s.st
  st1 : s.st ≤ n
  dn0 : 0 ≤ s.dn
  dn1 : s.dn ≤ n
  len : s.l.length ≤ n
theorem Mt.within_zero (n : Nat) : Mt.zero.within n := ⟨Int.le_refl _, Int.natCast_nonneg _, Int.le_refl _, Int.natCast_nonneg _, Nat.zero_le _⟩
theorem Mt.within.more {s : Mt} {n k : Nat} (h : s.within n) (hk : n ≤ k) : s.within k := by
  obtain ⟨a, b, c, d, e⟩ := h
  exact ⟨a, by omega, c, by omega, by omega⟩
theorem Mt.within.start {s : Mt} {n : Nat} (h : s.within n) (t : Int) : (s.start t).within (n + 1) := by
  obtain ⟨a, b, c, d, e⟩ := h
  exact ⟨by simp only [Mt.start]; omega, by simp only [Mt.start]; omega, by simp only [Mt.start]; omega, by simp only [Mt.start]; omega, by simp only [Mt.start]; omega⟩
theorem Mt.within.note {s : Mt} {n : Nat} (h : s.within n) (kind i op : Int) (ok : Bool) : (s.note kind i op ok).within (n + 1) := by
  obtain ⟨a, b, c, d, e⟩ := h
  exact ⟨by simp only [Mt.note]; omega, by simp only [Mt.note]; omega, by simp only [Mt.note]; omega, by simp only [Mt.note]; omega, by simp only [Mt.note, List.length_append, List.length_singleton]; omega⟩

/-- A meter of type t in block m: its numbers, and its log v. -/
structure MeterAt (t e : TypeId) (w : World) (m : Nat) (st th dn mo : Int) (v : Value) (l : List Acc) : Prop where
  heap : w.heap[m]? = some (.cells #[.int .i64 st, .int .i64 th, .int .i64 dn, .int .i64 mo, v] t (0, 0))
  own : w.ownsRow 0 e 6 v l.length (logCells l)
  apart : v.ownBlock ≠ some m

/-- The block of a log stays, or is a new one. -/
def Fresh (w : World) (v v' : Value) : Prop := v'.ownBlock = v.ownBlock ∨ ∃ g, v'.ownBlock = some g ∧ w.heap.size ≤ g
theorem Fresh.refl (w : World) (v : Value) : Fresh w v v := .inl rfl

/-- The end of a note: behind the append the new log is stored into the meter. -/
theorem note_end {t e : TypeId} {w w2 w1 : World} {m g cap : Nat} {st th dn mo : Int} {a : Acc} {v : Value} {l : List Acc} {o : Obj}
    (hm : w2.heap[m]? = some (.cells #[.int .i64 st, .int .i64 th, .int .i64 dn, .int .i64 mo, v] t (0, 0))) (hk : Kept (fun k => k = m ∨ v.ownBlock = some k) w w2) (hs : w2.heap.size = w.heap.size)
    (hown1 : w1.ownsRow 0 e 6 (.slice (some ⟨g, 0, none⟩) (l.length + 1) cap) (l.length + 1) (logCells l ++ a.cells))
    (hgrow : ((w2.alloc o).drew).grownBy w1 v.ownBlock) (hat : v.ownBlock = some g ∨ g = w2.heap.size + 1) (hvm : v.ownBlock ≠ some m) :
    MeterAt t e (w1.setCell ⟨m, 4, none⟩ (.slice (some ⟨g, 0, none⟩) (l.length + 1) cap)) m st th dn mo (.slice (some ⟨g, 0, none⟩) (l.length + 1) cap) (l ++ [a]) ∧
      Fresh w v (.slice (some ⟨g, 0, none⟩) (l.length + 1) cap) ∧ Kept (fun k => k = m ∨ v.ownBlock = some k) w (w1.setCell ⟨m, 4, none⟩ (.slice (some ⟨g, 0, none⟩) (l.length + 1) cap)) := by
  have hlt := lt_of_heap hm
  have h1 := (grown_block hlt hgrow hvm).trans hm
  have hgm : m ≠ g := by
    rcases hat with h | h
    · intro e; subst e; exact hvm h
    · omega
  have hkk : Kept (fun k => k = m ∨ v.ownBlock = some k) w (w1.setCell ⟨m, 4, none⟩ (.slice (some ⟨g, 0, none⟩) (l.length + 1) cap)) := Kept.setCell (Kept.grown ((hk.alloc o).drew) hgrow (fun k e => .inl (.inr e))) _ (.inl (.inl rfl))
  refine ⟨⟨?_, ?_, by simp [Value.ownBlock]; omega⟩, ?_, hkk⟩
  · rw [heap_setCell_at h1]; rfl
  · have := ownsRow_setCell_far hown1 (a := ⟨m, 4, none⟩) (by simp [Value.ownBlock]; omega) (.slice (some ⟨g, 0, none⟩) (l.length + 1) cap)
    simpa [logCells_append, logCells] using this
  · rcases hat with h | h
    · exact .inl h.symm
    · exact .inr ⟨g, rfl, by omega⟩

theorem Tryz.infoAcc : (Tryz.prog.info? 166).map (fun i => (i.zero, i.size, i.bytes)) = some (some (.agg #[.int .i64 0, .int .i64 0, .int .i64 0, .int .i64 0, .int .i64 0, .bool false]), 6, 48) := by kernel_rfl

/-- A meter, or none. -/
def meterI (t : TypeId) (mo : Option Nat) (s : Mt) (v : Value) : It := match mo with
  | none => ⟨[], fun _ => True, fun _ _ _ p => p, fun _ _ b hb => by cases hb⟩
  | some m => ⟨m :: v.ownBlock.toList, fun w => MeterAt t 166 w m s.st s.th s.dn s.mo v s.l,
      fun w w' h p => ⟨(h m (by simp)).trans p.heap, own_loc p.own (fun k hk => h k (by simp [hk])), p.apart⟩,
      fun w p b hb => by
        rcases List.mem_cons.1 hb with rfl | hb
        · exact lt_of_heap p.heap
        · exact (p.own.lt b (by simpa using hb)).2⟩
def maddr : Option Nat → Option Addr
  | none => none
  | some m => some ⟨m, 0, none⟩
def mptr (mo : Option Nat) : Value := .pointer (maddr mo)
theorem meter_nodup {m : Nat} {v : Value} (h : v.ownBlock ≠ some m) : (m :: v.ownBlock.toList).Nodup := by
  rw [List.nodup_cons]
  refine ⟨by simpa using h, own_nodup v⟩
theorem St.meter {o w w' : World} {its : List It} (h : St o its w) (i : Nat) {t : TypeId} {m : Nat} {s s' : Mt} {v v' : Value} (hi : its[i]? = some (meterI t (some m) s v))
    (p : MeterAt t 166 w' m s'.st s'.th s'.dn s'.mo v' s'.l) (hf : Fresh w v v') (k : Kept (fun k => k = m ∨ v.ownBlock = some k) w w') : St o (its.set i (meterI t (some m) s' v')) w' := by
  refine h.set i hi (k.mono (fun b _ hb => ?_)) p (meter_nodup p.apart) (fun b hb => ?_)
  · rcases hb with hb | hb <;> simp [meterI, hb]
  · rcases List.mem_cons.1 hb with rfl | hb
    · exact .inl (by simp [meterI])
    · rcases hf with hf | ⟨g, hg, hlt⟩
      · rw [hf] at hb
        exact .inl (by simp only [meterI, List.mem_cons]; exact .inr hb)
      · rw [hg] at hb
        right
        simp at hb
        omega

end Go.Proofs.YtajfjkhbimehbaaGreat
