/- A spot is come to. -/
import Derived.Test.YtcchflfeomainaaGreatDoorVfA
import Derived.Test.YtcchflfeomainaaGreatDoorPsD
namespace Go.Proofs.YtcchflfeomainaaGreatDoor
open Go.RowKit
set_option linter.unusedVariables false
set_option linter.unusedSimpArgs false
attribute [local go_sem ↓] Go.wp_at_zero Go.wp_at_succ

def bCells (l : List Bool) : Array Value := (l.map Value.bool).toArray
def nCells (l : List Int) : Array Value := (l.map (Value.int .i64)).toArray
theorem bCells_at (l : List Bool) (k : Nat) (hk : k < l.length) : (bCells l)[k]? = some (.bool (l.getD k true)) := by
  simp [bCells, hk, List.getD_eq_getElem?_getD]
theorem nCells_at (l : List Int) (k : Nat) (hk : k < l.length) : (nCells l)[k]? = some (.int .i64 (l.getD k 0)) := by
  simp [nCells, hk, List.getD_eq_getElem?_getD]
theorem bCells_set (l : List Bool) (k : Nat) (x : Bool) : (bCells l).setIfInBounds k (.bool x) = bCells (l.set k x) := by
  simp [bCells, List.map_set]
theorem nCells_set (l : List Int) (k : Nat) (x : Int) : (nCells l).setIfInBounds k (.int .i64 x) = nCells (l.set k x) := by
  simp [nCells, List.map_set]
theorem spCells_length (l : List Spt) : (spCells l).length = l.length * 4 := by
  induction l with
  | nil => rfl
  | cons x l ih => simp only [spCells, List.length_append, Spt.cells, List.length_cons, List.length_nil, ih]; omega
theorem spCells_append (a b : List Spt) : spCells (a ++ b) = spCells a ++ spCells b := by
  induction a with
  | nil => rfl
  | cons x l ih => simp [spCells, ih]
/-- The places of a walk: its block, the table, the list, what is seen, how often, what is wrong. -/
structure Wad where
  k : Nat
  bt : Nat
  vl : Value
  gs : Nat
  gc : Nat
  gw : Nat
def wkC (A : Wad) (n : Nat) (vt : Value) : Array Value := #[.slice (some ⟨A.bt, 0, none⟩) 23 23, A.vl, .slice (some ⟨A.gs, 0, none⟩) (n * 1122) (n * 1122), vt, .slice (some ⟨A.gc, 0, none⟩) n n, .slice (some ⟨A.gw, 0, none⟩) n n]
def wkL (A : Wad) (L : List Ins) (vt : Value) (V : Vst) : List It :=
  [boxI A.k (wkC A L.length vt) 68, boxI A.bt tabC 57, ownI 48 2 A.vl L.length (insCells L), boxI A.gs (bCells V.seen) 4, boxI A.gc (nCells V.count) 3, boxI A.gw (nCells V.wrong) 25, ownI 70 4 vt V.todo.length (spCells V.todo)]
theorem buildSp (W : World) (a b d : Int) (c : Bool) : (Instr.buildSlice 65 1 #[(0, .agg #[.int .i64 a, .int .i64 b, .bool c, .int .i64 d])]).run Tryz.prog W = .ok (.slice (some ⟨W.heap.size, 0, none⟩) 1 1) (W.alloc (.cells #[.int .i64 a, .int .i64 b, .bool c, .int .i64 d] 70)) := by kernel_rfl
theorem Tryz.infoSp : (Tryz.prog.info? 70).map (fun i => (i.zero, i.size, i.bytes)) = some (some (.agg #[.int .i64 0, .int .i64 0, .bool false, .int .i64 0]), 4, 32) := by kernel_rfl
section
variable {o w : World} {A : Wad} {L : List Ins} {vt : Value} {V : Vst} {R : List It}
theorem wk_form {n : Nat} {xs : List Value} {v : Value} (h : w.ownsRow 0 70 4 v n xs) : ∃ a c, v = .slice a n c := by
  rcases h.2 with ⟨h1, h2⟩ | ⟨g, cap, cur, h1, _⟩
  · exact ⟨none, 0, by rw [h1, h2]⟩
  · exact ⟨_, cap, h1⟩
set_option maxRecDepth 100000 in
set_option maxHeartbeats 2000000 in
theorem come_sr (h : St o (wkL A L vt V ++ R) w) (ok : Vok L.length V) (hm : L.length ≤ 401) {p : Nat} {s : Sst} (hp : p < L.length) (hs : s.ok) :
    Calls Tryz.prog 30 #[.pointer (some ⟨A.k, 0, none⟩), .int .i64 p, s.val] w fun e w' => e = .returned (.tuple #[]) ∧ ∃ vt', St o (wkL A L vt' (comeM p s V) ++ R) w' := by
  obtain ⟨i0, hi0, hz0, hz1, hz2⟩ := info_parts Tryz.infoSp
  have hnum := s.num_lt hs
  have hq := number_st s hs (w.alloc (.cells #[.int .i64 s.d, .bool s.i, .int .i64 s.b] 63))
  have h1 := h.box #[.int .i64 s.d, .bool s.i, .int .i64 s.b] 63
  obtain ⟨A, bt, vl, gs, gc, gw⟩ := A
  unfold Sst.val at hq ⊢
  obtain ⟨d, i, b⟩ := s
  simp only at *
  have hpn : p * 1122 + Sst.num ⟨d, i, b⟩ < L.length * 1122 := by omega
  have HE : Hid (comeM p ⟨d, i, b⟩ V = if V.seen.getD (p * 1122 + Sst.num ⟨d, i, b⟩) true = true then V else ⟨V.seen.set (p * 1122 + Sst.num ⟨d, i, b⟩) true, V.count.set p (V.count.getD p 0 + 1), V.wrong, V.todo ++ [⟨p, ⟨d, i, b⟩⟩]⟩) := rfl
  generalize Sst.num ⟨d, i, b⟩ = nm at *
  have b1 : (0 : Int) ≤ (p : Int) := Int.natCast_nonneg _
  have b2 : (p : Int) ≤ 401 := by omega
  have b3 : (0 : Int) ≤ (nm : Int) := Int.natCast_nonneg _
  have b4 : (nm : Int) < 1122 := by omega
  have hS0 := fun W k => (h1.calm (w' := W) k)
  have hS : ∀ W, Kept (fun _ => False) (w.alloc (.cells #[.int .i64 d, .bool i, .int .i64 b] 63)) W → Hid (St o (boxI w.heap.size #[.int .i64 d, .bool i, .int .i64 b] 63 :: (wkL ⟨A, bt, vl, gs, gc, gw⟩ L vt V ++ R)) W) := fun W k => h1.calm k
  clear h h1 hS0
  go_enter Tryz.func30, Tryz.ntmps30
  go_wp2_with fail
  refine hq.mono ?_
  clear hq
  rintro e w1 ⟨rfl, k1⟩
  have s1 := (hS _ k1).out
  clear hS k1
  generalize w.heap.size = M at *
  have c2 : w1.cell? ⟨A, 2, none⟩ = some (.slice (some ⟨gs, 0, none⟩) (L.length * 1122) (L.length * 1122)) := s1.cell 1 rfl 2
  have c4 : w1.cell? ⟨A, 4, none⟩ = some (.slice (some ⟨gc, 0, none⟩) L.length L.length) := s1.cell 1 rfl 4
  have cs : w1.cell? ⟨gs, p * 1122 + nm, none⟩ = some (.bool (V.seen.getD (p * 1122 + nm) true)) := (s1.cell 4 rfl _).trans (bCells_at _ _ (by rw [ok.s]; exact hpn))
  have b5 : (0 : Int) ≤ (p : Int) * 1122 + nm := by omega
  have b6 : (p : Int) * 1122 + nm < (L.length : Int) * 1122 := by omega
  have b7 : ((p : Int) * 1122 + (nm : Int)).toNat = p * 1122 + nm := by omega
  by_cases hsn : V.seen.getD (p * 1122 + nm) true = true
  · have HE2 : Hid (comeM p ⟨d, i, b⟩ V = V) := by have := HE.out; rwa [if_pos hsn] at this
    rw [hsn] at cs
    have HS := hid s1.pop
    clear s1 HE c4 hsn
    go_wp2_with fail
    first | go_end0 | refine bodyPost_ret (results_none rfl _ _ _) rfl ?_
    exact ⟨rfl, vt, by rw [HE2.out]; exact HS.out⟩
  · have HE2 : Hid (comeM p ⟨d, i, b⟩ V = ⟨V.seen.set (p * 1122 + nm) true, V.count.set p (V.count.getD p 0 + 1), V.wrong, V.todo ++ [⟨p, ⟨d, i, b⟩⟩]⟩) := by have := HE.out; rwa [if_neg hsn] at this
    rw [Bool.eq_false_iff.2 hsn] at cs
    have f1 : w1.frozen? ⟨gs, p * 1122 + nm, none⟩ = false := s1.frozen 4 rfl _
    have s2 := s1.write 4 rfl (p * 1122 + nm) (.bool true)
    rw [bCells_set] at s2
    have cm : V.count.getD p 0 ∈ V.count := by
      rw [List.getD_eq_getElem?_getD, List.getElem?_eq_getElem (by rw [ok.c]; exact hp)]
      exact List.getElem_mem _
    obtain ⟨q1, q2⟩ := ok.cb _ cm
    have q3 : V.count.getD p 0 ≤ 449922 := by omega
    have htl := ok.tl
    have hcl := ok.c
    clear s1 HE hsn cm q2
    go_upto_region 4 with fail
    generalize w1.setCell ⟨gs, p * 1122 + nm, none⟩ (.bool true) = w2 at *
    have d4 : w2.cell? ⟨A, 4, none⟩ = some (.slice (some ⟨gc, 0, none⟩) L.length L.length) := s2.cell 1 rfl 4
    have dc : w2.cell? ⟨gc, p, none⟩ = some (.int .i64 (V.count.getD p 0)) := (s2.cell 5 rfl _).trans (nCells_at _ _ (by rw [hcl]; exact hp))
    have df : w2.frozen? ⟨gc, p, none⟩ = false := s2.frozen 5 rfl _
    have s3 := s2.write 5 rfl p (.int .i64 (V.count.getD p 0 + 1))
    rw [nCells_set] at s3
    have b8 : (p : Int) < (L.length : Int) := by omega
    clear s2 c2 c4 cs f1
    generalize V.count.getD p 0 = cv at *
    go_upto_region 5 with fail
    generalize w2.setCell ⟨gc, p, none⟩ (.int .i64 (cv + 1)) = w6 at *
    clear d4 dc df
    have hown6 : w6.ownsRow 0 70 4 vt V.todo.length (spCells V.todo) := s3.get 7 rfl
    obtain ⟨va, vc, rfl⟩ := wk_form hown6
    have c3 : w6.cell? ⟨A, 3, none⟩ = some (.slice va V.todo.length vc) := s3.cell 1 rfl 3
    have f3 : w6.frozen? ⟨A, 3, none⟩ = false := s3.frozen 1 rfl 3
    have e0 : w6.cell? ⟨M, 0, none⟩ = some (.int .i64 d) := s3.cell 0 rfl 0
    have e1 : w6.cell? ⟨M, 1, none⟩ = some (.bool i) := s3.cell 0 rfl 1
    have e2 : w6.cell? ⟨M, 2, none⟩ = some (.int .i64 b) := s3.cell 0 rfl 2
    have hbs := buildSp w6 p d b i
    have hbs' := buildSp w6.drew p d b i
    have cA : ∀ c t, (w6.alloc (.cells c t)).cell? ⟨A, 3, none⟩ = some (.slice va V.todo.length vc) := fun c t => by rw [World.cell?_of_block (Below.heap_alloc w6 _ A (World.block_lt_of_cell? w6 _ c3))]; exact c3
    have fA : ∀ c t, (w6.alloc (.cells c t)).frozen? ⟨A, 3, none⟩ = false := fun c t => by rw [frozen?_alloc_cells]; exact f3
    have HV : Hid (∀ g2 cap2 w1, w1.ownsRow 0 70 4 (.slice (some ⟨g2, 0, none⟩) (V.todo.length + 1) cap2) (V.todo.length + 1) (spCells V.todo ++ [.int .i64 p, .int .i64 d, .bool i, .int .i64 b]) → ((w6.alloc (.cells #[.int .i64 p, .int .i64 d, .bool i, .int .i64 b] 70)).drew).grownBy w1 (Value.ownBlock (.slice va V.todo.length vc)) → (Value.ownBlock (.slice va V.todo.length vc) = some g2 ∨ g2 = w6.heap.size + 1) →
        St o (wkL ⟨A, bt, vl, gs, gc, gw⟩ L (.slice (some ⟨g2, 0, none⟩) (V.todo.length + 1) cap2) ⟨V.seen.set (p * 1122 + nm) true, V.count.set p (cv + 1), V.wrong, V.todo ++ [⟨p, ⟨d, i, b⟩⟩]⟩ ++ R) (w1.setCell ⟨A, 3, none⟩ (.slice (some ⟨g2, 0, none⟩) (V.todo.length + 1) cap2)) ∧ w1.cell? ⟨A, 3, none⟩ = some (.slice va V.todo.length vc) ∧ w1.frozen? ⟨A, 3, none⟩ = false) := by
      intro g2 cap2 w1 p1 p2 p3
      have a1 := s3.growAtD 7 rfl (n' := V.todo.length + 1) (xs' := spCells V.todo ++ [.int .i64 p, .int .i64 d, .bool i, .int .i64 b]) p1 p2 p3
      refine ⟨?_, a1.cell 1 rfl 3, a1.frozen 1 rfl 3⟩
      have a2 := (a1.write 1 rfl 3 (.slice (some ⟨g2, 0, none⟩) (V.todo.length + 1) cap2)).pop
      have el : (V.todo ++ [(⟨p, ⟨d, i, b⟩⟩ : Spt)]).length = V.todo.length + 1 := by simp
      have ec : spCells (V.todo ++ [(⟨p, ⟨d, i, b⟩⟩ : Spt)]) = spCells V.todo ++ [.int .i64 p, .int .i64 d, .bool i, .int .i64 b] := by rw [spCells_append]; simp [spCells, Spt.cells]
      show St o (_ :: _ :: _ :: _ :: _ :: _ :: ownI _ _ _ (V.todo ++ [(⟨p, ⟨d, i, b⟩⟩ : Spt)]).length (spCells (V.todo ++ [(⟨p, ⟨d, i, b⟩⟩ : Spt)])) :: R) _
      rw [el, ec]
      exact a2
    clear s3
    have hnv : V.todo.length ≤ 449922 := by omega
    generalize V.todo.length = nv at *
    generalize spCells V.todo = VC at *
    clear ok hs hcl htl
    go_region_law
      ((refine step_append_lies _ (by rfl) _ _ _ (by rfl) 0 70 i0 _ 4 32 Tryz.underlying65 hi0 hz0 hz1 hz2 rfl (by omega) (.slice va nv vc) nv VC (by rfl) ((hown6.alloc _).drew)
          ⟨w6.heap.size, 0, none⟩ 1 1 [.int .i64 p, .int .i64 d, .bool i, .int .i64 b] (by rfl) (by rfl) (World.news_of_block (cs := #[.int .i64 p, .int .i64 d, .bool i, .int .i64 b]) (t := 70) (fr := (0, 0)) (heap_alloc_new w6 _)) (by simp [Value.oneCell'])
          (by omega) (by unfold maxLen; omega) (by omega) (Nat.zero_le _) (w6.heap.size + 1) (by simp) ?_; intro g2 cap2 w1 hown1 hgrow hat hlt
        obtain ⟨s8, e4, ef4⟩ := HV.out g2 cap2 w1 hown1 hgrow hat
        have H8 := hid s8
        clear HV s8 hown1 hgrow hat hlt))
    all_goals (go_wp2; go_end0; exact ⟨rfl, _, by rw [HE2.out]; exact H8.out⟩)
theorem come_st (h : St o (wkL A L vt V) w) (ok : Vok L.length V) (hm : L.length ≤ 401) {p : Nat} {s : Sst} (hp : p < L.length) (hs : s.ok) :
    Calls Tryz.prog 30 #[.pointer (some ⟨A.k, 0, none⟩), .int .i64 p, s.val] w fun e w' => e = .returned (.tuple #[]) ∧ ∃ vt', St o (wkL A L vt' (comeM p s V)) w' := by
  have := come_sr (R := []) (h := by rw [List.append_nil]; exact h) ok hm hp hs
  simpa only [List.append_nil] using this
theorem St.perm {o w : World} {its its' : List It} (h : St o its w) (hp : its.Perm its') : St o its' w :=
  ⟨(hp.flatMap_right It.fp).nodup_iff.1 h.nodup, fun i hi => h.all i (hp.mem_iff.2 hi), fun i hi => h.high i (hp.mem_iff.2 hi), h.kept⟩
end
end Go.Proofs.YtcchflfeomainaaGreatDoor
