/- How a program is looked through, as plain data: states, spots, what is seen. No program is named here. -/
import Derived.Test.YtcchflfeomainaaGreatDoorCdM
namespace Go.Proofs.YtcchflfeomainaaGreatDoor
open Go.RowKit
set_option linter.unusedVariables false
set_option linter.unusedSimpArgs false

/-- A state: how many values, inside or not, the depth at the begin. -/
structure Sst where
  d : Nat
  i : Bool
  b : Nat
deriving DecidableEq
def Sst.cells (s : Sst) : List Value := [.int .i64 s.d, .bool s.i, .int .i64 s.b]
def Sst.val (s : Sst) : Value := .agg #[.int .i64 s.d, .bool s.i, .int .i64 s.b]
def Sst.num (s : Sst) : Nat := if s.i then 33 * (1 + s.b) + s.d else s.d
def Sst.ok (s : Sst) : Prop := s.d ≤ 32 ∧ s.b ≤ 32
theorem Sst.num_lt {s : Sst} (h : s.ok) : s.num < 1122 := by
  obtain ⟨h1, h2⟩ := h
  unfold Sst.num
  split <;> omega
/-- What is amiss of an instruction in a state. -/
def amissM (r : Row) (s : Sst) : Int :=
  if (s.d : Int) < r.pops ∨ 32 < (s.d : Int) - r.pops + r.pushes then 155
  else if (s.i = true ∧ r.whr = 1) ∨ (s.i = false ∧ r.whr = 2) then 156 else 0
def behindM (op : Int) (r : Row) (s : Sst) : Sst :=
  if op = 16 then ⟨((s.d : Int) + (r.pushes - r.pops)).toNat, true, ((s.d : Int) + (r.pushes - r.pops)).toNat⟩
  else if op = 19 then ⟨((s.d : Int) + (r.pushes - r.pops)).toNat, false, 0⟩
  else if op = 20 then ⟨s.b, false, 0⟩
  else ⟨((s.d : Int) + (r.pushes - r.pops)).toNat, s.i, s.b⟩
structure Spt where
  p : Nat
  s : Sst
deriving DecidableEq
def Spt.cells (x : Spt) : List Value := [.int .i64 x.p, .int .i64 x.s.d, .bool x.s.i, .int .i64 x.s.b]
def spCells : List Spt → List Value
  | [] => []
  | x :: l => x.cells ++ spCells l
structure Vst where
  seen : List Bool
  count : List Int
  wrong : List Int
  todo : List Spt
def comeM (p : Nat) (s : Sst) (V : Vst) : Vst :=
  if V.seen.getD (p * 1122 + s.num) true = true then V
  else ⟨V.seen.set (p * 1122 + s.num) true, V.count.set p (V.count.getD p 0 + 1), V.wrong, V.todo ++ [⟨p, s⟩]⟩
def noteM (p : Nat) (e : Int) (V : Vst) : Vst := if V.wrong.getD p 0 = 155 then V else { V with wrong := V.wrong.set p e }
def leaveM (L : List Ins) (x : Spt) (V : Vst) : Vst :=
  if amissM (rowOf (L.getD x.p Ins.zero).op) x.s = 0 then
    (if (L.getD x.p Ins.zero).op = 22 then V
     else if (L.getD x.p Ins.zero).op = 14 ∨ (L.getD x.p Ins.zero).op = 20 then comeM (L.getD x.p Ins.zero).a.toNat (behindM (L.getD x.p Ins.zero).op (rowOf (L.getD x.p Ins.zero).op) x.s) V
     else if (L.getD x.p Ins.zero).op = 15 then comeM (L.getD x.p Ins.zero).a.toNat (behindM (L.getD x.p Ins.zero).op (rowOf (L.getD x.p Ins.zero).op) x.s) (comeM (x.p + 1) (behindM (L.getD x.p Ins.zero).op (rowOf (L.getD x.p Ins.zero).op) x.s) V)
     else comeM (x.p + 1) (behindM (L.getD x.p Ins.zero).op (rowOf (L.getD x.p Ins.zero).op) x.s) V)
  else noteM x.p (amissM (rowOf (L.getD x.p Ins.zero).op) x.s) V
def Spt.zero : Spt := ⟨0, ⟨0, false, 0⟩⟩
/-- One step: the last spot is left. -/
def stepV (L : List Ins) (V : Vst) : Vst :=
  if V.todo = [] then V else leaveM L (V.todo.getLastD Spt.zero) { V with todo := V.todo.dropLast }
def runV (L : List Ins) : Nat → Vst → Vst
  | 0, V => V
  | k + 1, V => runV L k (stepV L V)
def firstV (n : Nat) : Vst := comeM 0 ⟨0, false, 0⟩ ⟨List.replicate (n * 1122) false, List.replicate n 0, List.replicate n 0, []⟩
def leastFrom (e : Nat) (V : Vst) : Nat → Nat → Int × Int
  | 0, _ => (0, 0)
  | k + 1, p => if V.wrong.getD p 0 ≠ 0 then (V.wrong.getD p 0, (p : Int)) else if p < e ∧ 1 < V.count.getD p 0 then (157, (p : Int)) else leastFrom e V k (p + 1)
def leastM (V : Vst) : Int × Int := leastFrom (V.wrong.length - 1) V V.wrong.length 0
def withHalt (l : List Ins) : List Ins := l ++ [⟨22, 0⟩]
/-- Steps enough. -/
def enough (n : Nat) : Nat := 2 * (n * 1122) + 1
def verifyM (l : List Ins) : Int × Int := if (checkM l).1 = 0 then leastM (runV (withHalt l) (enough (l.length + 1)) (firstV (l.length + 1))) else checkM l

theorem runV_done {L : List Ins} {V : Vst} (h : V.todo = []) : ∀ k, runV L k V = V
  | 0 => rfl
  | k + 1 => by
    have : stepV L V = V := by unfold stepV; rw [if_pos h]
    rw [runV, this, runV_done h k]
theorem runV_add (L : List Ins) : ∀ (a b : Nat) (V : Vst), runV L (a + b) V = runV L b (runV L a V)
  | 0, b, V => by rw [Nat.zero_add]; rfl
  | a + 1, b, V => by
    rw [show a + 1 + b = (a + b) + 1 by omega]
    exact runV_add L a b (stepV L V)
theorem runV_same {L : List Ins} {V : Vst} {a b : Nat} (ha : (runV L a V).todo = []) (hb : (runV L b V).todo = []) : runV L a V = runV L b V := by
  have h1 := runV_add L a b V
  have h2 := runV_add L b a V
  rw [runV_done ha] at h1
  rw [runV_done hb] at h2
  rw [← h1, ← h2, Nat.add_comm]
/-- Steps that are left. -/
def Vst.mu (V : Vst) : Nat := 2 * V.seen.count false + V.todo.length
theorem count_set {l : List Bool} {k : Nat} (h : l.getD k true = false) : (l.set k true).count false + 1 = l.count false := by
  induction l generalizing k with
  | nil => simp at h
  | cons x l ih =>
    cases k with
    | zero =>
      simp only [List.getD_cons_zero] at h
      subst h
      simp
    | succ k =>
      have := ih (k := k) (by simpa using h)
      simp only [List.set_cons_succ, List.count_cons]
      omega
theorem comeM_mu (p : Nat) (s : Sst) (V : Vst) : (comeM p s V).mu ≤ V.mu := by
  unfold comeM
  split
  · exact Nat.le_refl _
  · have := count_set (l := V.seen) (k := p * 1122 + s.num) (Bool.eq_false_iff.2 (by assumption))
    simp only [Vst.mu, List.length_append, List.length_cons, List.length_nil]
    omega
theorem leaveM_mu (L : List Ins) (x : Spt) (V : Vst) : (leaveM L x V).mu ≤ V.mu := by
  unfold leaveM
  split
  · split
    · exact Nat.le_refl _
    · split
      · exact comeM_mu _ _ _
      · split
        · exact Nat.le_trans (comeM_mu _ _ _) (comeM_mu _ _ _)
        · exact comeM_mu _ _ _
  · unfold noteM
    split <;> exact Nat.le_refl _
theorem stepV_mu {L : List Ins} {V : Vst} (h : V.todo ≠ []) : (stepV L V).mu < V.mu := by
  unfold stepV
  rw [if_neg h]
  refine Nat.lt_of_le_of_lt (leaveM_mu _ _ _) ?_
  have : 0 < V.todo.length := List.length_pos_iff.2 h
  simp only [Vst.mu, List.length_dropLast]
  omega
theorem runV_ends {L : List Ins} : ∀ (k : Nat) (V : Vst), V.mu ≤ k → (runV L k V).todo = []
  | 0, V, h => by
    have : V.todo.length = 0 := by unfold Vst.mu at h; omega
    exact List.length_eq_zero_iff.1 this
  | k + 1, V, h => by
    by_cases h0 : V.todo = []
    · rw [runV_done h0]; exact h0
    · exact runV_ends k _ (by have := stepV_mu (L := L) h0; omega)
theorem firstV_mu (n : Nat) : (firstV n).mu ≤ enough n := by
  unfold firstV
  refine Nat.le_trans (comeM_mu _ _ _) ?_
  simp [Vst.mu, enough]
/-- Wherever it ends, it is there. -/
theorem verify_run {l : List Ins} (hc : (checkM l).1 = 0) {k : Nat} (h : (runV (withHalt l) k (firstV (l.length + 1))).todo = []) : verifyM l = leastM (runV (withHalt l) k (firstV (l.length + 1))) := by
  unfold verifyM
  rw [if_pos hc, runV_same (runV_ends _ _ (firstV_mu _)) h]
theorem getD_set {α : Type} (l : List α) (k j : Nat) (x d : α) : (l.set k x).getD j d = if k = j ∧ k < l.length then x else l.getD j d := by
  rw [List.getD_eq_getElem?_getD, List.getElem?_set]
  by_cases h : k = j
  · subst h
    by_cases hk : k < l.length
    · simp [hk]
    · simp [hk]
  · simp [h]
/-- What may be of it, with n places. -/
structure Vok (n : Nat) (V : Vst) : Prop where
  s : V.seen.length = n * 1122
  c : V.count.length = n
  w : V.wrong.length = n
  t : ∀ x ∈ V.todo, x.p < n ∧ x.s.ok
  tl : V.todo.length + V.seen.count false ≤ n * 1122
  cb : ∀ c ∈ V.count, 0 ≤ c ∧ c + V.seen.count false ≤ n * 1122
theorem Vok.come {n : Nat} {V : Vst} (h : Vok n V) {p : Nat} {s : Sst} (hp : p < n) (hs : s.ok) : Vok n (comeM p s V) := by
  unfold comeM
  split
  · exact h
  · have hn := s.num_lt hs
    have hc := count_set (l := V.seen) (k := p * 1122 + s.num) (Bool.eq_false_iff.2 (by assumption))
    refine ⟨by simp [h.s], by simp [h.c], h.w, ?_, ?_, ?_⟩
    · intro x hx
      rcases List.mem_append.1 hx with hx | hx
      · exact h.t x hx
      · rw [List.mem_singleton.1 hx]; exact ⟨hp, hs⟩
    · have := h.tl
      simp only [List.length_append, List.length_cons, List.length_nil]
      omega
    · intro c hcm
      rcases List.mem_or_eq_of_mem_set hcm with hcm | rfl
      · have := h.cb c hcm
        simp only
        omega
      · have hm : V.count.getD p 0 ∈ V.count := by
          rw [List.getD_eq_getElem?_getD, List.getElem?_eq_getElem (by rw [h.c]; exact hp)]
          exact List.getElem_mem _
        have := h.cb _ hm
        simp only
        omega
theorem Vok.note {n : Nat} {V : Vst} (h : Vok n V) (p : Nat) (e : Int) : Vok n (noteM p e V) := by
  unfold noteM
  split
  · exact h
  · exact ⟨h.s, h.c, by simp [h.w], h.t, h.tl, h.cb⟩
/-- What a list with a halt at its end is like. -/
structure Lok (L : List Ins) : Prop where
  pos : 0 < L.length
  m : L.length ≤ 401
  known : ∀ x ∈ L, knownB x.op = true
  last : (L.getD (L.length - 1) Ins.zero).op = 22
  place : ∀ x ∈ L, (x.op = 14 ∨ x.op = 15 ∨ x.op = 20) → 0 ≤ x.a ∧ x.a.toNat < L.length
theorem behind_ok {op : Int} {r : Row} {s : Sst} (hs : s.ok) (h : amissM r s = 0) : (behindM op r s).ok := by
  obtain ⟨h1, h2⟩ := hs
  have h3 : ¬ ((s.d : Int) < r.pops ∨ 32 < (s.d : Int) - r.pops + r.pushes) := fun h4 => by unfold amissM at h; rw [if_pos h4] at h; cases h
  have h5 : ((s.d : Int) + (r.pushes - r.pops)).toNat ≤ 32 := by omega
  unfold behindM
  split
  · exact ⟨h5, h5⟩
  · split
    · exact ⟨h5, Nat.zero_le _⟩
    · split
      · exact ⟨h2, Nat.zero_le _⟩
      · exact ⟨h5, h2⟩
theorem Vok.leave {L : List Ins} (hL : Lok L) {V : Vst} (h : Vok L.length V) {x : Spt} (hp : x.p < L.length) (hs : x.s.ok) : Vok L.length (leaveM L x V) := by
  unfold leaveM
  have hm : L.getD x.p Ins.zero ∈ L := by rw [List.getD_eq_getElem?_getD, List.getElem?_eq_getElem hp]; exact List.getElem_mem _
  split
  · rename_i ha
    split
    · exact h
    · rename_i h22
      have hnx : x.p + 1 < L.length := by
        by_cases e : x.p = L.length - 1
        · rw [e] at h22; exact absurd hL.last h22
        · omega
      have hb := behind_ok (op := (L.getD x.p Ins.zero).op) hs ha
      split
      · rename_i hj
        exact h.come (hL.place _ hm (by rcases hj with e | e; exact .inl e; exact .inr (.inr e))).2 hb
      · split
        · rename_i hz
          exact (h.come hnx hb).come (hL.place _ hm (.inr (.inl hz))).2 hb
        · exact h.come hnx hb
  · exact h.note _ _
theorem last_mem {l : List Spt} (h : l ≠ []) : l.getLastD Spt.zero ∈ l := by
  cases l with
  | nil => exact absurd rfl h
  | cons x r => rw [List.getLastD_cons]; exact List.getLastD_mem_cons ..
theorem Vok.step {L : List Ins} (hL : Lok L) {V : Vst} (h : Vok L.length V) : Vok L.length (stepV L V) := by
  unfold stepV
  split
  · exact h
  · rename_i h0
    have hm := h.t _ (last_mem h0)
    refine Vok.leave (V := { V with todo := V.todo.dropLast }) hL ⟨h.s, h.c, h.w, fun x hx => h.t x ((List.dropLast_sublist _).subset hx), ?_, h.cb⟩ hm.1 hm.2
    have := h.tl
    simp only [List.length_dropLast]
    omega
theorem Vok.first {n : Nat} (hn : 0 < n) : Vok n (firstV n) := by
  unfold firstV
  refine Vok.come ⟨by simp, by simp, by simp, fun x hx => (by cases hx), by simp, fun c hc => ?_⟩ hn ⟨Nat.zero_le _, Nat.zero_le _⟩
  rw [List.eq_of_mem_replicate hc]
  simp
theorem checkM_all {l : List Ins} (h : (checkM l).1 = 0) : l.length ≤ 400 ∧ 0 < l.length ∧ ∀ x ∈ l, wrongAt x l.length = 0 := by
  unfold checkM at h
  split at h
  · cases h
  · rename_i hn
    refine ⟨by omega, by omega, ?_⟩
    generalize (l.length : Int) = e at h
    have aux : ∀ (k : Nat) (l : List Ins), (checkFrom e k l).1 = 0 → ∀ x ∈ l, wrongAt x e = 0 := by
      intro k l
      induction l generalizing k with
      | nil => intro _ x hx; cases hx
      | cons y r ih =>
        intro hh x hx
        unfold checkFrom at hh
        split at hh
        · rcases List.mem_cons.1 hx with rfl | hx
          · assumption
          · exact ih _ hh x hx
        · rename_i hw
          exact absurd hh hw
    exact aux 0 l h
theorem wrongAt_zero {x : Ins} {e : Int} (h : wrongAt x e = 0) : knownB x.op = true ∧ mayB (rowOf x.op).takes x.a e = true := by
  unfold wrongAt at h
  split at h
  · cases h
  · split at h
    · cases h
    · exact ⟨by simpa using ‹¬ knownB x.op = false›, by simpa using ‹¬ mayB _ _ _ = false›⟩
theorem may_place {a e : Int} (h : mayB 3 a e = true) : 0 ≤ a ∧ a ≤ e := by
  simpa [mayB] using h
theorem Lok.of {l : List Ins} (hc : (checkM l).1 = 0) : Lok (withHalt l) := by
  obtain ⟨h1, h2, h3⟩ := checkM_all hc
  refine ⟨by simp [withHalt], by simp [withHalt]; omega, fun x hx => ?_, ?_, fun x hx ho => ?_⟩
  · rcases List.mem_append.1 hx with hx | hx
    · exact (wrongAt_zero (h3 x hx)).1
    · rw [List.mem_singleton.1 hx]; rfl
  · simp [withHalt]
  · rcases List.mem_append.1 hx with hx | hx
    · have := (wrongAt_zero (h3 x hx)).2
      have e3 : (rowOf x.op).takes = 3 := by rcases ho with e | e | e <;> (rw [e]; rfl)
      rw [e3] at this
      have := may_place this
      simp only [withHalt, List.length_append, List.length_cons, List.length_nil]
      omega
    · rw [List.mem_singleton.1 hx] at ho
      rcases ho with e | e | e <;> cases e
end Go.Proofs.YtcchflfeomainaaGreatDoor
