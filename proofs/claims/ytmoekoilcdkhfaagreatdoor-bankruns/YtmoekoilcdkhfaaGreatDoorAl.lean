/- Programs that differ in numbers alone are looked through alike; the deeds' programs may be. No program is named here. -/
import Derived.Test.YtmoekoilcdkhfaaGreatDoorBkM
import Derived.Test.YtmoekoilcdkhfaaGreatDoorSr
namespace Go.Proofs.YtmoekoilcdkhfaaGreatDoor
open Go.RowKit
set_option linter.unusedVariables false
set_option linter.unusedSimpArgs false

def tkM (op : Int) : Int := if knownB op then (rowOf op).takes else 0
def Alt (x y : Ins) : Prop := y.op = x.op ∧ (tkM x.op = 1 ∨ (tkM x.op = 2 ∧ 0 ≤ y.a ∧ y.a < 8) ∨ y = x)
structure Sim (L M : List Ins) : Prop where
  len : M.length = L.length
  op : ∀ i, (M.getD i Ins.zero).op = (L.getD i Ins.zero).op
  a : ∀ i, ((L.getD i Ins.zero).op = 14 ∨ (L.getD i Ins.zero).op = 15 ∨ (L.getD i Ins.zero).op = 20) → (M.getD i Ins.zero).a = (L.getD i Ins.zero).a
theorem Sim.leave {L M : List Ins} (h : Sim L M) (x : Spt) (V : Vst) : leaveM M x V = leaveM L x V := by
  unfold leaveM
  rw [h.op x.p]
  split
  · split
    · rfl
    · split
      · rename_i hj
        rw [h.a x.p (by rcases hj with e | e; exact .inl e; exact .inr (.inr e))]
      · split
        · rename_i hz
          rw [h.a x.p (.inr (.inl hz))]
        · rfl
  · rfl
theorem Sim.run {L M : List Ins} (h : Sim L M) : ∀ (k : Nat) (V : Vst), runV M k V = runV L k V
  | 0, V => rfl
  | k + 1, V => by
    have e : stepV M V = stepV L V := by unfold stepV; rw [h.leave]
    rw [runV, runV, e, Sim.run h k]
theorem alt_sim {l m : List Ins} (hl : m.length = l.length) (h : ∀ i, i < l.length → Alt (l.getD i Ins.zero) (m.getD i Ins.zero)) : Sim (withHalt l) (withHalt m) := by
  have aux : ∀ i, Alt ((withHalt l).getD i Ins.zero) ((withHalt m).getD i Ins.zero) := by
    intro i
    by_cases hi : i < l.length
    · have := h i hi
      simp only [withHalt, List.getD_eq_getElem?_getD] at this ⊢
      rw [List.getElem?_append_left hi, List.getElem?_append_left (by omega)]
      exact this
    · simp only [withHalt, List.getD_eq_getElem?_getD]
      rw [List.getElem?_append_right (by omega), List.getElem?_append_right (by omega), hl]
      exact ⟨rfl, .inr (.inr rfl)⟩
  refine ⟨by simp [withHalt, hl], fun i => (aux i).1, fun i ho => ?_⟩
  rcases (aux i).2 with e | ⟨e, _⟩ | e
  · rcases ho with o | o | o <;> (rw [o] at e; cases e)
  · rcases ho with o | o | o <;> (rw [o] at e; cases e)
  · rw [e]
theorem check_of_all {l : List Ins} (h1 : l.length ≤ 400) (h2 : 0 < l.length) (h : ∀ x ∈ l, wrongAt x l.length = 0) : checkM l = (0, 0) := by
  unfold checkM
  rw [if_neg (by omega)]
  generalize (l.length : Int) = e at h
  have aux : ∀ (k : Nat) (l : List Ins), (∀ x ∈ l, wrongAt x e = 0) → checkFrom e k l = (0, 0) := by
    intro k l
    induction l generalizing k with
    | nil => intro _; rfl
    | cons y r ih =>
      intro hh
      unfold checkFrom
      rw [if_pos (hh y (by simp))]
      exact ih _ (fun x hx => hh x (by simp [hx]))
  exact aux 0 l h
theorem alt_wrong {x y : Ins} {e : Int} (h : Alt x y) (hw : wrongAt x e = 0) : wrongAt y e = 0 := by
  obtain ⟨hk, hm⟩ := wrongAt_zero hw
  obtain ⟨ho, h⟩ := h
  unfold wrongAt
  rw [ho, hk]
  have ht : tkM x.op = (rowOf x.op).takes := by unfold tkM; rw [hk]; rfl
  rw [ht] at h
  rcases h with h | ⟨h, h1, h2⟩ | h
  · rw [h]; rfl
  · rw [h]
    have : mayB 2 y.a e = true := by simp [mayB]; omega
    rw [this]; rfl
  · rw [h, hm]; rfl
theorem alt_verify {l m : List Ins} (hc : (checkM l).1 = 0) (hl : m.length = l.length) (h : ∀ i, i < l.length → Alt (l.getD i Ins.zero) (m.getD i Ins.zero)) : verifyM m = verifyM l := by
  obtain ⟨h1, h2, h3⟩ := checkM_all hc
  have hm : checkM m = (0, 0) := by
    refine check_of_all (by omega) (by omega) (fun y hy => ?_)
    obtain ⟨i, hi, rfl⟩ := List.getElem_of_mem hy
    have ha := h i (by omega)
    have e1 : m.getD i Ins.zero = m[i] := by simp [List.getD_eq_getElem?_getD, hi]
    have e2 : l.getD i Ins.zero = l[i]'(by omega) := by simp [List.getD_eq_getElem?_getD, show i < l.length by omega]
    rw [e1, e2] at ha
    rw [hl]
    exact alt_wrong ha (h3 _ (List.getElem_mem _))
  unfold verifyM
  rw [if_pos hc, if_pos (by rw [hm]), hl, (alt_sim hl h).run]

def AltAll : List Ins → List Ins → Prop
  | [], [] => True
  | x :: l, y :: m => Alt x y ∧ AltAll l m
  | _, _ => False
theorem AltAll.len : ∀ {l m : List Ins}, AltAll l m → m.length = l.length
  | [], [], _ => rfl
  | x :: l, y :: m, h => by simp [AltAll.len h.2]
  | [], _ :: _, h => h.elim
  | _ :: _, [], h => h.elim
theorem AltAll.at : ∀ {l m : List Ins}, AltAll l m → ∀ i, i < l.length → Alt (l.getD i Ins.zero) (m.getD i Ins.zero)
  | [], [], _, i, hi => by simp at hi
  | x :: l, y :: m, h, i, hi => by
    cases i with
    | zero => exact h.1
    | succ i => exact AltAll.at h.2 i (by simpa using hi)
  | [], _ :: _, h, _, _ => h.elim
  | _ :: _, [], h, _, _ => h.elim
theorem AltAll.verify {l m : List Ins} (h : AltAll l m) (hc : (checkM l).1 = 0) : verifyM m = verifyM l := alt_verify hc h.len h.at
def code0 (op : Int) : List Ins := codeM 0 1 ⟨op, 0, 0, 0, 0⟩
theorem code_alt {base n : Int} {d : Dd} (h : d.op = 1 ∨ d.op = 2 ∨ d.op = 3 ∨ d.op = 4 ∨ d.op = 5) : AltAll (code0 d.op) (codeM base n d) := by
  obtain ⟨o, a, b, x, y⟩ := d
  simp only at h
  rcases h with rfl | rfl | rfl | rfl | rfl
  all_goals
    simp only [code0, codeM, ↓reduceIte, Int.reduceEq]
    repeat (first | exact trivial | refine ⟨⟨rfl, .inr (.inr rfl)⟩, ?_⟩ | refine ⟨⟨rfl, .inl rfl⟩, ?_⟩)
/-- A search, and what makes it whole. -/
def seek (L : List Ins) : Nat → List Spt → List Spt → List Spt
  | 0, _, T => T
  | _ + 1, [], T => T
  | k + 1, x :: r, T => seek L k (r ++ (nextS L x).filter (fun y => !T.contains y)) (T ++ (nextS L x).filter (fun y => !T.contains y))
def spots (l : List Ins) : List Spt := seek (withHalt l) 60 [Spt.zero] [Spt.zero]
def chainB (L : List Ins) : List Spt → List Spt → Bool
  | _, [] => true
  | seen, x :: r => (x == Spt.zero || seen.any (fun s => (nextS L s).contains x)) && chainB L (x :: seen) r
theorem chain_rch {L : List Ins} : ∀ (r seen : List Spt), (∀ x ∈ seen, Rch L x) → chainB L seen r = true → ∀ x ∈ r, Rch L x
  | [], _, _, _, x, hx => by cases hx
  | y :: r, seen, hs, h, x, hx => by
    simp only [chainB, Bool.and_eq_true, Bool.or_eq_true, List.any_eq_true] at h
    have hy : Rch L y := by
      rcases h.1 with e | ⟨s, hm, hc⟩
      · rw [eq_of_beq e]; exact .zero
      · exact .step (hs s hm) (by simpa using hc)
    rcases List.mem_cons.1 hx with rfl | hx
    · exact hy
    · exact chain_rch r (y :: seen) (fun z hz => by
        rcases List.mem_cons.1 hz with rfl | hz
        · exact hy
        · exact hs z hz) h.2 x hx
def okT (L : List Ins) (T : List Spt) : Bool := decide T.Nodup && (T.contains Spt.zero && (T.all (fun x => (nextS L x).all (fun y => T.contains y)) && chainB L [] T))
theorem okT_rch {L : List Ins} {T : List Spt} (h : okT L T = true) (x : Spt) : x ∈ T ↔ Rch L x := by
  simp only [okT, Bool.and_eq_true, List.all_eq_true] at h
  obtain ⟨_, h2, h3, h4⟩ := h
  refine ⟨chain_rch T [] (fun _ h => by cases h) h4 x, fun hr => ?_⟩
  induction hr with
  | zero => simpa using h2
  | step _ hy ih => simpa using h3 _ ih _ hy
theorem verify_okT {l : List Ins} (hc : (checkM l).1 = 0) {T : List Spt} (h : okT (withHalt l) T = true) : verifyM l = readT (withHalt l) T l.length (l.length + 1) 0 := by
  refine verify_read hc ?_ (okT_rch h)
  simp only [okT, Bool.and_eq_true, decide_eq_true_eq] at h
  exact h.1
theorem ver1 : verifyM (code0 1) = (0, 0) := (verify_okT (by kernel_rfl) (T := spots (code0 1)) (by kernel_rfl)).trans (by kernel_rfl)
theorem ver2 : verifyM (code0 2) = (0, 0) := (verify_okT (by kernel_rfl) (T := spots (code0 2)) (by kernel_rfl)).trans (by kernel_rfl)
theorem ver3 : verifyM (code0 3) = (0, 0) := (verify_okT (by kernel_rfl) (T := spots (code0 3)) (by kernel_rfl)).trans (by kernel_rfl)
theorem ver4 : verifyM (code0 4) = (0, 0) := (verify_okT (by kernel_rfl) (T := spots (code0 4)) (by kernel_rfl)).trans (by kernel_rfl)
theorem ver5 : verifyM (code0 5) = (0, 0) := (verify_okT (by kernel_rfl) (T := spots (code0 5)) (by kernel_rfl)).trans (by kernel_rfl)
theorem code_verify {base n : Int} {d : Dd} (h : d.op = 1 ∨ d.op = 2 ∨ d.op = 3 ∨ d.op = 4 ∨ d.op = 5) : verifyM (codeM base n d) = (0, 0) := by
  have ha := code_alt (base := base) (n := n) h
  have hc : (checkM (code0 d.op)).1 = 0 := by rcases h with e | e | e | e | e <;> (rw [e]; kernel_rfl)
  rw [ha.verify hc]
  rcases h with e | e | e | e | e
  · rw [e]; exact ver1
  · rw [e]; exact ver2
  · rw [e]; exact ver3
  · rw [e]; exact ver4
  · rw [e]; exact ver5
end Go.Proofs.YtmoekoilcdkhfaaGreatDoor
