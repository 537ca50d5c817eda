/- Orders of stories as plain data: what memory holds, which reads are explained, what goes with the time; the search. -/
import Derived.Test.YtnmlnjljmikmpaaHc
namespace Go.Proofs.Ytnmlnjljmikmpaa
set_option linter.unusedVariables false
set_option linter.unusedSimpArgs false

/-- What cells hold. -/
abbrev Mem := Int → Int
def upd (m : Mem) (c x : Int) : Mem := fun y => if y = c then x else m y
def updL (m : Mem) (ps : List Pr) : Mem := ps.foldl (fun m p => upd m p.1 p.2) m
def startM (start : List Int) : Mem := fun c => if 0 ≤ c then start.getD c.toNat 0 else 0
def ownSet (o : Int → Option Int) (c x : Int) : Int → Option Int := fun y => if y = c then some x else o y
/-- Are the reads explained? -/
def okMs (mem : Mem) : (Int → Option Int) → List Mv → Bool
  | _, [] => true
  | own, m :: r => if m.wr then okMs mem (ownSet own m.ce m.x) r else ((own m.ce).getD (mem m.ce) == m.x) && okMs mem own r
def okS (mem : Mem) (s : Sy) : Bool := okMs mem (fun _ => none) s.ms
def leavesL (s : Sy) : List Pr := if s.ft = 1 then wrM s.ms else []
def leaves (mem : Mem) (s : Sy) : Mem := updL mem (leavesL s)
/-- All that an order has to do with of a story: what must be there when it comes; does it contradict itself? -/
def asksM : (Int → Option Int) → List Mv → List Pr
  | _, [] => []
  | own, m :: r => if m.wr then asksM (ownSet own m.ce m.x) r else match own m.ce with
    | none => (m.ce, m.x) :: asksM own r
    | some _ => asksM own r
def brokeM : (Int → Option Int) → List Mv → Bool
  | _, [] => false
  | own, m :: r => if m.wr then brokeM (ownSet own m.ce m.x) r else match own m.ce with
    | none => brokeM own r
    | some y => (y != m.x) || brokeM own r
theorem okMs_gist (mem : Mem) : ∀ (ms : List Mv) (own : Int → Option Int), okMs mem own ms = (!brokeM own ms && !(asksM own ms).any fun p => mem p.1 != p.2)
  | [], own => rfl
  | m :: r, own => by
    unfold okMs brokeM asksM
    cases hw : m.wr with
    | true => simp only [if_true]; exact okMs_gist mem r _
    | false =>
      simp only [Bool.false_eq_true, if_false]
      rw [okMs_gist mem r own]
      cases ho : own m.ce with
      | none =>
        simp only [Option.getD_none, List.any_cons]
        cases h1 : (mem m.ce == m.x) <;> cases h2 : brokeM own r <;> simp [bne, h1]
      | some y =>
        simp only [Option.getD_some]
        cases h1 : (y == m.x) <;> cases h2 : brokeM own r <;> simp [bne, h1]
/-- The first one whose reads are not explained. -/
def readBad : Mem → List Sy → Nat → Option Nat
  | _, [], _ => none
  | m, s :: r, i => if okS m s then readBad (leaves m s) r (i + 1) else some i
def memB : Mem → List Sy → Mem
  | m, [] => m
  | m, s :: r => memB (leaves m s) r
def ends (s o : Sy) : Bool := s.en != 0 && decide (s.en < o.bg)
/-- The first one that ends ahead of one that stands ahead of it: g is the greatest Begin so far. -/
def lateAt : Int → List Sy → Nat → Option Nat
  | _, [], _ => none
  | g, s :: r, i => if s.en ≠ 0 ∧ s.en < g then some i else lateAt (if s.bg > g then s.bg else g) r (i + 1)
def lateG : Int → List Sy → Int
  | g, [] => g
  | g, s :: r => lateG (if s.bg > g then s.bg else g) r
def eachOnce (order : List Int) (n : Nat) : Prop := order.length = n ∧ (∀ x ∈ order, 0 ≤ x ∧ x < (n : Int)) ∧ order.Nodup
instance (order : List Int) (n : Nat) : Decidable (eachOnce order n) := by unfold eachOnce; infer_instance
def pick (l : List Sy) (order : List Int) : List Sy := order.map fun x => l.getD x.toNat Sy.zero
def minI : Int := -9223372036854775808
def chk (start : List Int) (l : List Sy) (order : List Int) : Int × Int :=
  if eachOnce order l.length then
    match lateAt minI (pick l order) 0 with
    | some i => (221, i)
    | none => match readBad (startM start) (pick l order) 0 with
      | some i => (222, i)
      | none => (0, 0)
  else (220, 0)
theorem readBad_append : ∀ (a b : List Sy) (m : Mem) (i : Nat), readBad m (a ++ b) i = match readBad m a i with | some k => some k | none => readBad (memB m a) b (i + a.length)
  | [], b, m, i => by simp [readBad, memB]
  | s :: r, b, m, i => by
    simp only [List.cons_append, readBad]
    by_cases h : okS m s = true
    · rw [if_pos h, if_pos h, readBad_append r b, memB]
      simp only [List.length_cons, show i + 1 + r.length = i + (r.length + 1) by omega]
    · rw [if_neg h, if_neg h]
theorem memB_append : ∀ (a b : List Sy) (m : Mem), memB m (a ++ b) = memB (memB m a) b
  | [], b, m => rfl
  | s :: r, b, m => by simp only [List.cons_append, memB]; exact memB_append r b _
theorem lateAt_append : ∀ (a b : List Sy) (g : Int) (i : Nat), lateAt g (a ++ b) i = match lateAt g a i with | some k => some k | none => lateAt (lateG g a) b (i + a.length)
  | [], b, g, i => by simp [lateAt, lateG]
  | s :: r, b, g, i => by
    simp only [List.cons_append, lateAt]
    by_cases h : s.en ≠ 0 ∧ s.en < g
    · rw [if_pos h, if_pos h]
    · rw [if_neg h, if_neg h, lateAt_append r b, lateG]
      simp only [List.length_cons, show i + 1 + r.length = i + (r.length + 1) by omega]
theorem lateG_append : ∀ (a b : List Sy) (g : Int), lateG g (a ++ b) = lateG (lateG g a) b
  | [], b, g => rfl
  | s :: r, b, g => by simp only [List.cons_append, lateG]; exact lateG_append r b _
theorem lateG_lt : ∀ (a : List Sy) (g x : Int), x < lateG g a ↔ x < g ∨ ∃ o ∈ a, x < o.bg
  | [], g, x => by simp [lateG]
  | s :: r, g, x => by
    unfold lateG
    rw [lateG_lt r]
    simp only [List.mem_cons, exists_eq_or_imp]
    split <;> constructor <;> rintro (h | h)
    · exact .inr (.inl h)
    · exact .inr (.inr h)
    · exact .inl (by omega)
    · rcases h with h | h
      · exact .inl h
      · exact .inr h
    · exact .inl h
    · exact .inr (.inr h)
    · exact .inl h
    · rcases h with h | h
      · exact .inl (by omega)
      · exact .inr h
/-- Does a story end ahead of one of those? With the least int ahead of all. -/
theorem late_iff (a : List Sy) (s : Sy) (hs : minI ≤ s.en) : (s.en ≠ 0 ∧ s.en < lateG minI a) ↔ a.any (ends s) = true := by
  rw [lateG_lt, List.any_eq_true]
  constructor
  · rintro ⟨h0, h | ⟨o, ho, h⟩⟩
    · omega
    · exact ⟨o, ho, by simp [ends, h0, h]⟩
  · rintro ⟨o, ho, h⟩
    simp only [ends, Bool.and_eq_true, bne_iff_ne, ne_eq, decide_eq_true_eq] at h
    exact ⟨h.1, .inr ⟨o, ho, h.2⟩⟩

/-! The search -/
/-- May this place come next? -/
def mayNext (l : List Sy) (m : Mem) (pre : List Nat) (p : Nat) : Bool := !(pre.any fun a => a == p || ends (l.getD p Sy.zero) (l.getD a Sy.zero)) && okS m (l.getD p Sy.zero)
/-- Whole orders that begin with pre. -/
def good (l : List Sy) : Mem → List Nat → List Nat → Prop
  | _, pre, [] => pre.length = l.length
  | m, pre, p :: ext => p < l.length ∧ mayNext l m pre p = true ∧ good l (leaves m (l.getD p Sy.zero)) (pre ++ [p]) ext
/-- The search: with how many are left. -/
def dfs (l : List Sy) : Nat → Mem → List Nat → Option (List Nat)
  | 0, _, pre => some pre
  | f + 1, m, pre => (List.range l.length).findSome? fun p => if mayNext l m pre p = true then dfs l f (leaves m (l.getD p Sy.zero)) (pre ++ [p]) else none
/-- Less, where they differ first. -/
def lx : List Nat → List Nat → Prop
  | a :: r, b :: s => a < b ∨ (a = b ∧ lx r s)
  | _, _ => False
theorem lx_irrefl : ∀ a : List Nat, ¬ lx a a
  | [] => fun h => h
  | x :: r => by
    rintro (h | ⟨_, h⟩)
    · omega
    · exact lx_irrefl r h
theorem lx_append : ∀ (p a b : List Nat), lx (p ++ a) (p ++ b) ↔ lx a b
  | [], a, b => Iff.rfl
  | x :: p, a, b => by
    show x < x ∨ (x = x ∧ lx (p ++ a) (p ++ b)) ↔ _
    rw [lx_append p a b]
    simp
theorem lx_trans : ∀ {a b c : List Nat}, lx a b → lx b c → lx a c
  | [], _, _, h, _ => h.elim
  | _ :: _, [], _, h, _ => h.elim
  | _ :: _, _ :: _, [], _, k => k.elim
  | x :: a, y :: b, z :: c, h, k => by
    rcases h with h | ⟨rfl, h⟩ <;> rcases k with k | ⟨rfl, k⟩
    · exact .inl (by omega)
    · exact .inl h
    · exact .inl k
    · exact .inr ⟨rfl, lx_trans h k⟩
theorem lx_total : ∀ {a b : List Nat}, a.length = b.length → lx a b ∨ a = b ∨ lx b a
  | [], [], _ => .inr (.inl rfl)
  | [], _ :: _, h => by simp at h
  | _ :: _, [], h => by simp at h
  | x :: a, y :: b, h => by
    simp only [List.length_cons, Nat.add_right_cancel_iff] at h
    rcases Nat.lt_trichotomy x y with c | rfl | c
    · exact .inl (.inl c)
    · rcases lx_total h with k | rfl | k
      · exact .inl (.inr ⟨rfl, k⟩)
      · exact .inr (.inl rfl)
      · exact .inr (.inr (.inr ⟨rfl, k⟩))
    · exact .inr (.inr (.inl c))
theorem good_len {l : List Sy} : ∀ {ext : List Nat} {m : Mem} {pre : List Nat}, good l m pre ext → pre.length + ext.length = l.length
  | [], m, pre, h => by simpa using (show pre.length = l.length from h)
  | p :: ext, m, pre, h => by
    have := good_len (show good l _ (pre ++ [p]) ext from h.2.2)
    simp only [List.length_append, List.length_cons, List.length_nil] at this ⊢
    omega
theorem findSome_spec {α : Type} (g : Nat → Option α) : ∀ (n : Nat), (match (List.range n).findSome? g with
    | some r => ∃ p, p < n ∧ g p = some r ∧ ∀ q, q < p → g q = none
    | none => ∀ q, q < n → g q = none) := by
  intro n
  induction n with
  | zero => exact fun q hq => by omega
  | succ n ih =>
    rw [List.range_succ, List.findSome?_append]
    cases h : (List.range n).findSome? g with
    | some r =>
      rw [h] at ih
      obtain ⟨p, hp, h1, h2⟩ := ih
      exact ⟨p, by omega, h1, h2⟩
    | none =>
      rw [h] at ih
      simp only at ih
      cases hg : g n with
      | some r =>
        simp only [List.findSome?_cons, hg, Option.or_some, Option.none_or]
        exact ⟨n, by omega, hg, ih⟩
      | none =>
        simp only [List.findSome?_cons, hg, Option.none_or, List.findSome?_nil]
        intro q hq
        rcases Nat.lt_succ_iff_lt_or_eq.1 hq with h | rfl
        · exact ih q h
        · exact hg
theorem dfs_spec (l : List Sy) : ∀ (f : Nat) (m : Mem) (pre : List Nat), pre.length + f = l.length →
    (match dfs l f m pre with
     | some r => ∃ ext, r = pre ++ ext ∧ good l m pre ext ∧ ∀ ext', good l m pre ext' → ¬ lx ext' ext
     | none => ∀ ext, ¬ good l m pre ext)
  | 0, m, pre, h => by
    simp only [dfs]
    exact ⟨[], by simp, by simpa [good] using h, fun ext' _ hx => by cases ext' <;> exact hx.elim⟩
  | f + 1, m, pre, h => by
    have hr := findSome_spec (fun p => if mayNext l m pre p = true then dfs l f (leaves m (l.getD p Sy.zero)) (pre ++ [p]) else none) l.length
    have ih := fun p => dfs_spec l f (leaves m (l.getD p Sy.zero)) (pre ++ [p]) (by simp; omega)
    have no : ∀ q, (if mayNext l m pre q = true then dfs l f (leaves m (l.getD q Sy.zero)) (pre ++ [q]) else none) = none → ∀ ext, ¬ good l m pre (q :: ext) := by
      intro q hq ext hg
      rw [if_pos hg.2.1] at hq
      have := ih q
      rw [hq] at this
      exact this ext hg.2.2
    simp only [dfs]
    cases hc : (List.range l.length).findSome? fun p => if mayNext l m pre p = true then dfs l f (leaves m (l.getD p Sy.zero)) (pre ++ [p]) else none with
    | none =>
      rw [hc] at hr
      rintro (_ | ⟨q, ext⟩) hg
      · have : pre.length = l.length := hg
        omega
      · exact no q (hr q hg.1) ext hg
    | some r =>
      rw [hc] at hr
      obtain ⟨p, hp, h1, h2⟩ := hr
      split at h1
      · rename_i hm
        have := ih p
        rw [h1] at this
        obtain ⟨ext, e1, e2, e3⟩ := this
        refine ⟨p :: ext, by rw [e1]; simp, ⟨hp, hm, e2⟩, ?_⟩
        rintro (_ | ⟨q, ext'⟩) hg hx
        · exact hx
        · rcases hx with hx | ⟨rfl, hx⟩
          · exact no q (h2 q hx) ext' hg
          · exact e3 ext' hg.2.2 hx
      · cases h1
/-- How far it goes with those from place j on. -/
theorem dfs_from (l : List Sy) (f : Nat) (m : Mem) (pre : List Nat) (j : Nat) (h : ∀ q, q < j → mayNext l m pre q = true → dfs l f (leaves m (l.getD q Sy.zero)) (pre ++ [q]) = none) :
    (j ≥ l.length → dfs l (f + 1) m pre = none) ∧ (∀ r, j < l.length → mayNext l m pre j = true → dfs l f (leaves m (l.getD j Sy.zero)) (pre ++ [j]) = some r → dfs l (f + 1) m pre = some r) := by
  have hr := findSome_spec (fun p => if mayNext l m pre p = true then dfs l f (leaves m (l.getD p Sy.zero)) (pre ++ [p]) else none) l.length
  have hn : ∀ q, q < j → (if mayNext l m pre q = true then dfs l f (leaves m (l.getD q Sy.zero)) (pre ++ [q]) else none) = none := by
    intro q hq
    split
    · rename_i hm; exact h q hq hm
    · rfl
  constructor
  · intro hj
    simp only [dfs]
    cases hc : (List.range l.length).findSome? fun p => if mayNext l m pre p = true then dfs l f (leaves m (l.getD p Sy.zero)) (pre ++ [p]) else none with
    | none => rfl
    | some r =>
      rw [hc] at hr
      obtain ⟨p, hp, h1, _⟩ := hr
      rw [hn p (by omega)] at h1
      cases h1
  · intro r hj hm hd
    simp only [dfs]
    cases hc : (List.range l.length).findSome? fun p => if mayNext l m pre p = true then dfs l f (leaves m (l.getD p Sy.zero)) (pre ++ [p]) else none with
    | none =>
      rw [hc] at hr
      have := hr j hj
      simp only [hm, if_true, hd] at this
      cases this
    | some r' =>
      rw [hc] at hr
      obtain ⟨p, hp, h1, h2⟩ := hr
      rcases Nat.lt_trichotomy p j with c | rfl | c
      · rw [hn p c] at h1; cases h1
      · simp only [hm, if_true, hd] at h1
        exact h1.symm
      · have := h2 j c
        simp only [hm, if_true, hd] at this
        cases this
end Go.Proofs.Ytnmlnjljmikmpaa
