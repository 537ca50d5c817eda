/- Texts with numbers in them, as plain data: numerals, lines, what is read of lines. No program is named here. Programs of dicts and their texts as plain data. No program is named here. -/
import Derived.Test.YtbpilhjomfkpaaaGreatDoorPsM
import Derived.Lib.Replace
import Derived.Test.YtbpilhjomfkpaaaGreatDoorVfM
import Derived.Lib.ItoaLen
import Derived.Test.YtbpilhjomfkpaaaGreatDoorPsG
namespace Go.Proofs.YtbpilhjomfkpaaaGreatDoor
open Go.RowKit
set_option linter.unusedVariables false
set_option linter.unusedSimpArgs false

theorem index_at (a b : List UInt8) (c : UInt8) (h : c ∉ a) : Lib.index (a ++ c :: b) [c] = a.length := by
  induction a with
  | nil => simp [Lib.index, List.isPrefixOf]
  | cons x a ih =>
    have hx : ¬ c = x := fun e => h (by simp [e])
    have hi := ih (fun m => h (by simp [m]))
    simp only [List.cons_append, Lib.index]
    rw [if_neg (by simp [List.isPrefixOf, hx]), hi, if_neg (by simp only [beq_iff_eq]; omega)]
    simp
theorem index_gone (a : List UInt8) (c : UInt8) (h : c ∉ a) : Lib.index a [c] = -1 := by
  induction a with
  | nil => rfl
  | cons x a ih =>
    have hx : ¬ c = x := fun e => h (by simp [e])
    have hi := ih (fun m => h (by simp [m]))
    simp only [Lib.index]
    rw [if_neg (by simp [List.isPrefixOf, hx]), hi]
    rfl
/-- A mark is replaced where it stands first. -/
theorem replace_at (a b x : List UInt8) (c : UInt8) (h : c ∉ a) (hx : x ≠ [c]) : Lib.replace (a ++ c :: b) [c] x 1 = a ++ x ++ b := by
  have hi := index_at a b c h
  have hc : Lib.count (a ++ c :: b) [c] = 1 + Lib.count b [c] := by
    rw [Lib.count_hit (by simp) hi]
    congr 2
    simp
  unfold Lib.replace
  rw [if_neg (by simpa using fun e => hx e.symm)]
  have hn : Lib.replaceNum (a ++ c :: b) [c] 1 = 0 + 1 := by
    unfold Lib.replaceNum
    rw [hc, if_neg (by omega)]
    rfl
  rw [hn, Lib.replaceK_hit _ _ _ _ _ hi]
  simp [Lib.replaceK]
theorem dec_mem (u : Nat) : ∀ b ∈ Lib.decDigits u, 48 ≤ b.toNat ∧ b.toNat ≤ 57 := by
  induction u using Nat.strongRecOn with
  | _ u ih =>
    intro b hb
    have dig : ∀ k, k < 10 → 48 ≤ (UInt8.ofNat (48 + k)).toNat ∧ (UInt8.ofNat (48 + k)).toNat ≤ 57 := by
      intro k hk
      rw [UInt8.toNat_ofNat']
      omega
    by_cases h : u < 10
    · rw [Lib.decDigits, dif_pos h] at hb
      rw [List.mem_singleton.1 hb]
      exact dig u h
    · rw [Lib.decDigits, dif_neg h] at hb
      rcases List.mem_append.1 hb with hb | hb
      · exact ih (u / 10) (by omega) b hb
      · rw [List.mem_singleton.1 hb]
        exact dig (u % 10) (by omega)
theorem dec_last (u : Nat) : ∃ a c, Lib.decDigits u = a ++ [c] ∧ 48 ≤ c.toNat ∧ c.toNat ≤ 57 := by
  have hm := dec_mem u
  by_cases h : u < 10
  · rw [Lib.decDigits, dif_pos h] at hm ⊢
    exact ⟨[], _, rfl, hm _ (by simp)⟩
  · rw [Lib.decDigits, dif_neg h] at hm ⊢
    exact ⟨_, _, rfl, hm _ (by simp)⟩
theorem dec_first (u : Nat) : ∃ c r, Lib.decDigits u = c :: r ∧ 48 ≤ c.toNat ∧ c.toNat ≤ 57 := by
  have hm := dec_mem u
  obtain ⟨a, c, e, h⟩ := dec_last u
  rw [e] at hm ⊢
  cases a with
  | nil => exact ⟨c, [], rfl, h⟩
  | cons x a => exact ⟨x, a ++ [c], rfl, hm x (by simp)⟩
theorem parse_snoc (l : List UInt8) (c : UInt8) : ∀ (acc v : Nat), Lib.parseUint10 acc l = .ok v → Lib.parseUint10 acc (l ++ [c]) = Lib.parseUint10 v [c] := by
  induction l with
  | nil => intro acc v h; simp only [Lib.parseUint10, Lib.NumEnd.ok.injEq] at h; rw [h]; rfl
  | cons x l ih =>
    intro acc v h
    simp only [List.cons_append]
    rw [Lib.parseUint10] at h ⊢
    split at h
    · split at h
      · cases h
      · split at h
        · cases h
        · rename_i h1 h2 h3
          rw [if_pos h1, if_neg h2, if_neg h3]
          exact ih _ _ h
    · cases h
theorem parse_dec (u : Nat) (hu : u < 18446744073709551616) : Lib.parseUint10 0 (Lib.decDigits u) = .ok u := by
  induction u using Nat.strongRecOn with
  | _ u ih =>
    have dig : ∀ k, k < 10 → (UInt8.ofNat (48 + k)).toNat = 48 + k := by
      intro k hk
      rw [UInt8.toNat_ofNat']
      omega
    by_cases h : u < 10
    · rw [Lib.decDigits, dif_pos h]
      simp only [Lib.parseUint10]
      rw [dig u h, if_pos (by omega), if_neg (by omega), if_neg (by omega)]
      congr 1
      omega
    · rw [Lib.decDigits, dif_neg h, parse_snoc _ _ 0 (u / 10) (ih (u / 10) (by omega) (by omega))]
      simp only [Lib.parseUint10]
      rw [dig (u % 10) (by omega), if_pos (by omega), if_neg (by omega), if_neg (by omega)]
      congr 1
      omega
theorem atoi_itoa (v : Int) (h0 : -9223372036854775808 ≤ v) (h1 : v ≤ 9223372036854775807) : Lib.atoiAll (Lib.itoa v) = .ok v := by
  unfold Lib.itoa
  by_cases h : v < 0
  · rw [if_pos h]
    obtain ⟨c, r, e, hc⟩ := dec_first v.natAbs
    have hp := parse_dec v.natAbs (by omega)
    simp only [Lib.atoiAll, Lib.parseMag]
    rw [show (if UInt8.toNat 45 = 43 ∨ UInt8.toNat 45 = 45 then Lib.decDigits v.natAbs else 45 :: Lib.decDigits v.natAbs) = Lib.decDigits v.natAbs from if_pos (.inr rfl), if_neg (by rw [e]; simp), hp]
    simp only
    rw [if_neg (by simp), if_neg (by simp; omega), if_pos (by decide)]
    congr 1
    omega
  · rw [if_neg h]
    have hp := parse_dec v.toNat (by omega)
    obtain ⟨c, r, e, hc⟩ := dec_first v.toNat
    rw [e] at hp ⊢
    simp only [Lib.atoiAll, Lib.parseMag]
    rw [show (if c.toNat = 43 ∨ c.toNat = 45 then r else c :: r) = c :: r from if_neg (by omega), if_neg (by simp), hp]
    simp only
    rw [if_neg (by omega), if_neg (by omega), if_neg (by omega)]
    congr 1
    omega
theorem itoa_mem (v : Int) : ∀ b ∈ Lib.itoa v, b.toNat = 45 ∨ (48 ≤ b.toNat ∧ b.toNat ≤ 57) := by
  intro b hb
  unfold Lib.itoa at hb
  split at hb
  · rcases List.mem_cons.1 hb with rfl | hb
    · exact .inl rfl
    · exact .inr (dec_mem _ b hb)
  · exact .inr (dec_mem _ b hb)
theorem itoa_last (v : Int) : ∃ a c, Lib.itoa v = a ++ [c] ∧ 48 ≤ c.toNat ∧ c.toNat ≤ 57 := by
  unfold Lib.itoa
  split
  · obtain ⟨a, c, e, h⟩ := dec_last v.natAbs
    exact ⟨45 :: a, c, by rw [e]; rfl, h⟩
  · exact dec_last _
theorem itoa_first (v : Int) : ∃ c r, Lib.itoa v = c :: r ∧ (c.toNat = 45 ∨ (48 ≤ c.toNat ∧ c.toNat ≤ 57)) := by
  have hm := itoa_mem v
  obtain ⟨a, c, e, h⟩ := itoa_last v
  rw [e] at hm ⊢
  cases a with
  | nil => exact ⟨c, [], rfl, .inr h⟩
  | cons x a => exact ⟨x, a ++ [c], rfl, hm x (by simp)⟩
theorem itoa_no (v : Int) (c : UInt8) (h : c.toNat ≠ 45) (h' : c.toNat < 48 ∨ 57 < c.toNat) : c ∉ Lib.itoa v := by
  intro hm
  have := itoa_mem v c hm
  omega

/-- What a line says: nothing, a label, an instruction. -/
inductive Lw where
  | no
  | lab (x : List UInt8)
  | ins (x : Ins) (l : List UInt8)
def Lw.is (s : List UInt8) : Lw → Prop
  | .no => saidM s = []
  | .lab x => saidM s ≠ [] ∧ Lib.hasSuffix (saidM s) [58] = true ∧ Lib.trimSuffix (saidM s) [58] = x ∧ nameB x = true
  | .ins x l => saidM s ≠ [] ∧ Lib.hasSuffix (saidM s) [58] = false ∧ ∀ i, instrM i (saidM s) = .ok ⟨i, x, l⟩
def Lw.run (i : Int) (p : Pst) : Lw → Option Pst
  | .no => some p
  | .lab x => if (findM p.ls x).isSome = true then none else if p.ls.length = 400 then none else some ⟨p.ls ++ [(x, (p.ds.length : Int))], p.ds⟩
  | .ins x l => if p.ds.length = 400 then none else some ⟨p.ls, p.ds ++ [⟨i, x, l⟩]⟩
theorem Lw.take {s : List UInt8} {w : Lw} {i : Int} {p q : Pst} (h : w.is s) (hr : w.run i p = some q) : takeM i (saidM s) p = .ok q := by
  cases w with
  | no =>
    simp only [Lw.is, Lw.run, Option.some.injEq] at h hr
    subst hr
    unfold takeM
    rw [if_pos h]
  | lab x =>
    obtain ⟨h1, h2, h3, h4⟩ := h
    simp only [Lw.run] at hr
    unfold takeM
    rw [if_neg h1, if_pos h2, h3]
    unfold labelM
    rw [if_neg (by rw [h4]; simp)]
    split at hr
    · cases hr
    · split at hr
      · cases hr
      · rename_i a b
        rw [if_neg a, if_neg b]
        simp only [Option.some.injEq] at hr
        rw [hr]
  | ins x l =>
    obtain ⟨h1, h2, h3⟩ := h
    simp only [Lw.run] at hr
    unfold takeM
    rw [if_neg h1, if_neg (by rw [h2]; simp), h3]
    split at hr
    · cases hr
    · rename_i a
      simp only
      rw [if_neg a]
      simp only [Option.some.injEq] at hr
      rw [hr]
def Lws : List (List UInt8) → List Lw → Prop
  | [], [] => True
  | l :: ls, w :: ws => w.is l ∧ Lws ls ws
  | _, _ => False
def runL : Int → List Lw → Pst → Option Pst
  | _, [], p => some p
  | i, w :: ws, p =>
    match w.run (i + 1) p with
    | none => none
    | some q => runL (i + 1) ws q
theorem Lws.all : ∀ {ls : List (List UInt8)} {ws : List Lw} {i : Int} {p q : Pst}, Lws ls ws → runL i ws p = some q → takeAll i (ls.map bs) p = .ok q
  | [], [], i, p, q, _, hr => by
    simp only [runL, Option.some.injEq] at hr
    subst hr
    rfl
  | l :: ls, w :: ws, i, p, q, h, hr => by
    simp only [runL] at hr
    cases hw : w.run (i + 1) p with
    | none => rw [hw] at hr; cases hr
    | some r =>
      rw [hw] at hr
      simp only [List.map_cons, takeAll]
      have := Lw.take h.1 hw
      rw [this]
      exact Lws.all h.2 hr
  | [], _ :: _, _, _, _, h, _ => h.elim
  | _ :: _, [], _, _, _, h, _ => h.elim
def txt (ls : List (List UInt8)) : List UInt8 := ls.flatMap (· ++ [10])
theorem lines_txt (ls : List (List UInt8)) (h : ∀ l ∈ ls, (10 : UInt8) ∉ l) : linesM (bs (txt ls)) = (ls ++ [[]]).map bs := by
  induction ls with
  | nil => rfl
  | cons l ls ih =>
    have h1 := h l (by simp)
    have h2 := ih (fun x hx => h x (by simp [hx]))
    have hi : Lib.indexB (bs (txt (l :: ls))) ⟨#[10]⟩ = l.length := by
      show Lib.index (txt (l :: ls)) [10] = l.length
      rw [show txt (l :: ls) = l ++ 10 :: txt ls by simp [txt]]
      exact index_at _ _ _ h1
    have hd : (bs (txt (l :: ls))).extract (l.length + 1) (bs (txt (l :: ls))).size = bs (txt ls) := by
      have e := Lib.extract_to_end (bs (txt (l :: ls))) (l.length + 1)
      rw [← bs_data ((bs (txt (l :: ls))).extract (l.length + 1) (bs (txt (l :: ls))).size), e]
      simp [txt]
    have hz : (bs (txt (l :: ls))).extract 0 (l.length + 0) = bs l := by
      have e := Lib.extract_from_zero (bs (txt (l :: ls))) (l.length + 0)
      rw [← bs_data ((bs (txt (l :: ls))).extract 0 (l.length + 0)), e]
      simp [txt]
    have hc : Lib.countB (bs (txt (l :: ls))) ⟨#[10]⟩ = Lib.countB (bs (txt ls)) ⟨#[10]⟩ + 1 := by
      rw [Lib.countB_hit _ _ _ (by decide) hi, show (⟨#[10]⟩ : ByteArray).size = 1 from rfl, hd, Nat.add_comm]
    unfold linesM at h2 ⊢
    rw [hc, Lib.splitB_hit _ _ _ _ _ hi, show (⟨#[10]⟩ : ByteArray).size = 1 from rfl, hd, hz, h2]
    simp
/-- A text is read line by line. -/
theorem parse_txt {ls : List (List UInt8)} {ws : List Lw} {p : Pst} {r : List Ins} (h10 : ∀ l ∈ ls, (10 : UInt8) ∉ l) (hz : (txt ls).length ≤ 65536) (hw : Lws ls ws) (hr : runL 0 ws ⟨[], []⟩ = some p) (hs : setAll p p.ds [] = .ok r) (hn : r ≠ []) : parseM (bs (txt ls)) = .ok r := by
  unfold parseM
  rw [if_neg (by simp only [bs, ByteArray.size, List.size_toArray]; omega), lines_txt ls h10]
  have ht : takeAll 0 ((ls ++ [[]]).map bs) ⟨[], []⟩ = .ok p := by
    have aux : ∀ (ls : List (List UInt8)) (ws : List Lw), Lws ls ws → Lws (ls ++ [[]]) (ws ++ [.no]) := by
      intro ls
      induction ls with
      | nil => intro ws h; cases ws with
        | nil => exact ⟨rfl, trivial⟩
        | cons => exact h.elim
      | cons l ls ih => intro ws h; cases ws with
        | nil => exact h.elim
        | cons w ws => exact ⟨h.1, ih ws h.2⟩
    have aux2 : ∀ (ws : List Lw) (i : Int) (p q : Pst), runL i ws p = some q → runL i (ws ++ [.no]) p = some q := by
      intro ws
      induction ws with
      | nil => intro i p q h; exact h
      | cons w ws ih =>
        intro i p q h
        simp only [List.cons_append, runL] at h ⊢
        cases hw : w.run (i + 1) p with
        | none => rw [hw] at h; cases h
        | some r => rw [hw] at h; exact ih _ _ _ h
    exact Lws.all (aux ls ws hw) (aux2 ws 0 _ p hr)
  rw [ht]
  simp only
  rw [hs]
  simp only
  rw [if_neg hn]
theorem cut_gone (l : List UInt8) (h : (59 : UInt8) ∉ l) : (Lib.cut l [59]).1 = l := by
  unfold Lib.cut
  rw [index_gone l 59 h, if_neg (by decide)]
theorem push_said (v : Int) : saidM (9 :: 112 :: 117 :: 115 :: 104 :: 32 :: Lib.itoa v) = 112 :: 117 :: 115 :: 104 :: 32 :: Lib.itoa v := by
  unfold saidM
  rw [cut_gone _ (by
    have := itoa_no v 59 (by decide) (by decide)
    simp [this])]
  obtain ⟨a, c, e, hc⟩ := itoa_last v
  have hr : Lib.trimRightS (9 :: 112 :: 117 :: 115 :: 104 :: 32 :: Lib.itoa v) [32, 9] = 9 :: 112 :: 117 :: 115 :: 104 :: 32 :: Lib.itoa v := by
    have c1 : ¬ c = 32 := fun e => by subst e; simp at hc
    have c2 : ¬ c = 9 := fun e => by subst e; simp at hc
    unfold Lib.trimRightS
    rw [e]
    simp [List.dropWhile_cons, c1, c2]
  unfold Lib.trimS
  rw [hr]
  rfl
/-- A line that pushes a number. -/
theorem push_line (v : Int) (h0 : -9223372036854775808 ≤ v) (h1 : v ≤ 9223372036854775807) : (Lw.ins ⟨1, v⟩ []).is (9 :: 112 :: 117 :: 115 :: 104 :: 32 :: Lib.itoa v) := by
  have hs := push_said v
  have hp : Lib.indexAny (112 :: 117 :: 115 :: 104 :: 32 :: Lib.itoa v) [32, 9] = 4 := by rfl
  have ht : tailOf (112 :: 117 :: 115 :: 104 :: 32 :: Lib.itoa v) = Lib.itoa v := by
    unfold tailOf
    rw [hp, if_pos (by decide)]
    obtain ⟨c, r, e, hc⟩ := itoa_first v
    have c1 : ¬ c = 32 := fun e => by subst e; simp at hc
    have c2 : ¬ c = 9 := fun e => by subst e; simp at hc
    rw [e]
    show Lib.trimLeftS (32 :: c :: r) [32, 9] = c :: r
    unfold Lib.trimLeftS
    simp [List.dropWhile_cons, c1, c2]
  have hwd : wordOf (112 :: 117 :: 115 :: 104 :: 32 :: Lib.itoa v) = [112, 117, 115, 104] := by
    unfold wordOf
    rw [hp, if_pos (by decide)]
    rfl
  refine ⟨by rw [hs]; simp, ?_, fun i => ?_⟩
  · rw [hs]
    obtain ⟨a, c, e, hc⟩ := itoa_last v
    have c1 : ¬ 58 = c := fun e => by subst e; simp at hc
    rw [e]
    simp [Lib.hasSuffix, List.isSuffixOf, List.isPrefixOf, c1]
  · rw [hs]
    unfold instrM
    rw [hwd, ht, show opM [112, 117, 115, 104] = some 1 by kernel_rfl]
    simp only
    unfold operM
    rw [if_neg (by decide), if_neg (by intro h; exact absurd h.1 (by decide))]
    have hn : numM (Lib.itoa v) = some v := by
      unfold numM
      rw [atoi_itoa v h0 h1]
      simp
    rw [hn]
    simp only
    rw [if_pos (by rfl)]
    rfl
end Go.Proofs.YtbpilhjomfkpaaaGreatDoor

namespace Go.Proofs.YtbpilhjomfkpaaaGreatDoor
open Go.RowKit
set_option linter.unusedVariables false
set_option linter.unusedSimpArgs false

/-- The comparing with a word fails within the text. -/
def miss : List UInt8 → List UInt8 → Bool
  | c :: p, x :: a => if c = x then miss p a else true
  | _, _ => false
def killed (p : List UInt8) : List UInt8 → Bool
  | [] => true
  | x :: a => miss p (x :: a) && killed p a
theorem miss_app : ∀ (p a b : List UInt8), miss p a = true → miss p (a ++ b) = true ∧ p.isPrefixOf (a ++ b) = false
  | [], a, b, h => by simp [miss] at h
  | c :: p, [], b, h => by simp [miss] at h
  | c :: p, x :: a, b, h => by
    simp only [miss] at h
    simp only [List.cons_append, miss, List.isPrefixOf]
    by_cases hx : c = x
    · rw [if_pos hx] at h ⊢
      obtain ⟨h1, h2⟩ := miss_app p a b h
      exact ⟨h1, by rw [h2, Bool.and_false]⟩
    · rw [if_neg hx]
      refine ⟨rfl, ?_⟩
      simp [hx]
theorem killed_app {p : List UInt8} : ∀ {a b : List UInt8}, killed p a = true → killed p b = true → killed p (a ++ b) = true
  | [], b, _, hb => hb
  | x :: a, b, ha, hb => by
    simp only [killed, Bool.and_eq_true] at ha
    simp only [List.cons_append, killed, Bool.and_eq_true]
    exact ⟨(miss_app p (x :: a) b ha.1).1, killed_app ha.2 hb⟩
theorem killed_no {c : UInt8} (r : List UInt8) : ∀ {a : List UInt8}, c ∉ a → killed (c :: r) a = true
  | [], _ => rfl
  | x :: a, h => by
    have hx : ¬ c = x := fun e => h (by simp [e])
    simp only [killed, miss, if_neg hx, Bool.true_and]
    exact killed_no r (fun m => h (by simp [m]))
theorem index_word (p b : List UInt8) (hp : p ≠ []) : ∀ (a : List UInt8), killed p a = true → Lib.index (a ++ (p ++ b)) p = a.length
  | [], _ => by
    cases p with
    | nil => exact absurd rfl hp
    | cons c r => simp [Lib.index]
  | x :: a, h => by
    simp only [killed, Bool.and_eq_true] at h
    have hi := index_word p b hp a h.2
    have hm := (miss_app p (x :: a) (p ++ b) h.1).2
    simp only [List.cons_append, Lib.index] at hm ⊢
    rw [if_neg (by rw [hm]; decide), hi, if_neg (by simp only [beq_iff_eq]; omega)]
    simp
theorem index_noword (p : List UInt8) (hp : p ≠ []) : ∀ (a : List UInt8), killed p a = true → Lib.index a p = -1
  | [], _ => by
    cases p with
    | nil => exact absurd rfl hp
    | cons c r => rfl
  | x :: a, h => by
    simp only [killed, Bool.and_eq_true] at h
    have hi := index_noword p hp a h.2
    have hm := (miss_app p (x :: a) [] h.1).2
    rw [List.append_nil] at hm
    simp only [Lib.index]
    rw [if_neg (by rw [hm]; decide), hi]
    rfl
/-- A text in pieces, with something between them. -/
def rend (f : Nat → List UInt8) : List (Nat × List UInt8) → List UInt8
  | [] => []
  | (k, p) :: r => f k ++ (p ++ rend f r)
def occ (j : Nat) : List (Nat × List UInt8) → Nat
  | [] => 0
  | (k, _) :: r => (if k = j then 1 else 0) + occ j r
theorem rend_all {p x : List UInt8} (hp0 : p ≠ []) {j : Nat} {f g : Nat → List UInt8} (hf : f j = p) (hg : g j = x) (hfg : ∀ k, k ≠ j → g k = f k) (hc : ∀ k, k ≠ j → killed p (f k) = true) :
    ∀ (ps : List (Nat × List UInt8)) (a : List UInt8), killed p a = true → (∀ q ∈ ps, killed p q.2 = true) → Lib.count (a ++ rend f ps) p = occ j ps ∧ Lib.replaceK p x (occ j ps) (a ++ rend f ps) = a ++ rend g ps
  | [], a, ha, _ => by
    simp only [rend, List.append_nil, occ]
    exact ⟨Lib.count_miss (index_noword p hp0 a ha), rfl⟩
  | (k, p1) :: ps, a, ha, hp => by
    have hpp := hp (k, p1) (by simp)
    have hps : ∀ q ∈ ps, killed p q.2 = true := fun q hq => hp q (by simp [hq])
    by_cases hk : k = j
    · subst hk
      obtain ⟨i1, i2⟩ := rend_all hp0 hf hg hfg hc ps p1 hpp hps
      simp only [rend, occ, if_true]
      rw [hf, hg, Nat.add_comm 1]
      have hi := index_word p (p1 ++ rend f ps) hp0 a ha
      have hd : (a ++ (p ++ (p1 ++ rend f ps))).drop (a.length + p.length) = p1 ++ rend f ps := by
        rw [List.drop_append, List.drop_of_length_le (by omega), List.nil_append, Nat.add_sub_cancel_left, List.drop_left]
      refine ⟨?_, ?_⟩
      · rw [Lib.count_hit hp0 hi, hd, i1, Nat.add_comm]
      · rw [Lib.replaceK_hit _ _ _ _ _ hi, hd, i2]
        simp
    · have e : a ++ rend f ((k, p1) :: ps) = (a ++ f k ++ p1) ++ rend f ps := by simp [rend]
      have e2 : a ++ rend g ((k, p1) :: ps) = (a ++ f k ++ p1) ++ rend g ps := by simp [rend, hfg k hk]
      rw [e, e2]
      simp only [occ, if_neg hk, Nat.zero_add]
      exact rend_all hp0 hf hg hfg hc ps (a ++ f k ++ p1) (killed_app (killed_app ha (hc k hk)) hpp) hps
theorem replace_rend {p x : List UInt8} (hp0 : p ≠ []) {j : Nat} {f g : Nat → List UInt8} (hf : f j = p) (hg : g j = x) (hfg : ∀ k, k ≠ j → g k = f k) (hc : ∀ k, k ≠ j → killed p (f k) = true) (hx : x ≠ p)
    (ps : List (Nat × List UInt8)) (a : List UInt8) (ha : killed p a = true) (hp : ∀ q ∈ ps, killed p q.2 = true) : Lib.replaceAll (a ++ rend f ps) p x = a ++ rend g ps := by
  obtain ⟨h1, h2⟩ := rend_all hp0 hf hg hfg hc ps a ha hp
  unfold Lib.replaceAll Lib.replace
  rw [if_neg (by simpa using fun e => hx e.symm)]
  have hn : Lib.replaceNum (a ++ rend f ps) p (-1) = occ j ps := by
    unfold Lib.replaceNum
    rw [if_pos (.inl (by decide)), h1]
  rw [hn, h2]
def wd : Nat → List UInt8
  | 0 => [83, 73, 90, 69]
  | 1 => [70, 73, 82, 83, 84]
  | 2 => [72, 79, 77, 69]
  | 3 => [79, 78, 87, 65, 82, 68]
  | 4 => [82, 79, 85, 78, 68]
  | 5 => [70, 82, 69, 69]
  | 6 => [85, 83, 69, 68]
  | 7 => [71, 79, 78, 69]
  | 8 => [88]
  | 9 => [89]
  | _ => []
/-- The first j words are filled. -/
def wf (v : Nat → Int) (j k : Nat) : List UInt8 := if k < j then Lib.itoa (v k) else wd k
def fillS (t : List UInt8) (v : Nat → Int) : Nat → List UInt8
  | 0 => t
  | j + 1 => Lib.replaceAll (fillS t v j) (wd j) (Lib.itoa (v j))
theorem itoa_cap (v : Int) (c : UInt8) (h : 65 ≤ c.toNat) : c ∉ Lib.itoa v := itoa_no v c (by omega) (by omega)
def clean (a : List UInt8) : Bool := (List.range 10).all fun j => killed (wd j) a
theorem fill_rend (v : Nat → Int) (ps : List (Nat × List UInt8)) (a : List UInt8) (hk : ∀ q ∈ ps, q.1 < 10) (ha : clean a = true) (hp : ∀ q ∈ ps, clean q.2 = true) : (∀ j, j ≤ 10 → fillS (a ++ rend wd ps) v j = a ++ rend (wf v j) ps) ∧ fillS (a ++ rend wd ps) v 10 = a ++ rend (fun k => Lib.itoa (v k)) ps := by
  have hext : ∀ (f g : Nat → List UInt8) (ps : List (Nat × List UInt8)), (∀ q ∈ ps, f q.1 = g q.1) → rend f ps = rend g ps := by
    intro f g ps
    induction ps with
    | nil => intro _; rfl
    | cons q ps ih =>
      intro h
      obtain ⟨k, p⟩ := q
      simp only [rend]
      rw [h (k, p) (by simp), ih (fun q hq => h q (by simp [hq]))]
  have hcl : ∀ (x : List UInt8) (j : Nat), clean x = true → j < 10 → killed (wd j) x = true := fun x j h hj => List.all_eq_true.1 h j (List.mem_range.2 hj)
  have h0 : a ++ rend wd ps = a ++ rend (wf v 0) ps := by rw [hext wd (wf v 0) ps (fun q _ => by simp [wf])]
  have step : ∀ (j : Nat) (c : UInt8) (r : List UInt8), j < 10 → wd j = c :: r → 65 ≤ c.toNat → (∀ k, j < k → killed (wd j) (wd k) = true) → Lib.replaceAll (a ++ rend (wf v j) ps) (wd j) (Lib.itoa (v j)) = a ++ rend (wf v (j + 1)) ps := by
    intro j c r hj hw hc hn
    refine replace_rend (j := j) (f := wf v j) (g := wf v (j + 1)) (by rw [hw]; simp) (by simp [wf]) (by simp [wf]) (fun k hk => ?_) (fun k hk => ?_) (fun e => ?_) ps a (hcl a j ha hj) (fun q hq => hcl q.2 j (hp q hq) hj)
    · unfold wf
      by_cases h : k < j
      · rw [if_pos h, if_pos (by omega)]
      · rw [if_neg h, if_neg (by omega)]
    · unfold wf
      split
      · rw [hw]; exact killed_no r (itoa_cap _ _ hc)
      · exact hn k (by omega)
    · exact itoa_cap (v j) c hc (by rw [e, hw]; simp)
  have hno : ∀ (j : Nat), (∀ k, k < 10 → j < k → killed (wd j) (wd k) = true) → ∀ k, j < k → killed (wd j) (wd k) = true := fun j h k hk => by
    by_cases h6 : k < 10
    · exact h k h6 hk
    · have : wd k = [] := by
        match k, h6 with
        | k + 10, _ => rfl
      rw [this]; rfl
  have e0 : fillS (a ++ rend wd ps) v 0 = a ++ rend (wf v 0) ps := h0
  have e1 : fillS (a ++ rend wd ps) v 1 = a ++ rend (wf v 1) ps := by
    show Lib.replaceAll (fillS (a ++ rend wd ps) v 0) (wd 0) (Lib.itoa (v 0)) = _
    rw [e0, step 0 83 [73, 90, 69] (by decide) rfl (by decide) (hno 0 (by decide))]
  have e2 : fillS (a ++ rend wd ps) v 2 = a ++ rend (wf v 2) ps := by
    show Lib.replaceAll (fillS (a ++ rend wd ps) v 1) (wd 1) (Lib.itoa (v 1)) = _
    rw [e1, step 1 70 [73, 82, 83, 84] (by decide) rfl (by decide) (hno 1 (by decide))]
  have e3 : fillS (a ++ rend wd ps) v 3 = a ++ rend (wf v 3) ps := by
    show Lib.replaceAll (fillS (a ++ rend wd ps) v 2) (wd 2) (Lib.itoa (v 2)) = _
    rw [e2, step 2 72 [79, 77, 69] (by decide) rfl (by decide) (hno 2 (by decide))]
  have e4 : fillS (a ++ rend wd ps) v 4 = a ++ rend (wf v 4) ps := by
    show Lib.replaceAll (fillS (a ++ rend wd ps) v 3) (wd 3) (Lib.itoa (v 3)) = _
    rw [e3, step 3 79 [78, 87, 65, 82, 68] (by decide) rfl (by decide) (hno 3 (by decide))]
  have e5 : fillS (a ++ rend wd ps) v 5 = a ++ rend (wf v 5) ps := by
    show Lib.replaceAll (fillS (a ++ rend wd ps) v 4) (wd 4) (Lib.itoa (v 4)) = _
    rw [e4, step 4 82 [79, 85, 78, 68] (by decide) rfl (by decide) (hno 4 (by decide))]
  have e6 : fillS (a ++ rend wd ps) v 6 = a ++ rend (wf v 6) ps := by
    show Lib.replaceAll (fillS (a ++ rend wd ps) v 5) (wd 5) (Lib.itoa (v 5)) = _
    rw [e5, step 5 70 [82, 69, 69] (by decide) rfl (by decide) (hno 5 (by decide))]
  have e7 : fillS (a ++ rend wd ps) v 7 = a ++ rend (wf v 7) ps := by
    show Lib.replaceAll (fillS (a ++ rend wd ps) v 6) (wd 6) (Lib.itoa (v 6)) = _
    rw [e6, step 6 85 [83, 69, 68] (by decide) rfl (by decide) (hno 6 (by decide))]
  have e8 : fillS (a ++ rend wd ps) v 8 = a ++ rend (wf v 8) ps := by
    show Lib.replaceAll (fillS (a ++ rend wd ps) v 7) (wd 7) (Lib.itoa (v 7)) = _
    rw [e7, step 7 71 [79, 78, 69] (by decide) rfl (by decide) (hno 7 (by decide))]
  have e9 : fillS (a ++ rend wd ps) v 9 = a ++ rend (wf v 9) ps := by
    show Lib.replaceAll (fillS (a ++ rend wd ps) v 8) (wd 8) (Lib.itoa (v 8)) = _
    rw [e8, step 8 88 [] (by decide) rfl (by decide) (hno 8 (by decide))]
  have e10 : fillS (a ++ rend wd ps) v 10 = a ++ rend (wf v 10) ps := by
    show Lib.replaceAll (fillS (a ++ rend wd ps) v 9) (wd 9) (Lib.itoa (v 9)) = _
    rw [e9, step 9 89 [] (by decide) rfl (by decide) (hno 9 (by decide))]
  refine ⟨fun j hj => ?_, ?_⟩
  · match j, hj with
    | 0, _ => exact e0
    | 1, _ => exact e1
    | 2, _ => exact e2
    | 3, _ => exact e3
    | 4, _ => exact e4
    | 5, _ => exact e5
    | 6, _ => exact e6
    | 7, _ => exact e7
    | 8, _ => exact e8
    | 9, _ => exact e9
    | 10, _ => exact e10
  · rw [e10]
    congr 1
    exact hext _ _ ps (fun q hq => by have := hk q hq; simp [wf, this])
def lens : List (Nat × List UInt8) → Nat
  | [] => 0
  | q :: r => q.2.length + lens r
theorem wd_len (j : Nat) : (wd j).length ≤ 6 := by
  match j with
  | 0 => decide
  | 1 => decide
  | 2 => decide
  | 3 => decide
  | 4 => decide
  | 5 => decide
  | 6 => decide
  | 7 => decide
  | 8 => decide
  | 9 => decide
  | k + 10 => exact Nat.zero_le _
/-- Numbers of 64 bits. -/
def Rng (v : Nat → Int) : Prop := ∀ j, -9223372036854775808 ≤ v j ∧ v j ≤ 9223372036854775807
theorem rend_len {v : Nat → Int} (hv : Rng v) (j : Nat) : ∀ ps, (rend (wf v j) ps).length ≤ 21 * ps.length + lens ps
  | [] => by simp [rend, lens]
  | (k, p) :: r => by
    have ih := rend_len hv j r
    have hw : (wf v j k).length ≤ 21 := by
      unfold wf
      split
      · obtain ⟨a, b⟩ := hv k
        have := Lib.itoa_length_le (v k) a b
        omega
      · have := wd_len k
        omega
    simp only [rend, lens, List.length_append, List.length_cons]
    omega
def pushL (v : Int) : List UInt8 := 9 :: 112 :: 117 :: 115 :: 104 :: 32 :: Lib.itoa v
theorem push_no (v : Int) : (10 : UInt8) ∉ pushL v := by
  have := itoa_no v 10 (by decide) (by decide)
  simp [pushL, this]
theorem push_len (v : Int) (h0 : -9223372036854775808 ≤ v) (h1 : v ≤ 9223372036854775807) : (pushL v).length ≤ 27 := by
  have := Lib.itoa_length_le v h0 h1
  simp only [pushL, List.length_cons]
  omega
theorem txt_le (k : Nat) : ∀ (ls : List (List UInt8)), (∀ l ∈ ls, l.length ≤ k) → (txt ls).length ≤ (k + 1) * ls.length
  | [], _ => by simp [txt]
  | l :: ls, h => by
    have h1 := txt_le k ls (fun x hx => h x (by simp [hx]))
    have h2 := h l (by simp)
    have e : (txt (l :: ls)).length = l.length + 1 + (txt ls).length := by simp [txt]; omega
    rw [e, List.length_cons, Nat.mul_add]
    omega
def plainB (l : List UInt8) : Bool := decide (8 < l.length) || l.all (fun b => decide (b.toNat < 128))
theorem plain_of {l : List UInt8} (h : plainB l = true) : Plain8 l := by
  intro h8 b hb
  unfold plainB at h
  rw [Bool.or_eq_true] at h
  rcases h with h | h
  · simp at h; omega
  · simpa using List.all_eq_true.1 h b hb
theorem plain_push (v : Int) : Plain8 (saidM (pushL v)) := by
  intro _ b hb
  unfold pushL at hb
  rw [push_said] at hb
  simp only [List.mem_cons] at hb
  rcases hb with rfl | rfl | rfl | rfl | rfl | hb
  · decide
  · decide
  · decide
  · decide
  · decide
  · have := itoa_mem v b hb
    omega
theorem plain_txt {ls : List (List UInt8)} (h10 : ∀ l ∈ ls, (10 : UInt8) ∉ l) (h : ∀ l ∈ ls, Plain8 (saidM l)) : PlainT (bs (txt ls)) := by
  intro x hx
  rw [lines_txt ls h10] at hx
  obtain ⟨l, hl, rfl⟩ := List.mem_map.1 hx
  rcases List.mem_append.1 hl with hl | hl
  · exact h l hl
  · rw [List.mem_singleton.1 hl]
    exact plain_of (by kernel_rfl)

def putT : List UInt8 := [10, 9, 112, 117, 115, 104, 32, 72, 79, 77, 69, 10, 9, 115, 101, 116, 32, 48, 10, 9, 112, 117, 115, 104, 32, 48, 10, 9, 115, 101, 116, 32, 49, 10, 108, 111, 111, 107, 58, 10, 9, 103, 101, 116, 32, 48, 10, 9, 108, 111, 97, 100, 10, 9, 100, 117, 112, 10, 9, 115, 101, 116, 32, 50, 10, 9, 112, 117, 115, 104, 32, 85, 83, 69, 68, 10, 9, 115, 97, 109, 101, 10, 9, 122, 101, 114, 111, 32, 117, 110, 117, 115, 101, 100, 10, 9, 103, 101, 116, 32, 48, 10, 9, 112, 117, 115, 104, 32, 49, 10, 9, 97, 100, 100, 10, 9, 108, 111, 97, 100, 10, 9, 112, 117, 115, 104, 32, 88, 10, 9, 115, 97, 109, 101, 10, 9, 122, 101, 114, 111, 32, 110, 101, 120, 116, 10, 9, 106, 117, 109, 112, 32, 102, 111, 117, 110, 100, 10, 117, 110, 117, 115, 101, 100, 58, 10, 9, 103, 101, 116, 32, 49, 10, 9, 122, 101, 114, 111, 32, 102, 105, 114, 115, 116, 10, 9, 106, 117, 109, 112, 32, 107, 101, 112, 116, 10, 102, 105, 114, 115, 116, 58, 10, 9, 103, 101, 116, 32, 48, 10, 9, 115, 101, 116, 32, 49, 10, 107, 101, 112, 116, 58, 10, 9, 103, 101, 116, 32, 50, 10, 9, 112, 117, 115, 104, 32, 70, 82, 69, 69, 10, 9, 115, 97, 109, 101, 10, 9, 122, 101, 114, 111, 32, 110, 101, 120, 116, 10, 9, 106, 117, 109, 112, 32, 110, 111, 110, 101, 10, 110, 101, 120, 116, 58, 10, 9, 103, 101, 116, 32, 48, 10, 9, 112, 117, 115, 104, 32, 79, 78, 87, 65, 82, 68, 10, 9, 97, 100, 100, 10, 9, 112, 117, 115, 104, 32, 82, 79, 85, 78, 68, 10, 9, 109, 111, 100, 10, 9, 112, 117, 115, 104, 32, 70, 73, 82, 83, 84, 10, 9, 97, 100, 100, 10, 9, 100, 117, 112, 10, 9, 115, 101, 116, 32, 48, 10, 9, 112, 117, 115, 104, 32, 72, 79, 77, 69, 10, 9, 115, 97, 109, 101, 10, 9, 122, 101, 114, 111, 32, 108, 111, 111, 107, 10, 110, 111, 110, 101, 58, 10, 10, 9, 103, 101, 116, 32, 49, 10, 9, 122, 101, 114, 111, 32, 102, 117, 108, 108, 10, 9, 103, 101, 116, 32, 49, 10, 9, 112, 117, 115, 104, 32, 85, 83, 69, 68, 10, 9, 115, 116, 111, 114, 101, 10, 9, 103, 101, 116, 32, 49, 10, 9, 112, 117, 115, 104, 32, 49, 10, 9, 97, 100, 100, 10, 9, 112, 117, 115, 104, 32, 88, 10, 9, 115, 116, 111, 114, 101, 10, 9, 103, 101, 116, 32, 49, 10, 9, 112, 117, 115, 104, 32, 50, 10, 9, 97, 100, 100, 10, 9, 112, 117, 115, 104, 32, 89, 10, 9, 115, 116, 111, 114, 101, 10, 9, 112, 117, 115, 104, 32, 83, 73, 90, 69, 10, 9, 112, 117, 115, 104, 32, 83, 73, 90, 69, 10, 9, 108, 111, 97, 100, 10, 9, 112, 117, 115, 104, 32, 49, 10, 9, 97, 100, 100, 10, 9, 115, 116, 111, 114, 101, 10, 9, 112, 117, 115, 104, 32, 49, 10, 9, 106, 117, 109, 112, 32, 111, 117, 116, 10, 102, 117, 108, 108, 58, 10, 9, 112, 117, 115, 104, 32, 50, 10, 9, 106, 117, 109, 112, 32, 111, 117, 116, 10, 102, 111, 117, 110, 100, 58, 10, 9, 103, 101, 116, 32, 48, 10, 9, 112, 117, 115, 104, 32, 50, 10, 9, 97, 100, 100, 10, 9, 112, 117, 115, 104, 32, 89, 10, 9, 115, 116, 111, 114, 101, 10, 9, 112, 117, 115, 104, 32, 48, 10, 111, 117, 116, 58, 10, 9, 116, 101, 108, 108, 10]
def putC (v : Nat → Int) : List Ins := [⟨16, 0⟩, ⟨1, v 2⟩, ⟨6, 0⟩, ⟨1, 0⟩, ⟨6, 1⟩, ⟨5, 0⟩, ⟨17, 0⟩, ⟨3, 0⟩, ⟨6, 2⟩, ⟨1, v 6⟩, ⟨12, 0⟩, ⟨15, 20⟩, ⟨5, 0⟩, ⟨1, 1⟩, ⟨7, 0⟩, ⟨17, 0⟩, ⟨1, v 8⟩, ⟨12, 0⟩, ⟨15, 30⟩, ⟨14, 67⟩, ⟨5, 1⟩, ⟨15, 23⟩, ⟨14, 25⟩, ⟨5, 0⟩, ⟨6, 1⟩, ⟨5, 2⟩, ⟨1, v 5⟩, ⟨12, 0⟩, ⟨15, 30⟩, ⟨14, 42⟩, ⟨5, 0⟩, ⟨1, v 3⟩, ⟨7, 0⟩, ⟨1, v 4⟩, ⟨10, 0⟩, ⟨1, v 1⟩, ⟨7, 0⟩, ⟨3, 0⟩, ⟨6, 0⟩, ⟨1, v 2⟩, ⟨12, 0⟩, ⟨15, 5⟩, ⟨5, 1⟩, ⟨15, 65⟩, ⟨5, 1⟩, ⟨1, v 6⟩, ⟨18, 0⟩, ⟨5, 1⟩, ⟨1, 1⟩, ⟨7, 0⟩, ⟨1, v 8⟩, ⟨18, 0⟩, ⟨5, 1⟩, ⟨1, 2⟩, ⟨7, 0⟩, ⟨1, v 9⟩, ⟨18, 0⟩, ⟨1, v 0⟩, ⟨1, v 0⟩, ⟨17, 0⟩, ⟨1, 1⟩, ⟨7, 0⟩, ⟨18, 0⟩, ⟨1, 1⟩, ⟨14, 73⟩, ⟨1, 2⟩, ⟨14, 73⟩, ⟨5, 0⟩, ⟨1, 2⟩, ⟨7, 0⟩, ⟨1, v 9⟩, ⟨18, 0⟩, ⟨1, 0⟩, ⟨21, 0⟩, ⟨19, 0⟩]
def putP : List (Nat × List UInt8) := [(2, [10, 9, 115, 101, 116, 32, 48, 10, 9, 112, 117, 115, 104, 32, 48, 10, 9, 115, 101, 116, 32, 49, 10, 108, 111, 111, 107, 58, 10, 9, 103, 101, 116, 32, 48, 10, 9, 108, 111, 97, 100, 10, 9, 100, 117, 112, 10, 9, 115, 101, 116, 32, 50, 10, 9, 112, 117, 115, 104, 32]), (6, [10, 9, 115, 97, 109, 101, 10, 9, 122, 101, 114, 111, 32, 117, 110, 117, 115, 101, 100, 10, 9, 103, 101, 116, 32, 48, 10, 9, 112, 117, 115, 104, 32, 49, 10, 9, 97, 100, 100, 10, 9, 108, 111, 97, 100, 10, 9, 112, 117, 115, 104, 32]), (8, [10, 9, 115, 97, 109, 101, 10, 9, 122, 101, 114, 111, 32, 110, 101, 120, 116, 10, 9, 106, 117, 109, 112, 32, 102, 111, 117, 110, 100, 10, 117, 110, 117, 115, 101, 100, 58, 10, 9, 103, 101, 116, 32, 49, 10, 9, 122, 101, 114, 111, 32, 102, 105, 114, 115, 116, 10, 9, 106, 117, 109, 112, 32, 107, 101, 112, 116, 10, 102, 105, 114, 115, 116, 58, 10, 9, 103, 101, 116, 32, 48, 10, 9, 115, 101, 116, 32, 49, 10, 107, 101, 112, 116, 58, 10, 9, 103, 101, 116, 32, 50, 10, 9, 112, 117, 115, 104, 32]), (5, [10, 9, 115, 97, 109, 101, 10, 9, 122, 101, 114, 111, 32, 110, 101, 120, 116, 10, 9, 106, 117, 109, 112, 32, 110, 111, 110, 101, 10, 110, 101, 120, 116, 58, 10, 9, 103, 101, 116, 32, 48, 10, 9, 112, 117, 115, 104, 32]), (3, [10, 9, 97, 100, 100, 10, 9, 112, 117, 115, 104, 32]), (4, [10, 9, 109, 111, 100, 10, 9, 112, 117, 115, 104, 32]), (1, [10, 9, 97, 100, 100, 10, 9, 100, 117, 112, 10, 9, 115, 101, 116, 32, 48, 10, 9, 112, 117, 115, 104, 32]), (2, [10, 9, 115, 97, 109, 101, 10, 9, 122, 101, 114, 111, 32, 108, 111, 111, 107, 10, 110, 111, 110, 101, 58, 10, 10, 9, 103, 101, 116, 32, 49, 10, 9, 122, 101, 114, 111, 32, 102, 117, 108, 108, 10, 9, 103, 101, 116, 32, 49, 10, 9, 112, 117, 115, 104, 32]), (6, [10, 9, 115, 116, 111, 114, 101, 10, 9, 103, 101, 116, 32, 49, 10, 9, 112, 117, 115, 104, 32, 49, 10, 9, 97, 100, 100, 10, 9, 112, 117, 115, 104, 32]), (8, [10, 9, 115, 116, 111, 114, 101, 10, 9, 103, 101, 116, 32, 49, 10, 9, 112, 117, 115, 104, 32, 50, 10, 9, 97, 100, 100, 10, 9, 112, 117, 115, 104, 32]), (9, [10, 9, 115, 116, 111, 114, 101, 10, 9, 112, 117, 115, 104, 32]), (0, [10, 9, 112, 117, 115, 104, 32]), (0, [10, 9, 108, 111, 97, 100, 10, 9, 112, 117, 115, 104, 32, 49, 10, 9, 97, 100, 100, 10, 9, 115, 116, 111, 114, 101, 10, 9, 112, 117, 115, 104, 32, 49, 10, 9, 106, 117, 109, 112, 32, 111, 117, 116, 10, 102, 117, 108, 108, 58, 10, 9, 112, 117, 115, 104, 32, 50, 10, 9, 106, 117, 109, 112, 32, 111, 117, 116, 10, 102, 111, 117, 110, 100, 58, 10, 9, 103, 101, 116, 32, 48, 10, 9, 112, 117, 115, 104, 32, 50, 10, 9, 97, 100, 100, 10, 9, 112, 117, 115, 104, 32]), (9, [10, 9, 115, 116, 111, 114, 101, 10, 9, 112, 117, 115, 104, 32, 48, 10, 111, 117, 116, 58, 10, 9, 116, 101, 108, 108, 10])]
theorem putT_pieces : putT = [10, 9, 112, 117, 115, 104, 32] ++ rend wd putP := by kernel_rfl
theorem put_filled (v : Nat → Int) : fillS putT v 10 = [10, 9, 112, 117, 115, 104, 32] ++ rend (fun k => Lib.itoa (v k)) putP := by
  rw [putT_pieces]
  exact (fill_rend v putP [10, 9, 112, 117, 115, 104, 32] (by decide) (by decide) (by decide)).2
theorem put_steps (v : Nat → Int) : ∀ j, j ≤ 10 → fillS putT v j = [10, 9, 112, 117, 115, 104, 32] ++ rend (wf v j) putP := by
  rw [putT_pieces]
  exact (fill_rend v putP [10, 9, 112, 117, 115, 104, 32] (by decide) (by decide) (by decide)).1
set_option maxRecDepth 100000 in
theorem put_short {v : Nat → Int} (hv : Rng v) (j : Nat) (hj : j ≤ 10) : (fillS putT v j).length ≤ 100000 := by
  rw [put_steps v j hj, List.length_append]
  have := rend_len hv j putP
  exact Nat.le_trans (Nat.add_le_add_left this _) (by decide)
def putLs (v : Nat → Int) : List (List UInt8) := [[98, 101, 103, 105, 110], [], pushL (v 2), [9, 115, 101, 116, 32, 48], [9, 112, 117, 115, 104, 32, 48], [9, 115, 101, 116, 32, 49], [108, 111, 111, 107, 58], [9, 103, 101, 116, 32, 48], [9, 108, 111, 97, 100], [9, 100, 117, 112], [9, 115, 101, 116, 32, 50], pushL (v 6), [9, 115, 97, 109, 101], [9, 122, 101, 114, 111, 32, 117, 110, 117, 115, 101, 100], [9, 103, 101, 116, 32, 48], [9, 112, 117, 115, 104, 32, 49], [9, 97, 100, 100], [9, 108, 111, 97, 100], pushL (v 8), [9, 115, 97, 109, 101], [9, 122, 101, 114, 111, 32, 110, 101, 120, 116], [9, 106, 117, 109, 112, 32, 102, 111, 117, 110, 100], [117, 110, 117, 115, 101, 100, 58], [9, 103, 101, 116, 32, 49], [9, 122, 101, 114, 111, 32, 102, 105, 114, 115, 116], [9, 106, 117, 109, 112, 32, 107, 101, 112, 116], [102, 105, 114, 115, 116, 58], [9, 103, 101, 116, 32, 48], [9, 115, 101, 116, 32, 49], [107, 101, 112, 116, 58], [9, 103, 101, 116, 32, 50], pushL (v 5), [9, 115, 97, 109, 101], [9, 122, 101, 114, 111, 32, 110, 101, 120, 116], [9, 106, 117, 109, 112, 32, 110, 111, 110, 101], [110, 101, 120, 116, 58], [9, 103, 101, 116, 32, 48], pushL (v 3), [9, 97, 100, 100], pushL (v 4), [9, 109, 111, 100], pushL (v 1), [9, 97, 100, 100], [9, 100, 117, 112], [9, 115, 101, 116, 32, 48], pushL (v 2), [9, 115, 97, 109, 101], [9, 122, 101, 114, 111, 32, 108, 111, 111, 107], [110, 111, 110, 101, 58], [], [9, 103, 101, 116, 32, 49], [9, 122, 101, 114, 111, 32, 102, 117, 108, 108], [9, 103, 101, 116, 32, 49], pushL (v 6), [9, 115, 116, 111, 114, 101], [9, 103, 101, 116, 32, 49], [9, 112, 117, 115, 104, 32, 49], [9, 97, 100, 100], pushL (v 8), [9, 115, 116, 111, 114, 101], [9, 103, 101, 116, 32, 49], [9, 112, 117, 115, 104, 32, 50], [9, 97, 100, 100], pushL (v 9), [9, 115, 116, 111, 114, 101], pushL (v 0), pushL (v 0), [9, 108, 111, 97, 100], [9, 112, 117, 115, 104, 32, 49], [9, 97, 100, 100], [9, 115, 116, 111, 114, 101], [9, 112, 117, 115, 104, 32, 49], [9, 106, 117, 109, 112, 32, 111, 117, 116], [102, 117, 108, 108, 58], [9, 112, 117, 115, 104, 32, 50], [9, 106, 117, 109, 112, 32, 111, 117, 116], [102, 111, 117, 110, 100, 58], [9, 103, 101, 116, 32, 48], [9, 112, 117, 115, 104, 32, 50], [9, 97, 100, 100], pushL (v 9), [9, 115, 116, 111, 114, 101], [9, 112, 117, 115, 104, 32, 48], [111, 117, 116, 58], [9, 116, 101, 108, 108], [99, 111, 109, 109, 105, 116]]
def putWs (v : Nat → Int) : List Lw := [.ins ⟨16, 0⟩ [], .no, .ins ⟨1, v 2⟩ [], .ins ⟨6, 0⟩ [], .ins ⟨1, 0⟩ [], .ins ⟨6, 1⟩ [], .lab [108, 111, 111, 107], .ins ⟨5, 0⟩ [], .ins ⟨17, 0⟩ [], .ins ⟨3, 0⟩ [], .ins ⟨6, 2⟩ [], .ins ⟨1, v 6⟩ [], .ins ⟨12, 0⟩ [], .ins ⟨15, 0⟩ [117, 110, 117, 115, 101, 100], .ins ⟨5, 0⟩ [], .ins ⟨1, 1⟩ [], .ins ⟨7, 0⟩ [], .ins ⟨17, 0⟩ [], .ins ⟨1, v 8⟩ [], .ins ⟨12, 0⟩ [], .ins ⟨15, 0⟩ [110, 101, 120, 116], .ins ⟨14, 0⟩ [102, 111, 117, 110, 100], .lab [117, 110, 117, 115, 101, 100], .ins ⟨5, 1⟩ [], .ins ⟨15, 0⟩ [102, 105, 114, 115, 116], .ins ⟨14, 0⟩ [107, 101, 112, 116], .lab [102, 105, 114, 115, 116], .ins ⟨5, 0⟩ [], .ins ⟨6, 1⟩ [], .lab [107, 101, 112, 116], .ins ⟨5, 2⟩ [], .ins ⟨1, v 5⟩ [], .ins ⟨12, 0⟩ [], .ins ⟨15, 0⟩ [110, 101, 120, 116], .ins ⟨14, 0⟩ [110, 111, 110, 101], .lab [110, 101, 120, 116], .ins ⟨5, 0⟩ [], .ins ⟨1, v 3⟩ [], .ins ⟨7, 0⟩ [], .ins ⟨1, v 4⟩ [], .ins ⟨10, 0⟩ [], .ins ⟨1, v 1⟩ [], .ins ⟨7, 0⟩ [], .ins ⟨3, 0⟩ [], .ins ⟨6, 0⟩ [], .ins ⟨1, v 2⟩ [], .ins ⟨12, 0⟩ [], .ins ⟨15, 0⟩ [108, 111, 111, 107], .lab [110, 111, 110, 101], .no, .ins ⟨5, 1⟩ [], .ins ⟨15, 0⟩ [102, 117, 108, 108], .ins ⟨5, 1⟩ [], .ins ⟨1, v 6⟩ [], .ins ⟨18, 0⟩ [], .ins ⟨5, 1⟩ [], .ins ⟨1, 1⟩ [], .ins ⟨7, 0⟩ [], .ins ⟨1, v 8⟩ [], .ins ⟨18, 0⟩ [], .ins ⟨5, 1⟩ [], .ins ⟨1, 2⟩ [], .ins ⟨7, 0⟩ [], .ins ⟨1, v 9⟩ [], .ins ⟨18, 0⟩ [], .ins ⟨1, v 0⟩ [], .ins ⟨1, v 0⟩ [], .ins ⟨17, 0⟩ [], .ins ⟨1, 1⟩ [], .ins ⟨7, 0⟩ [], .ins ⟨18, 0⟩ [], .ins ⟨1, 1⟩ [], .ins ⟨14, 0⟩ [111, 117, 116], .lab [102, 117, 108, 108], .ins ⟨1, 2⟩ [], .ins ⟨14, 0⟩ [111, 117, 116], .lab [102, 111, 117, 110, 100], .ins ⟨5, 0⟩ [], .ins ⟨1, 2⟩ [], .ins ⟨7, 0⟩ [], .ins ⟨1, v 9⟩ [], .ins ⟨18, 0⟩ [], .ins ⟨1, 0⟩ [], .lab [111, 117, 116], .ins ⟨21, 0⟩ [], .ins ⟨19, 0⟩ []]
set_option maxRecDepth 100000 in
theorem put_ws {v : Nat → Int} (hv : Rng v) : Lws (putLs v) (putWs v) :=
  ⟨⟨by decide, by kernel_rfl, fun i => by kernel_rfl⟩,
   (show saidM [] = [] by kernel_rfl),
   push_line _ (hv 2).1 (hv 2).2,
   ⟨by decide, by kernel_rfl, fun i => by kernel_rfl⟩,
   ⟨by decide, by kernel_rfl, fun i => by kernel_rfl⟩,
   ⟨by decide, by kernel_rfl, fun i => by kernel_rfl⟩,
   ⟨by decide, by kernel_rfl, by kernel_rfl, by kernel_rfl⟩,
   ⟨by decide, by kernel_rfl, fun i => by kernel_rfl⟩,
   ⟨by decide, by kernel_rfl, fun i => by kernel_rfl⟩,
   ⟨by decide, by kernel_rfl, fun i => by kernel_rfl⟩,
   ⟨by decide, by kernel_rfl, fun i => by kernel_rfl⟩,
   push_line _ (hv 6).1 (hv 6).2,
   ⟨by decide, by kernel_rfl, fun i => by kernel_rfl⟩,
   ⟨by decide, by kernel_rfl, fun i => by kernel_rfl⟩,
   ⟨by decide, by kernel_rfl, fun i => by kernel_rfl⟩,
   ⟨by decide, by kernel_rfl, fun i => by kernel_rfl⟩,
   ⟨by decide, by kernel_rfl, fun i => by kernel_rfl⟩,
   ⟨by decide, by kernel_rfl, fun i => by kernel_rfl⟩,
   push_line _ (hv 8).1 (hv 8).2,
   ⟨by decide, by kernel_rfl, fun i => by kernel_rfl⟩,
   ⟨by decide, by kernel_rfl, fun i => by kernel_rfl⟩,
   ⟨by decide, by kernel_rfl, fun i => by kernel_rfl⟩,
   ⟨by decide, by kernel_rfl, by kernel_rfl, by kernel_rfl⟩,
   ⟨by decide, by kernel_rfl, fun i => by kernel_rfl⟩,
   ⟨by decide, by kernel_rfl, fun i => by kernel_rfl⟩,
   ⟨by decide, by kernel_rfl, fun i => by kernel_rfl⟩,
   ⟨by decide, by kernel_rfl, by kernel_rfl, by kernel_rfl⟩,
   ⟨by decide, by kernel_rfl, fun i => by kernel_rfl⟩,
   ⟨by decide, by kernel_rfl, fun i => by kernel_rfl⟩,
   ⟨by decide, by kernel_rfl, by kernel_rfl, by kernel_rfl⟩,
   ⟨by decide, by kernel_rfl, fun i => by kernel_rfl⟩,
   push_line _ (hv 5).1 (hv 5).2,
   ⟨by decide, by kernel_rfl, fun i => by kernel_rfl⟩,
   ⟨by decide, by kernel_rfl, fun i => by kernel_rfl⟩,
   ⟨by decide, by kernel_rfl, fun i => by kernel_rfl⟩,
   ⟨by decide, by kernel_rfl, by kernel_rfl, by kernel_rfl⟩,
   ⟨by decide, by kernel_rfl, fun i => by kernel_rfl⟩,
   push_line _ (hv 3).1 (hv 3).2,
   ⟨by decide, by kernel_rfl, fun i => by kernel_rfl⟩,
   push_line _ (hv 4).1 (hv 4).2,
   ⟨by decide, by kernel_rfl, fun i => by kernel_rfl⟩,
   push_line _ (hv 1).1 (hv 1).2,
   ⟨by decide, by kernel_rfl, fun i => by kernel_rfl⟩,
   ⟨by decide, by kernel_rfl, fun i => by kernel_rfl⟩,
   ⟨by decide, by kernel_rfl, fun i => by kernel_rfl⟩,
   push_line _ (hv 2).1 (hv 2).2,
   ⟨by decide, by kernel_rfl, fun i => by kernel_rfl⟩,
   ⟨by decide, by kernel_rfl, fun i => by kernel_rfl⟩,
   ⟨by decide, by kernel_rfl, by kernel_rfl, by kernel_rfl⟩,
   (show saidM [] = [] by kernel_rfl),
   ⟨by decide, by kernel_rfl, fun i => by kernel_rfl⟩,
   ⟨by decide, by kernel_rfl, fun i => by kernel_rfl⟩,
   ⟨by decide, by kernel_rfl, fun i => by kernel_rfl⟩,
   push_line _ (hv 6).1 (hv 6).2,
   ⟨by decide, by kernel_rfl, fun i => by kernel_rfl⟩,
   ⟨by decide, by kernel_rfl, fun i => by kernel_rfl⟩,
   ⟨by decide, by kernel_rfl, fun i => by kernel_rfl⟩,
   ⟨by decide, by kernel_rfl, fun i => by kernel_rfl⟩,
   push_line _ (hv 8).1 (hv 8).2,
   ⟨by decide, by kernel_rfl, fun i => by kernel_rfl⟩,
   ⟨by decide, by kernel_rfl, fun i => by kernel_rfl⟩,
   ⟨by decide, by kernel_rfl, fun i => by kernel_rfl⟩,
   ⟨by decide, by kernel_rfl, fun i => by kernel_rfl⟩,
   push_line _ (hv 9).1 (hv 9).2,
   ⟨by decide, by kernel_rfl, fun i => by kernel_rfl⟩,
   push_line _ (hv 0).1 (hv 0).2,
   push_line _ (hv 0).1 (hv 0).2,
   ⟨by decide, by kernel_rfl, fun i => by kernel_rfl⟩,
   ⟨by decide, by kernel_rfl, fun i => by kernel_rfl⟩,
   ⟨by decide, by kernel_rfl, fun i => by kernel_rfl⟩,
   ⟨by decide, by kernel_rfl, fun i => by kernel_rfl⟩,
   ⟨by decide, by kernel_rfl, fun i => by kernel_rfl⟩,
   ⟨by decide, by kernel_rfl, fun i => by kernel_rfl⟩,
   ⟨by decide, by kernel_rfl, by kernel_rfl, by kernel_rfl⟩,
   ⟨by decide, by kernel_rfl, fun i => by kernel_rfl⟩,
   ⟨by decide, by kernel_rfl, fun i => by kernel_rfl⟩,
   ⟨by decide, by kernel_rfl, by kernel_rfl, by kernel_rfl⟩,
   ⟨by decide, by kernel_rfl, fun i => by kernel_rfl⟩,
   ⟨by decide, by kernel_rfl, fun i => by kernel_rfl⟩,
   ⟨by decide, by kernel_rfl, fun i => by kernel_rfl⟩,
   push_line _ (hv 9).1 (hv 9).2,
   ⟨by decide, by kernel_rfl, fun i => by kernel_rfl⟩,
   ⟨by decide, by kernel_rfl, fun i => by kernel_rfl⟩,
   ⟨by decide, by kernel_rfl, by kernel_rfl, by kernel_rfl⟩,
   ⟨by decide, by kernel_rfl, fun i => by kernel_rfl⟩,
   ⟨by decide, by kernel_rfl, fun i => by kernel_rfl⟩, trivial⟩
set_option maxRecDepth 100000 in
theorem put_no (v : Nat → Int) : ∀ l ∈ putLs v, (10 : UInt8) ∉ l := by
  intro l hl
  simp only [putLs, List.mem_cons, List.not_mem_nil, or_false] at hl
  rcases hl with rfl | rfl | rfl | rfl | rfl | rfl | rfl | rfl | rfl | rfl | rfl | rfl | rfl | rfl | rfl | rfl | rfl | rfl | rfl | rfl | rfl | rfl | rfl | rfl | rfl | rfl | rfl | rfl | rfl | rfl | rfl | rfl | rfl | rfl | rfl | rfl | rfl | rfl | rfl | rfl | rfl | rfl | rfl | rfl | rfl | rfl | rfl | rfl | rfl | rfl | rfl | rfl | rfl | rfl | rfl | rfl | rfl | rfl | rfl | rfl | rfl | rfl | rfl | rfl | rfl | rfl | rfl | rfl | rfl | rfl | rfl | rfl | rfl | rfl | rfl | rfl | rfl | rfl | rfl | rfl | rfl | rfl | rfl | rfl | rfl | rfl
  · decide
  · decide
  · exact push_no _
  · decide
  · decide
  · decide
  · decide
  · decide
  · decide
  · decide
  · decide
  · exact push_no _
  · decide
  · decide
  · decide
  · decide
  · decide
  · decide
  · exact push_no _
  · decide
  · decide
  · decide
  · decide
  · decide
  · decide
  · decide
  · decide
  · decide
  · decide
  · decide
  · decide
  · exact push_no _
  · decide
  · decide
  · decide
  · decide
  · decide
  · exact push_no _
  · decide
  · exact push_no _
  · decide
  · exact push_no _
  · decide
  · decide
  · decide
  · exact push_no _
  · decide
  · decide
  · decide
  · decide
  · decide
  · decide
  · decide
  · exact push_no _
  · decide
  · decide
  · decide
  · decide
  · exact push_no _
  · decide
  · decide
  · decide
  · decide
  · exact push_no _
  · decide
  · exact push_no _
  · exact push_no _
  · decide
  · decide
  · decide
  · decide
  · decide
  · decide
  · decide
  · decide
  · decide
  · decide
  · decide
  · decide
  · decide
  · exact push_no _
  · decide
  · decide
  · decide
  · decide
  · decide
set_option maxRecDepth 100000 in
set_option maxHeartbeats 2000000 in
theorem put_txt (v : Nat → Int) : [98, 101, 103, 105, 110, 10] ++ fillS putT v 10 ++ [99, 111, 109, 109, 105, 116, 10] = txt (putLs v) := by
  rw [put_filled]
  simp [txt, putLs, pushL, rend, putP]
set_option maxRecDepth 100000 in
theorem put_len {v : Nat → Int} (hv : Rng v) : (txt (putLs v)).length ≤ 3000 := by
  refine Nat.le_trans (txt_le 27 _ ?_) (by decide : (27 + 1) * 86 ≤ 3000)
  intro l hl
  simp only [putLs, List.mem_cons, List.not_mem_nil, or_false] at hl
  rcases hl with rfl | rfl | rfl | rfl | rfl | rfl | rfl | rfl | rfl | rfl | rfl | rfl | rfl | rfl | rfl | rfl | rfl | rfl | rfl | rfl | rfl | rfl | rfl | rfl | rfl | rfl | rfl | rfl | rfl | rfl | rfl | rfl | rfl | rfl | rfl | rfl | rfl | rfl | rfl | rfl | rfl | rfl | rfl | rfl | rfl | rfl | rfl | rfl | rfl | rfl | rfl | rfl | rfl | rfl | rfl | rfl | rfl | rfl | rfl | rfl | rfl | rfl | rfl | rfl | rfl | rfl | rfl | rfl | rfl | rfl | rfl | rfl | rfl | rfl | rfl | rfl | rfl | rfl | rfl | rfl | rfl | rfl | rfl | rfl | rfl | rfl
  · decide
  · decide
  · exact push_len _ (hv 2).1 (hv 2).2
  · decide
  · decide
  · decide
  · decide
  · decide
  · decide
  · decide
  · decide
  · exact push_len _ (hv 6).1 (hv 6).2
  · decide
  · decide
  · decide
  · decide
  · decide
  · decide
  · exact push_len _ (hv 8).1 (hv 8).2
  · decide
  · decide
  · decide
  · decide
  · decide
  · decide
  · decide
  · decide
  · decide
  · decide
  · decide
  · decide
  · exact push_len _ (hv 5).1 (hv 5).2
  · decide
  · decide
  · decide
  · decide
  · decide
  · exact push_len _ (hv 3).1 (hv 3).2
  · decide
  · exact push_len _ (hv 4).1 (hv 4).2
  · decide
  · exact push_len _ (hv 1).1 (hv 1).2
  · decide
  · decide
  · decide
  · exact push_len _ (hv 2).1 (hv 2).2
  · decide
  · decide
  · decide
  · decide
  · decide
  · decide
  · decide
  · exact push_len _ (hv 6).1 (hv 6).2
  · decide
  · decide
  · decide
  · decide
  · exact push_len _ (hv 8).1 (hv 8).2
  · decide
  · decide
  · decide
  · decide
  · exact push_len _ (hv 9).1 (hv 9).2
  · decide
  · exact push_len _ (hv 0).1 (hv 0).2
  · exact push_len _ (hv 0).1 (hv 0).2
  · decide
  · decide
  · decide
  · decide
  · decide
  · decide
  · decide
  · decide
  · decide
  · decide
  · decide
  · decide
  · decide
  · exact push_len _ (hv 9).1 (hv 9).2
  · decide
  · decide
  · decide
  · decide
  · decide
set_option maxRecDepth 100000 in
theorem put_plain (v : Nat → Int) : ∀ l ∈ putLs v, Plain8 (saidM l) := by
  intro l hl
  simp only [putLs, List.mem_cons, List.not_mem_nil, or_false] at hl
  rcases hl with rfl | rfl | rfl | rfl | rfl | rfl | rfl | rfl | rfl | rfl | rfl | rfl | rfl | rfl | rfl | rfl | rfl | rfl | rfl | rfl | rfl | rfl | rfl | rfl | rfl | rfl | rfl | rfl | rfl | rfl | rfl | rfl | rfl | rfl | rfl | rfl | rfl | rfl | rfl | rfl | rfl | rfl | rfl | rfl | rfl | rfl | rfl | rfl | rfl | rfl | rfl | rfl | rfl | rfl | rfl | rfl | rfl | rfl | rfl | rfl | rfl | rfl | rfl | rfl | rfl | rfl | rfl | rfl | rfl | rfl | rfl | rfl | rfl | rfl | rfl | rfl | rfl | rfl | rfl | rfl | rfl | rfl | rfl | rfl | rfl | rfl
  · exact plain_of (by kernel_rfl)
  · exact plain_of (by kernel_rfl)
  · exact plain_push _
  · exact plain_of (by kernel_rfl)
  · exact plain_of (by kernel_rfl)
  · exact plain_of (by kernel_rfl)
  · exact plain_of (by kernel_rfl)
  · exact plain_of (by kernel_rfl)
  · exact plain_of (by kernel_rfl)
  · exact plain_of (by kernel_rfl)
  · exact plain_of (by kernel_rfl)
  · exact plain_push _
  · exact plain_of (by kernel_rfl)
  · exact plain_of (by kernel_rfl)
  · exact plain_of (by kernel_rfl)
  · exact plain_of (by kernel_rfl)
  · exact plain_of (by kernel_rfl)
  · exact plain_of (by kernel_rfl)
  · exact plain_push _
  · exact plain_of (by kernel_rfl)
  · exact plain_of (by kernel_rfl)
  · exact plain_of (by kernel_rfl)
  · exact plain_of (by kernel_rfl)
  · exact plain_of (by kernel_rfl)
  · exact plain_of (by kernel_rfl)
  · exact plain_of (by kernel_rfl)
  · exact plain_of (by kernel_rfl)
  · exact plain_of (by kernel_rfl)
  · exact plain_of (by kernel_rfl)
  · exact plain_of (by kernel_rfl)
  · exact plain_of (by kernel_rfl)
  · exact plain_push _
  · exact plain_of (by kernel_rfl)
  · exact plain_of (by kernel_rfl)
  · exact plain_of (by kernel_rfl)
  · exact plain_of (by kernel_rfl)
  · exact plain_of (by kernel_rfl)
  · exact plain_push _
  · exact plain_of (by kernel_rfl)
  · exact plain_push _
  · exact plain_of (by kernel_rfl)
  · exact plain_push _
  · exact plain_of (by kernel_rfl)
  · exact plain_of (by kernel_rfl)
  · exact plain_of (by kernel_rfl)
  · exact plain_push _
  · exact plain_of (by kernel_rfl)
  · exact plain_of (by kernel_rfl)
  · exact plain_of (by kernel_rfl)
  · exact plain_of (by kernel_rfl)
  · exact plain_of (by kernel_rfl)
  · exact plain_of (by kernel_rfl)
  · exact plain_of (by kernel_rfl)
  · exact plain_push _
  · exact plain_of (by kernel_rfl)
  · exact plain_of (by kernel_rfl)
  · exact plain_of (by kernel_rfl)
  · exact plain_of (by kernel_rfl)
  · exact plain_push _
  · exact plain_of (by kernel_rfl)
  · exact plain_of (by kernel_rfl)
  · exact plain_of (by kernel_rfl)
  · exact plain_of (by kernel_rfl)
  · exact plain_push _
  · exact plain_of (by kernel_rfl)
  · exact plain_push _
  · exact plain_push _
  · exact plain_of (by kernel_rfl)
  · exact plain_of (by kernel_rfl)
  · exact plain_of (by kernel_rfl)
  · exact plain_of (by kernel_rfl)
  · exact plain_of (by kernel_rfl)
  · exact plain_of (by kernel_rfl)
  · exact plain_of (by kernel_rfl)
  · exact plain_of (by kernel_rfl)
  · exact plain_of (by kernel_rfl)
  · exact plain_of (by kernel_rfl)
  · exact plain_of (by kernel_rfl)
  · exact plain_of (by kernel_rfl)
  · exact plain_of (by kernel_rfl)
  · exact plain_push _
  · exact plain_of (by kernel_rfl)
  · exact plain_of (by kernel_rfl)
  · exact plain_of (by kernel_rfl)
  · exact plain_of (by kernel_rfl)
  · exact plain_of (by kernel_rfl)
set_option maxRecDepth 100000 in
theorem put_parse {v : Nat → Int} (hv : Rng v) : parseM (bs (txt (putLs v))) = .ok (putC v) :=
  parse_txt (p := (runL 0 (putWs v) ⟨[], []⟩).getD ⟨[], []⟩) (put_no v) (Nat.le_trans (put_len hv) (by decide)) (put_ws hv) (by kernel_rfl) (by kernel_rfl) (by simp [putC])
def gttT : List UInt8 := [10, 9, 112, 117, 115, 104, 32, 72, 79, 77, 69, 10, 9, 115, 101, 116, 32, 48, 10, 9, 112, 117, 115, 104, 32, 48, 10, 9, 115, 101, 116, 32, 49, 10, 108, 111, 111, 107, 58, 10, 9, 103, 101, 116, 32, 48, 10, 9, 108, 111, 97, 100, 10, 9, 100, 117, 112, 10, 9, 115, 101, 116, 32, 50, 10, 9, 112, 117, 115, 104, 32, 85, 83, 69, 68, 10, 9, 115, 97, 109, 101, 10, 9, 122, 101, 114, 111, 32, 117, 110, 117, 115, 101, 100, 10, 9, 103, 101, 116, 32, 48, 10, 9, 112, 117, 115, 104, 32, 49, 10, 9, 97, 100, 100, 10, 9, 108, 111, 97, 100, 10, 9, 112, 117, 115, 104, 32, 88, 10, 9, 115, 97, 109, 101, 10, 9, 122, 101, 114, 111, 32, 110, 101, 120, 116, 10, 9, 106, 117, 109, 112, 32, 102, 111, 117, 110, 100, 10, 117, 110, 117, 115, 101, 100, 58, 10, 9, 103, 101, 116, 32, 49, 10, 9, 122, 101, 114, 111, 32, 102, 105, 114, 115, 116, 10, 9, 106, 117, 109, 112, 32, 107, 101, 112, 116, 10, 102, 105, 114, 115, 116, 58, 10, 9, 103, 101, 116, 32, 48, 10, 9, 115, 101, 116, 32, 49, 10, 107, 101, 112, 116, 58, 10, 9, 103, 101, 116, 32, 50, 10, 9, 112, 117, 115, 104, 32, 70, 82, 69, 69, 10, 9, 115, 97, 109, 101, 10, 9, 122, 101, 114, 111, 32, 110, 101, 120, 116, 10, 9, 106, 117, 109, 112, 32, 110, 111, 110, 101, 10, 110, 101, 120, 116, 58, 10, 9, 103, 101, 116, 32, 48, 10, 9, 112, 117, 115, 104, 32, 79, 78, 87, 65, 82, 68, 10, 9, 97, 100, 100, 10, 9, 112, 117, 115, 104, 32, 82, 79, 85, 78, 68, 10, 9, 109, 111, 100, 10, 9, 112, 117, 115, 104, 32, 70, 73, 82, 83, 84, 10, 9, 97, 100, 100, 10, 9, 100, 117, 112, 10, 9, 115, 101, 116, 32, 48, 10, 9, 112, 117, 115, 104, 32, 72, 79, 77, 69, 10, 9, 115, 97, 109, 101, 10, 9, 122, 101, 114, 111, 32, 108, 111, 111, 107, 10, 110, 111, 110, 101, 58, 10, 10, 9, 112, 117, 115, 104, 32, 48, 10, 9, 106, 117, 109, 112, 32, 111, 117, 116, 10, 102, 111, 117, 110, 100, 58, 10, 10, 9, 112, 117, 115, 104, 32, 49, 10, 9, 116, 101, 108, 108, 10, 9, 103, 101, 116, 32, 48, 10, 9, 112, 117, 115, 104, 32, 50, 10, 9, 97, 100, 100, 10, 9, 108, 111, 97, 100, 10, 111, 117, 116, 58, 10, 9, 116, 101, 108, 108, 10]
def gttC (v : Nat → Int) : List Ins := [⟨16, 0⟩, ⟨1, v 2⟩, ⟨6, 0⟩, ⟨1, 0⟩, ⟨6, 1⟩, ⟨5, 0⟩, ⟨17, 0⟩, ⟨3, 0⟩, ⟨6, 2⟩, ⟨1, v 6⟩, ⟨12, 0⟩, ⟨15, 20⟩, ⟨5, 0⟩, ⟨1, 1⟩, ⟨7, 0⟩, ⟨17, 0⟩, ⟨1, v 8⟩, ⟨12, 0⟩, ⟨15, 30⟩, ⟨14, 44⟩, ⟨5, 1⟩, ⟨15, 23⟩, ⟨14, 25⟩, ⟨5, 0⟩, ⟨6, 1⟩, ⟨5, 2⟩, ⟨1, v 5⟩, ⟨12, 0⟩, ⟨15, 30⟩, ⟨14, 42⟩, ⟨5, 0⟩, ⟨1, v 3⟩, ⟨7, 0⟩, ⟨1, v 4⟩, ⟨10, 0⟩, ⟨1, v 1⟩, ⟨7, 0⟩, ⟨3, 0⟩, ⟨6, 0⟩, ⟨1, v 2⟩, ⟨12, 0⟩, ⟨15, 5⟩, ⟨1, 0⟩, ⟨14, 50⟩, ⟨1, 1⟩, ⟨21, 0⟩, ⟨5, 0⟩, ⟨1, 2⟩, ⟨7, 0⟩, ⟨17, 0⟩, ⟨21, 0⟩, ⟨19, 0⟩]
def gttP : List (Nat × List UInt8) := [(2, [10, 9, 115, 101, 116, 32, 48, 10, 9, 112, 117, 115, 104, 32, 48, 10, 9, 115, 101, 116, 32, 49, 10, 108, 111, 111, 107, 58, 10, 9, 103, 101, 116, 32, 48, 10, 9, 108, 111, 97, 100, 10, 9, 100, 117, 112, 10, 9, 115, 101, 116, 32, 50, 10, 9, 112, 117, 115, 104, 32]), (6, [10, 9, 115, 97, 109, 101, 10, 9, 122, 101, 114, 111, 32, 117, 110, 117, 115, 101, 100, 10, 9, 103, 101, 116, 32, 48, 10, 9, 112, 117, 115, 104, 32, 49, 10, 9, 97, 100, 100, 10, 9, 108, 111, 97, 100, 10, 9, 112, 117, 115, 104, 32]), (8, [10, 9, 115, 97, 109, 101, 10, 9, 122, 101, 114, 111, 32, 110, 101, 120, 116, 10, 9, 106, 117, 109, 112, 32, 102, 111, 117, 110, 100, 10, 117, 110, 117, 115, 101, 100, 58, 10, 9, 103, 101, 116, 32, 49, 10, 9, 122, 101, 114, 111, 32, 102, 105, 114, 115, 116, 10, 9, 106, 117, 109, 112, 32, 107, 101, 112, 116, 10, 102, 105, 114, 115, 116, 58, 10, 9, 103, 101, 116, 32, 48, 10, 9, 115, 101, 116, 32, 49, 10, 107, 101, 112, 116, 58, 10, 9, 103, 101, 116, 32, 50, 10, 9, 112, 117, 115, 104, 32]), (5, [10, 9, 115, 97, 109, 101, 10, 9, 122, 101, 114, 111, 32, 110, 101, 120, 116, 10, 9, 106, 117, 109, 112, 32, 110, 111, 110, 101, 10, 110, 101, 120, 116, 58, 10, 9, 103, 101, 116, 32, 48, 10, 9, 112, 117, 115, 104, 32]), (3, [10, 9, 97, 100, 100, 10, 9, 112, 117, 115, 104, 32]), (4, [10, 9, 109, 111, 100, 10, 9, 112, 117, 115, 104, 32]), (1, [10, 9, 97, 100, 100, 10, 9, 100, 117, 112, 10, 9, 115, 101, 116, 32, 48, 10, 9, 112, 117, 115, 104, 32]), (2, [10, 9, 115, 97, 109, 101, 10, 9, 122, 101, 114, 111, 32, 108, 111, 111, 107, 10, 110, 111, 110, 101, 58, 10, 10, 9, 112, 117, 115, 104, 32, 48, 10, 9, 106, 117, 109, 112, 32, 111, 117, 116, 10, 102, 111, 117, 110, 100, 58, 10, 10, 9, 112, 117, 115, 104, 32, 49, 10, 9, 116, 101, 108, 108, 10, 9, 103, 101, 116, 32, 48, 10, 9, 112, 117, 115, 104, 32, 50, 10, 9, 97, 100, 100, 10, 9, 108, 111, 97, 100, 10, 111, 117, 116, 58, 10, 9, 116, 101, 108, 108, 10])]
theorem gttT_pieces : gttT = [10, 9, 112, 117, 115, 104, 32] ++ rend wd gttP := by kernel_rfl
theorem gtt_filled (v : Nat → Int) : fillS gttT v 10 = [10, 9, 112, 117, 115, 104, 32] ++ rend (fun k => Lib.itoa (v k)) gttP := by
  rw [gttT_pieces]
  exact (fill_rend v gttP [10, 9, 112, 117, 115, 104, 32] (by decide) (by decide) (by decide)).2
theorem gtt_steps (v : Nat → Int) : ∀ j, j ≤ 10 → fillS gttT v j = [10, 9, 112, 117, 115, 104, 32] ++ rend (wf v j) gttP := by
  rw [gttT_pieces]
  exact (fill_rend v gttP [10, 9, 112, 117, 115, 104, 32] (by decide) (by decide) (by decide)).1
set_option maxRecDepth 100000 in
theorem gtt_short {v : Nat → Int} (hv : Rng v) (j : Nat) (hj : j ≤ 10) : (fillS gttT v j).length ≤ 100000 := by
  rw [gtt_steps v j hj, List.length_append]
  have := rend_len hv j gttP
  exact Nat.le_trans (Nat.add_le_add_left this _) (by decide)
def gttLs (v : Nat → Int) : List (List UInt8) := [[98, 101, 103, 105, 110], [], pushL (v 2), [9, 115, 101, 116, 32, 48], [9, 112, 117, 115, 104, 32, 48], [9, 115, 101, 116, 32, 49], [108, 111, 111, 107, 58], [9, 103, 101, 116, 32, 48], [9, 108, 111, 97, 100], [9, 100, 117, 112], [9, 115, 101, 116, 32, 50], pushL (v 6), [9, 115, 97, 109, 101], [9, 122, 101, 114, 111, 32, 117, 110, 117, 115, 101, 100], [9, 103, 101, 116, 32, 48], [9, 112, 117, 115, 104, 32, 49], [9, 97, 100, 100], [9, 108, 111, 97, 100], pushL (v 8), [9, 115, 97, 109, 101], [9, 122, 101, 114, 111, 32, 110, 101, 120, 116], [9, 106, 117, 109, 112, 32, 102, 111, 117, 110, 100], [117, 110, 117, 115, 101, 100, 58], [9, 103, 101, 116, 32, 49], [9, 122, 101, 114, 111, 32, 102, 105, 114, 115, 116], [9, 106, 117, 109, 112, 32, 107, 101, 112, 116], [102, 105, 114, 115, 116, 58], [9, 103, 101, 116, 32, 48], [9, 115, 101, 116, 32, 49], [107, 101, 112, 116, 58], [9, 103, 101, 116, 32, 50], pushL (v 5), [9, 115, 97, 109, 101], [9, 122, 101, 114, 111, 32, 110, 101, 120, 116], [9, 106, 117, 109, 112, 32, 110, 111, 110, 101], [110, 101, 120, 116, 58], [9, 103, 101, 116, 32, 48], pushL (v 3), [9, 97, 100, 100], pushL (v 4), [9, 109, 111, 100], pushL (v 1), [9, 97, 100, 100], [9, 100, 117, 112], [9, 115, 101, 116, 32, 48], pushL (v 2), [9, 115, 97, 109, 101], [9, 122, 101, 114, 111, 32, 108, 111, 111, 107], [110, 111, 110, 101, 58], [], [9, 112, 117, 115, 104, 32, 48], [9, 106, 117, 109, 112, 32, 111, 117, 116], [102, 111, 117, 110, 100, 58], [], [9, 112, 117, 115, 104, 32, 49], [9, 116, 101, 108, 108], [9, 103, 101, 116, 32, 48], [9, 112, 117, 115, 104, 32, 50], [9, 97, 100, 100], [9, 108, 111, 97, 100], [111, 117, 116, 58], [9, 116, 101, 108, 108], [99, 111, 109, 109, 105, 116]]
def gttWs (v : Nat → Int) : List Lw := [.ins ⟨16, 0⟩ [], .no, .ins ⟨1, v 2⟩ [], .ins ⟨6, 0⟩ [], .ins ⟨1, 0⟩ [], .ins ⟨6, 1⟩ [], .lab [108, 111, 111, 107], .ins ⟨5, 0⟩ [], .ins ⟨17, 0⟩ [], .ins ⟨3, 0⟩ [], .ins ⟨6, 2⟩ [], .ins ⟨1, v 6⟩ [], .ins ⟨12, 0⟩ [], .ins ⟨15, 0⟩ [117, 110, 117, 115, 101, 100], .ins ⟨5, 0⟩ [], .ins ⟨1, 1⟩ [], .ins ⟨7, 0⟩ [], .ins ⟨17, 0⟩ [], .ins ⟨1, v 8⟩ [], .ins ⟨12, 0⟩ [], .ins ⟨15, 0⟩ [110, 101, 120, 116], .ins ⟨14, 0⟩ [102, 111, 117, 110, 100], .lab [117, 110, 117, 115, 101, 100], .ins ⟨5, 1⟩ [], .ins ⟨15, 0⟩ [102, 105, 114, 115, 116], .ins ⟨14, 0⟩ [107, 101, 112, 116], .lab [102, 105, 114, 115, 116], .ins ⟨5, 0⟩ [], .ins ⟨6, 1⟩ [], .lab [107, 101, 112, 116], .ins ⟨5, 2⟩ [], .ins ⟨1, v 5⟩ [], .ins ⟨12, 0⟩ [], .ins ⟨15, 0⟩ [110, 101, 120, 116], .ins ⟨14, 0⟩ [110, 111, 110, 101], .lab [110, 101, 120, 116], .ins ⟨5, 0⟩ [], .ins ⟨1, v 3⟩ [], .ins ⟨7, 0⟩ [], .ins ⟨1, v 4⟩ [], .ins ⟨10, 0⟩ [], .ins ⟨1, v 1⟩ [], .ins ⟨7, 0⟩ [], .ins ⟨3, 0⟩ [], .ins ⟨6, 0⟩ [], .ins ⟨1, v 2⟩ [], .ins ⟨12, 0⟩ [], .ins ⟨15, 0⟩ [108, 111, 111, 107], .lab [110, 111, 110, 101], .no, .ins ⟨1, 0⟩ [], .ins ⟨14, 0⟩ [111, 117, 116], .lab [102, 111, 117, 110, 100], .no, .ins ⟨1, 1⟩ [], .ins ⟨21, 0⟩ [], .ins ⟨5, 0⟩ [], .ins ⟨1, 2⟩ [], .ins ⟨7, 0⟩ [], .ins ⟨17, 0⟩ [], .lab [111, 117, 116], .ins ⟨21, 0⟩ [], .ins ⟨19, 0⟩ []]
set_option maxRecDepth 100000 in
theorem gtt_ws {v : Nat → Int} (hv : Rng v) : Lws (gttLs v) (gttWs v) :=
  ⟨⟨by decide, by kernel_rfl, fun i => by kernel_rfl⟩,
   (show saidM [] = [] by kernel_rfl),
   push_line _ (hv 2).1 (hv 2).2,
   ⟨by decide, by kernel_rfl, fun i => by kernel_rfl⟩,
   ⟨by decide, by kernel_rfl, fun i => by kernel_rfl⟩,
   ⟨by decide, by kernel_rfl, fun i => by kernel_rfl⟩,
   ⟨by decide, by kernel_rfl, by kernel_rfl, by kernel_rfl⟩,
   ⟨by decide, by kernel_rfl, fun i => by kernel_rfl⟩,
   ⟨by decide, by kernel_rfl, fun i => by kernel_rfl⟩,
   ⟨by decide, by kernel_rfl, fun i => by kernel_rfl⟩,
   ⟨by decide, by kernel_rfl, fun i => by kernel_rfl⟩,
   push_line _ (hv 6).1 (hv 6).2,
   ⟨by decide, by kernel_rfl, fun i => by kernel_rfl⟩,
   ⟨by decide, by kernel_rfl, fun i => by kernel_rfl⟩,
   ⟨by decide, by kernel_rfl, fun i => by kernel_rfl⟩,
   ⟨by decide, by kernel_rfl, fun i => by kernel_rfl⟩,
   ⟨by decide, by kernel_rfl, fun i => by kernel_rfl⟩,
   ⟨by decide, by kernel_rfl, fun i => by kernel_rfl⟩,
   push_line _ (hv 8).1 (hv 8).2,
   ⟨by decide, by kernel_rfl, fun i => by kernel_rfl⟩,
   ⟨by decide, by kernel_rfl, fun i => by kernel_rfl⟩,
   ⟨by decide, by kernel_rfl, fun i => by kernel_rfl⟩,
   ⟨by decide, by kernel_rfl, by kernel_rfl, by kernel_rfl⟩,
   ⟨by decide, by kernel_rfl, fun i => by kernel_rfl⟩,
   ⟨by decide, by kernel_rfl, fun i => by kernel_rfl⟩,
   ⟨by decide, by kernel_rfl, fun i => by kernel_rfl⟩,
   ⟨by decide, by kernel_rfl, by kernel_rfl, by kernel_rfl⟩,
   ⟨by decide, by kernel_rfl, fun i => by kernel_rfl⟩,
   ⟨by decide, by kernel_rfl, fun i => by kernel_rfl⟩,
   ⟨by decide, by kernel_rfl, by kernel_rfl, by kernel_rfl⟩,
   ⟨by decide, by kernel_rfl, fun i => by kernel_rfl⟩,
   push_line _ (hv 5).1 (hv 5).2,
   ⟨by decide, by kernel_rfl, fun i => by kernel_rfl⟩,
   ⟨by decide, by kernel_rfl, fun i => by kernel_rfl⟩,
   ⟨by decide, by kernel_rfl, fun i => by kernel_rfl⟩,
   ⟨by decide, by kernel_rfl, by kernel_rfl, by kernel_rfl⟩,
   ⟨by decide, by kernel_rfl, fun i => by kernel_rfl⟩,
   push_line _ (hv 3).1 (hv 3).2,
   ⟨by decide, by kernel_rfl, fun i => by kernel_rfl⟩,
   push_line _ (hv 4).1 (hv 4).2,
   ⟨by decide, by kernel_rfl, fun i => by kernel_rfl⟩,
   push_line _ (hv 1).1 (hv 1).2,
   ⟨by decide, by kernel_rfl, fun i => by kernel_rfl⟩,
   ⟨by decide, by kernel_rfl, fun i => by kernel_rfl⟩,
   ⟨by decide, by kernel_rfl, fun i => by kernel_rfl⟩,
   push_line _ (hv 2).1 (hv 2).2,
   ⟨by decide, by kernel_rfl, fun i => by kernel_rfl⟩,
   ⟨by decide, by kernel_rfl, fun i => by kernel_rfl⟩,
   ⟨by decide, by kernel_rfl, by kernel_rfl, by kernel_rfl⟩,
   (show saidM [] = [] by kernel_rfl),
   ⟨by decide, by kernel_rfl, fun i => by kernel_rfl⟩,
   ⟨by decide, by kernel_rfl, fun i => by kernel_rfl⟩,
   ⟨by decide, by kernel_rfl, by kernel_rfl, by kernel_rfl⟩,
   (show saidM [] = [] by kernel_rfl),
   ⟨by decide, by kernel_rfl, fun i => by kernel_rfl⟩,
   ⟨by decide, by kernel_rfl, fun i => by kernel_rfl⟩,
   ⟨by decide, by kernel_rfl, fun i => by kernel_rfl⟩,
   ⟨by decide, by kernel_rfl, fun i => by kernel_rfl⟩,
   ⟨by decide, by kernel_rfl, fun i => by kernel_rfl⟩,
   ⟨by decide, by kernel_rfl, fun i => by kernel_rfl⟩,
   ⟨by decide, by kernel_rfl, by kernel_rfl, by kernel_rfl⟩,
   ⟨by decide, by kernel_rfl, fun i => by kernel_rfl⟩,
   ⟨by decide, by kernel_rfl, fun i => by kernel_rfl⟩, trivial⟩
set_option maxRecDepth 100000 in
theorem gtt_no (v : Nat → Int) : ∀ l ∈ gttLs v, (10 : UInt8) ∉ l := by
  intro l hl
  simp only [gttLs, List.mem_cons, List.not_mem_nil, or_false] at hl
  rcases hl with rfl | rfl | rfl | rfl | rfl | rfl | rfl | rfl | rfl | rfl | rfl | rfl | rfl | rfl | rfl | rfl | rfl | rfl | rfl | rfl | rfl | rfl | rfl | rfl | rfl | rfl | rfl | rfl | rfl | rfl | rfl | rfl | rfl | rfl | rfl | rfl | rfl | rfl | rfl | rfl | rfl | rfl | rfl | rfl | rfl | rfl | rfl | rfl | rfl | rfl | rfl | rfl | rfl | rfl | rfl | rfl | rfl | rfl | rfl | rfl | rfl | rfl | rfl
  · decide
  · decide
  · exact push_no _
  · decide
  · decide
  · decide
  · decide
  · decide
  · decide
  · decide
  · decide
  · exact push_no _
  · decide
  · decide
  · decide
  · decide
  · decide
  · decide
  · exact push_no _
  · decide
  · decide
  · decide
  · decide
  · decide
  · decide
  · decide
  · decide
  · decide
  · decide
  · decide
  · decide
  · exact push_no _
  · decide
  · decide
  · decide
  · decide
  · decide
  · exact push_no _
  · decide
  · exact push_no _
  · decide
  · exact push_no _
  · decide
  · decide
  · decide
  · exact push_no _
  · decide
  · decide
  · decide
  · decide
  · decide
  · decide
  · decide
  · decide
  · decide
  · decide
  · decide
  · decide
  · decide
  · decide
  · decide
  · decide
  · decide
set_option maxRecDepth 100000 in
set_option maxHeartbeats 2000000 in
theorem gtt_txt (v : Nat → Int) : [98, 101, 103, 105, 110, 10] ++ fillS gttT v 10 ++ [99, 111, 109, 109, 105, 116, 10] = txt (gttLs v) := by
  rw [gtt_filled]
  simp [txt, gttLs, pushL, rend, gttP]
set_option maxRecDepth 100000 in
theorem gtt_len {v : Nat → Int} (hv : Rng v) : (txt (gttLs v)).length ≤ 3000 := by
  refine Nat.le_trans (txt_le 27 _ ?_) (by decide : (27 + 1) * 63 ≤ 3000)
  intro l hl
  simp only [gttLs, List.mem_cons, List.not_mem_nil, or_false] at hl
  rcases hl with rfl | rfl | rfl | rfl | rfl | rfl | rfl | rfl | rfl | rfl | rfl | rfl | rfl | rfl | rfl | rfl | rfl | rfl | rfl | rfl | rfl | rfl | rfl | rfl | rfl | rfl | rfl | rfl | rfl | rfl | rfl | rfl | rfl | rfl | rfl | rfl | rfl | rfl | rfl | rfl | rfl | rfl | rfl | rfl | rfl | rfl | rfl | rfl | rfl | rfl | rfl | rfl | rfl | rfl | rfl | rfl | rfl | rfl | rfl | rfl | rfl | rfl | rfl
  · decide
  · decide
  · exact push_len _ (hv 2).1 (hv 2).2
  · decide
  · decide
  · decide
  · decide
  · decide
  · decide
  · decide
  · decide
  · exact push_len _ (hv 6).1 (hv 6).2
  · decide
  · decide
  · decide
  · decide
  · decide
  · decide
  · exact push_len _ (hv 8).1 (hv 8).2
  · decide
  · decide
  · decide
  · decide
  · decide
  · decide
  · decide
  · decide
  · decide
  · decide
  · decide
  · decide
  · exact push_len _ (hv 5).1 (hv 5).2
  · decide
  · decide
  · decide
  · decide
  · decide
  · exact push_len _ (hv 3).1 (hv 3).2
  · decide
  · exact push_len _ (hv 4).1 (hv 4).2
  · decide
  · exact push_len _ (hv 1).1 (hv 1).2
  · decide
  · decide
  · decide
  · exact push_len _ (hv 2).1 (hv 2).2
  · decide
  · decide
  · decide
  · decide
  · decide
  · decide
  · decide
  · decide
  · decide
  · decide
  · decide
  · decide
  · decide
  · decide
  · decide
  · decide
  · decide
set_option maxRecDepth 100000 in
theorem gtt_plain (v : Nat → Int) : ∀ l ∈ gttLs v, Plain8 (saidM l) := by
  intro l hl
  simp only [gttLs, List.mem_cons, List.not_mem_nil, or_false] at hl
  rcases hl with rfl | rfl | rfl | rfl | rfl | rfl | rfl | rfl | rfl | rfl | rfl | rfl | rfl | rfl | rfl | rfl | rfl | rfl | rfl | rfl | rfl | rfl | rfl | rfl | rfl | rfl | rfl | rfl | rfl | rfl | rfl | rfl | rfl | rfl | rfl | rfl | rfl | rfl | rfl | rfl | rfl | rfl | rfl | rfl | rfl | rfl | rfl | rfl | rfl | rfl | rfl | rfl | rfl | rfl | rfl | rfl | rfl | rfl | rfl | rfl | rfl | rfl | rfl
  · exact plain_of (by kernel_rfl)
  · exact plain_of (by kernel_rfl)
  · exact plain_push _
  · exact plain_of (by kernel_rfl)
  · exact plain_of (by kernel_rfl)
  · exact plain_of (by kernel_rfl)
  · exact plain_of (by kernel_rfl)
  · exact plain_of (by kernel_rfl)
  · exact plain_of (by kernel_rfl)
  · exact plain_of (by kernel_rfl)
  · exact plain_of (by kernel_rfl)
  · exact plain_push _
  · exact plain_of (by kernel_rfl)
  · exact plain_of (by kernel_rfl)
  · exact plain_of (by kernel_rfl)
  · exact plain_of (by kernel_rfl)
  · exact plain_of (by kernel_rfl)
  · exact plain_of (by kernel_rfl)
  · exact plain_push _
  · exact plain_of (by kernel_rfl)
  · exact plain_of (by kernel_rfl)
  · exact plain_of (by kernel_rfl)
  · exact plain_of (by kernel_rfl)
  · exact plain_of (by kernel_rfl)
  · exact plain_of (by kernel_rfl)
  · exact plain_of (by kernel_rfl)
  · exact plain_of (by kernel_rfl)
  · exact plain_of (by kernel_rfl)
  · exact plain_of (by kernel_rfl)
  · exact plain_of (by kernel_rfl)
  · exact plain_of (by kernel_rfl)
  · exact plain_push _
  · exact plain_of (by kernel_rfl)
  · exact plain_of (by kernel_rfl)
  · exact plain_of (by kernel_rfl)
  · exact plain_of (by kernel_rfl)
  · exact plain_of (by kernel_rfl)
  · exact plain_push _
  · exact plain_of (by kernel_rfl)
  · exact plain_push _
  · exact plain_of (by kernel_rfl)
  · exact plain_push _
  · exact plain_of (by kernel_rfl)
  · exact plain_of (by kernel_rfl)
  · exact plain_of (by kernel_rfl)
  · exact plain_push _
  · exact plain_of (by kernel_rfl)
  · exact plain_of (by kernel_rfl)
  · exact plain_of (by kernel_rfl)
  · exact plain_of (by kernel_rfl)
  · exact plain_of (by kernel_rfl)
  · exact plain_of (by kernel_rfl)
  · exact plain_of (by kernel_rfl)
  · exact plain_of (by kernel_rfl)
  · exact plain_of (by kernel_rfl)
  · exact plain_of (by kernel_rfl)
  · exact plain_of (by kernel_rfl)
  · exact plain_of (by kernel_rfl)
  · exact plain_of (by kernel_rfl)
  · exact plain_of (by kernel_rfl)
  · exact plain_of (by kernel_rfl)
  · exact plain_of (by kernel_rfl)
  · exact plain_of (by kernel_rfl)
set_option maxRecDepth 100000 in
theorem gtt_parse {v : Nat → Int} (hv : Rng v) : parseM (bs (txt (gttLs v))) = .ok (gttC v) :=
  parse_txt (p := (runL 0 (gttWs v) ⟨[], []⟩).getD ⟨[], []⟩) (gtt_no v) (Nat.le_trans (gtt_len hv) (by decide)) (gtt_ws hv) (by kernel_rfl) (by kernel_rfl) (by simp [gttC])
def drpT : List UInt8 := [10, 9, 112, 117, 115, 104, 32, 72, 79, 77, 69, 10, 9, 115, 101, 116, 32, 48, 10, 9, 112, 117, 115, 104, 32, 48, 10, 9, 115, 101, 116, 32, 49, 10, 108, 111, 111, 107, 58, 10, 9, 103, 101, 116, 32, 48, 10, 9, 108, 111, 97, 100, 10, 9, 100, 117, 112, 10, 9, 115, 101, 116, 32, 50, 10, 9, 112, 117, 115, 104, 32, 85, 83, 69, 68, 10, 9, 115, 97, 109, 101, 10, 9, 122, 101, 114, 111, 32, 117, 110, 117, 115, 101, 100, 10, 9, 103, 101, 116, 32, 48, 10, 9, 112, 117, 115, 104, 32, 49, 10, 9, 97, 100, 100, 10, 9, 108, 111, 97, 100, 10, 9, 112, 117, 115, 104, 32, 88, 10, 9, 115, 97, 109, 101, 10, 9, 122, 101, 114, 111, 32, 110, 101, 120, 116, 10, 9, 106, 117, 109, 112, 32, 102, 111, 117, 110, 100, 10, 117, 110, 117, 115, 101, 100, 58, 10, 9, 103, 101, 116, 32, 49, 10, 9, 122, 101, 114, 111, 32, 102, 105, 114, 115, 116, 10, 9, 106, 117, 109, 112, 32, 107, 101, 112, 116, 10, 102, 105, 114, 115, 116, 58, 10, 9, 103, 101, 116, 32, 48, 10, 9, 115, 101, 116, 32, 49, 10, 107, 101, 112, 116, 58, 10, 9, 103, 101, 116, 32, 50, 10, 9, 112, 117, 115, 104, 32, 70, 82, 69, 69, 10, 9, 115, 97, 109, 101, 10, 9, 122, 101, 114, 111, 32, 110, 101, 120, 116, 10, 9, 106, 117, 109, 112, 32, 110, 111, 110, 101, 10, 110, 101, 120, 116, 58, 10, 9, 103, 101, 116, 32, 48, 10, 9, 112, 117, 115, 104, 32, 79, 78, 87, 65, 82, 68, 10, 9, 97, 100, 100, 10, 9, 112, 117, 115, 104, 32, 82, 79, 85, 78, 68, 10, 9, 109, 111, 100, 10, 9, 112, 117, 115, 104, 32, 70, 73, 82, 83, 84, 10, 9, 97, 100, 100, 10, 9, 100, 117, 112, 10, 9, 115, 101, 116, 32, 48, 10, 9, 112, 117, 115, 104, 32, 72, 79, 77, 69, 10, 9, 115, 97, 109, 101, 10, 9, 122, 101, 114, 111, 32, 108, 111, 111, 107, 10, 110, 111, 110, 101, 58, 10, 10, 9, 112, 117, 115, 104, 32, 48, 10, 9, 106, 117, 109, 112, 32, 111, 117, 116, 10, 102, 111, 117, 110, 100, 58, 10, 10, 9, 103, 101, 116, 32, 48, 10, 9, 112, 117, 115, 104, 32, 71, 79, 78, 69, 10, 9, 115, 116, 111, 114, 101, 10, 9, 112, 117, 115, 104, 32, 83, 73, 90, 69, 10, 9, 112, 117, 115, 104, 32, 83, 73, 90, 69, 10, 9, 108, 111, 97, 100, 10, 9, 112, 117, 115, 104, 32, 49, 10, 9, 115, 117, 98, 10, 9, 115, 116, 111, 114, 101, 10, 9, 112, 117, 115, 104, 32, 49, 10, 111, 117, 116, 58, 10, 9, 116, 101, 108, 108, 10]
def drpC (v : Nat → Int) : List Ins := [⟨16, 0⟩, ⟨1, v 2⟩, ⟨6, 0⟩, ⟨1, 0⟩, ⟨6, 1⟩, ⟨5, 0⟩, ⟨17, 0⟩, ⟨3, 0⟩, ⟨6, 2⟩, ⟨1, v 6⟩, ⟨12, 0⟩, ⟨15, 20⟩, ⟨5, 0⟩, ⟨1, 1⟩, ⟨7, 0⟩, ⟨17, 0⟩, ⟨1, v 8⟩, ⟨12, 0⟩, ⟨15, 30⟩, ⟨14, 44⟩, ⟨5, 1⟩, ⟨15, 23⟩, ⟨14, 25⟩, ⟨5, 0⟩, ⟨6, 1⟩, ⟨5, 2⟩, ⟨1, v 5⟩, ⟨12, 0⟩, ⟨15, 30⟩, ⟨14, 42⟩, ⟨5, 0⟩, ⟨1, v 3⟩, ⟨7, 0⟩, ⟨1, v 4⟩, ⟨10, 0⟩, ⟨1, v 1⟩, ⟨7, 0⟩, ⟨3, 0⟩, ⟨6, 0⟩, ⟨1, v 2⟩, ⟨12, 0⟩, ⟨15, 5⟩, ⟨1, 0⟩, ⟨14, 54⟩, ⟨5, 0⟩, ⟨1, v 7⟩, ⟨18, 0⟩, ⟨1, v 0⟩, ⟨1, v 0⟩, ⟨17, 0⟩, ⟨1, 1⟩, ⟨8, 0⟩, ⟨18, 0⟩, ⟨1, 1⟩, ⟨21, 0⟩, ⟨19, 0⟩]
def drpP : List (Nat × List UInt8) := [(2, [10, 9, 115, 101, 116, 32, 48, 10, 9, 112, 117, 115, 104, 32, 48, 10, 9, 115, 101, 116, 32, 49, 10, 108, 111, 111, 107, 58, 10, 9, 103, 101, 116, 32, 48, 10, 9, 108, 111, 97, 100, 10, 9, 100, 117, 112, 10, 9, 115, 101, 116, 32, 50, 10, 9, 112, 117, 115, 104, 32]), (6, [10, 9, 115, 97, 109, 101, 10, 9, 122, 101, 114, 111, 32, 117, 110, 117, 115, 101, 100, 10, 9, 103, 101, 116, 32, 48, 10, 9, 112, 117, 115, 104, 32, 49, 10, 9, 97, 100, 100, 10, 9, 108, 111, 97, 100, 10, 9, 112, 117, 115, 104, 32]), (8, [10, 9, 115, 97, 109, 101, 10, 9, 122, 101, 114, 111, 32, 110, 101, 120, 116, 10, 9, 106, 117, 109, 112, 32, 102, 111, 117, 110, 100, 10, 117, 110, 117, 115, 101, 100, 58, 10, 9, 103, 101, 116, 32, 49, 10, 9, 122, 101, 114, 111, 32, 102, 105, 114, 115, 116, 10, 9, 106, 117, 109, 112, 32, 107, 101, 112, 116, 10, 102, 105, 114, 115, 116, 58, 10, 9, 103, 101, 116, 32, 48, 10, 9, 115, 101, 116, 32, 49, 10, 107, 101, 112, 116, 58, 10, 9, 103, 101, 116, 32, 50, 10, 9, 112, 117, 115, 104, 32]), (5, [10, 9, 115, 97, 109, 101, 10, 9, 122, 101, 114, 111, 32, 110, 101, 120, 116, 10, 9, 106, 117, 109, 112, 32, 110, 111, 110, 101, 10, 110, 101, 120, 116, 58, 10, 9, 103, 101, 116, 32, 48, 10, 9, 112, 117, 115, 104, 32]), (3, [10, 9, 97, 100, 100, 10, 9, 112, 117, 115, 104, 32]), (4, [10, 9, 109, 111, 100, 10, 9, 112, 117, 115, 104, 32]), (1, [10, 9, 97, 100, 100, 10, 9, 100, 117, 112, 10, 9, 115, 101, 116, 32, 48, 10, 9, 112, 117, 115, 104, 32]), (2, [10, 9, 115, 97, 109, 101, 10, 9, 122, 101, 114, 111, 32, 108, 111, 111, 107, 10, 110, 111, 110, 101, 58, 10, 10, 9, 112, 117, 115, 104, 32, 48, 10, 9, 106, 117, 109, 112, 32, 111, 117, 116, 10, 102, 111, 117, 110, 100, 58, 10, 10, 9, 103, 101, 116, 32, 48, 10, 9, 112, 117, 115, 104, 32]), (7, [10, 9, 115, 116, 111, 114, 101, 10, 9, 112, 117, 115, 104, 32]), (0, [10, 9, 112, 117, 115, 104, 32]), (0, [10, 9, 108, 111, 97, 100, 10, 9, 112, 117, 115, 104, 32, 49, 10, 9, 115, 117, 98, 10, 9, 115, 116, 111, 114, 101, 10, 9, 112, 117, 115, 104, 32, 49, 10, 111, 117, 116, 58, 10, 9, 116, 101, 108, 108, 10])]
theorem drpT_pieces : drpT = [10, 9, 112, 117, 115, 104, 32] ++ rend wd drpP := by kernel_rfl
theorem drp_filled (v : Nat → Int) : fillS drpT v 10 = [10, 9, 112, 117, 115, 104, 32] ++ rend (fun k => Lib.itoa (v k)) drpP := by
  rw [drpT_pieces]
  exact (fill_rend v drpP [10, 9, 112, 117, 115, 104, 32] (by decide) (by decide) (by decide)).2
theorem drp_steps (v : Nat → Int) : ∀ j, j ≤ 10 → fillS drpT v j = [10, 9, 112, 117, 115, 104, 32] ++ rend (wf v j) drpP := by
  rw [drpT_pieces]
  exact (fill_rend v drpP [10, 9, 112, 117, 115, 104, 32] (by decide) (by decide) (by decide)).1
set_option maxRecDepth 100000 in
theorem drp_short {v : Nat → Int} (hv : Rng v) (j : Nat) (hj : j ≤ 10) : (fillS drpT v j).length ≤ 100000 := by
  rw [drp_steps v j hj, List.length_append]
  have := rend_len hv j drpP
  exact Nat.le_trans (Nat.add_le_add_left this _) (by decide)
def drpLs (v : Nat → Int) : List (List UInt8) := [[98, 101, 103, 105, 110], [], pushL (v 2), [9, 115, 101, 116, 32, 48], [9, 112, 117, 115, 104, 32, 48], [9, 115, 101, 116, 32, 49], [108, 111, 111, 107, 58], [9, 103, 101, 116, 32, 48], [9, 108, 111, 97, 100], [9, 100, 117, 112], [9, 115, 101, 116, 32, 50], pushL (v 6), [9, 115, 97, 109, 101], [9, 122, 101, 114, 111, 32, 117, 110, 117, 115, 101, 100], [9, 103, 101, 116, 32, 48], [9, 112, 117, 115, 104, 32, 49], [9, 97, 100, 100], [9, 108, 111, 97, 100], pushL (v 8), [9, 115, 97, 109, 101], [9, 122, 101, 114, 111, 32, 110, 101, 120, 116], [9, 106, 117, 109, 112, 32, 102, 111, 117, 110, 100], [117, 110, 117, 115, 101, 100, 58], [9, 103, 101, 116, 32, 49], [9, 122, 101, 114, 111, 32, 102, 105, 114, 115, 116], [9, 106, 117, 109, 112, 32, 107, 101, 112, 116], [102, 105, 114, 115, 116, 58], [9, 103, 101, 116, 32, 48], [9, 115, 101, 116, 32, 49], [107, 101, 112, 116, 58], [9, 103, 101, 116, 32, 50], pushL (v 5), [9, 115, 97, 109, 101], [9, 122, 101, 114, 111, 32, 110, 101, 120, 116], [9, 106, 117, 109, 112, 32, 110, 111, 110, 101], [110, 101, 120, 116, 58], [9, 103, 101, 116, 32, 48], pushL (v 3), [9, 97, 100, 100], pushL (v 4), [9, 109, 111, 100], pushL (v 1), [9, 97, 100, 100], [9, 100, 117, 112], [9, 115, 101, 116, 32, 48], pushL (v 2), [9, 115, 97, 109, 101], [9, 122, 101, 114, 111, 32, 108, 111, 111, 107], [110, 111, 110, 101, 58], [], [9, 112, 117, 115, 104, 32, 48], [9, 106, 117, 109, 112, 32, 111, 117, 116], [102, 111, 117, 110, 100, 58], [], [9, 103, 101, 116, 32, 48], pushL (v 7), [9, 115, 116, 111, 114, 101], pushL (v 0), pushL (v 0), [9, 108, 111, 97, 100], [9, 112, 117, 115, 104, 32, 49], [9, 115, 117, 98], [9, 115, 116, 111, 114, 101], [9, 112, 117, 115, 104, 32, 49], [111, 117, 116, 58], [9, 116, 101, 108, 108], [99, 111, 109, 109, 105, 116]]
def drpWs (v : Nat → Int) : List Lw := [.ins ⟨16, 0⟩ [], .no, .ins ⟨1, v 2⟩ [], .ins ⟨6, 0⟩ [], .ins ⟨1, 0⟩ [], .ins ⟨6, 1⟩ [], .lab [108, 111, 111, 107], .ins ⟨5, 0⟩ [], .ins ⟨17, 0⟩ [], .ins ⟨3, 0⟩ [], .ins ⟨6, 2⟩ [], .ins ⟨1, v 6⟩ [], .ins ⟨12, 0⟩ [], .ins ⟨15, 0⟩ [117, 110, 117, 115, 101, 100], .ins ⟨5, 0⟩ [], .ins ⟨1, 1⟩ [], .ins ⟨7, 0⟩ [], .ins ⟨17, 0⟩ [], .ins ⟨1, v 8⟩ [], .ins ⟨12, 0⟩ [], .ins ⟨15, 0⟩ [110, 101, 120, 116], .ins ⟨14, 0⟩ [102, 111, 117, 110, 100], .lab [117, 110, 117, 115, 101, 100], .ins ⟨5, 1⟩ [], .ins ⟨15, 0⟩ [102, 105, 114, 115, 116], .ins ⟨14, 0⟩ [107, 101, 112, 116], .lab [102, 105, 114, 115, 116], .ins ⟨5, 0⟩ [], .ins ⟨6, 1⟩ [], .lab [107, 101, 112, 116], .ins ⟨5, 2⟩ [], .ins ⟨1, v 5⟩ [], .ins ⟨12, 0⟩ [], .ins ⟨15, 0⟩ [110, 101, 120, 116], .ins ⟨14, 0⟩ [110, 111, 110, 101], .lab [110, 101, 120, 116], .ins ⟨5, 0⟩ [], .ins ⟨1, v 3⟩ [], .ins ⟨7, 0⟩ [], .ins ⟨1, v 4⟩ [], .ins ⟨10, 0⟩ [], .ins ⟨1, v 1⟩ [], .ins ⟨7, 0⟩ [], .ins ⟨3, 0⟩ [], .ins ⟨6, 0⟩ [], .ins ⟨1, v 2⟩ [], .ins ⟨12, 0⟩ [], .ins ⟨15, 0⟩ [108, 111, 111, 107], .lab [110, 111, 110, 101], .no, .ins ⟨1, 0⟩ [], .ins ⟨14, 0⟩ [111, 117, 116], .lab [102, 111, 117, 110, 100], .no, .ins ⟨5, 0⟩ [], .ins ⟨1, v 7⟩ [], .ins ⟨18, 0⟩ [], .ins ⟨1, v 0⟩ [], .ins ⟨1, v 0⟩ [], .ins ⟨17, 0⟩ [], .ins ⟨1, 1⟩ [], .ins ⟨8, 0⟩ [], .ins ⟨18, 0⟩ [], .ins ⟨1, 1⟩ [], .lab [111, 117, 116], .ins ⟨21, 0⟩ [], .ins ⟨19, 0⟩ []]
set_option maxRecDepth 100000 in
theorem drp_ws {v : Nat → Int} (hv : Rng v) : Lws (drpLs v) (drpWs v) :=
  ⟨⟨by decide, by kernel_rfl, fun i => by kernel_rfl⟩,
   (show saidM [] = [] by kernel_rfl),
   push_line _ (hv 2).1 (hv 2).2,
   ⟨by decide, by kernel_rfl, fun i => by kernel_rfl⟩,
   ⟨by decide, by kernel_rfl, fun i => by kernel_rfl⟩,
   ⟨by decide, by kernel_rfl, fun i => by kernel_rfl⟩,
   ⟨by decide, by kernel_rfl, by kernel_rfl, by kernel_rfl⟩,
   ⟨by decide, by kernel_rfl, fun i => by kernel_rfl⟩,
   ⟨by decide, by kernel_rfl, fun i => by kernel_rfl⟩,
   ⟨by decide, by kernel_rfl, fun i => by kernel_rfl⟩,
   ⟨by decide, by kernel_rfl, fun i => by kernel_rfl⟩,
   push_line _ (hv 6).1 (hv 6).2,
   ⟨by decide, by kernel_rfl, fun i => by kernel_rfl⟩,
   ⟨by decide, by kernel_rfl, fun i => by kernel_rfl⟩,
   ⟨by decide, by kernel_rfl, fun i => by kernel_rfl⟩,
   ⟨by decide, by kernel_rfl, fun i => by kernel_rfl⟩,
   ⟨by decide, by kernel_rfl, fun i => by kernel_rfl⟩,
   ⟨by decide, by kernel_rfl, fun i => by kernel_rfl⟩,
   push_line _ (hv 8).1 (hv 8).2,
   ⟨by decide, by kernel_rfl, fun i => by kernel_rfl⟩,
   ⟨by decide, by kernel_rfl, fun i => by kernel_rfl⟩,
   ⟨by decide, by kernel_rfl, fun i => by kernel_rfl⟩,
   ⟨by decide, by kernel_rfl, by kernel_rfl, by kernel_rfl⟩,
   ⟨by decide, by kernel_rfl, fun i => by kernel_rfl⟩,
   ⟨by decide, by kernel_rfl, fun i => by kernel_rfl⟩,
   ⟨by decide, by kernel_rfl, fun i => by kernel_rfl⟩,
   ⟨by decide, by kernel_rfl, by kernel_rfl, by kernel_rfl⟩,
   ⟨by decide, by kernel_rfl, fun i => by kernel_rfl⟩,
   ⟨by decide, by kernel_rfl, fun i => by kernel_rfl⟩,
   ⟨by decide, by kernel_rfl, by kernel_rfl, by kernel_rfl⟩,
   ⟨by decide, by kernel_rfl, fun i => by kernel_rfl⟩,
   push_line _ (hv 5).1 (hv 5).2,
   ⟨by decide, by kernel_rfl, fun i => by kernel_rfl⟩,
   ⟨by decide, by kernel_rfl, fun i => by kernel_rfl⟩,
   ⟨by decide, by kernel_rfl, fun i => by kernel_rfl⟩,
   ⟨by decide, by kernel_rfl, by kernel_rfl, by kernel_rfl⟩,
   ⟨by decide, by kernel_rfl, fun i => by kernel_rfl⟩,
   push_line _ (hv 3).1 (hv 3).2,
   ⟨by decide, by kernel_rfl, fun i => by kernel_rfl⟩,
   push_line _ (hv 4).1 (hv 4).2,
   ⟨by decide, by kernel_rfl, fun i => by kernel_rfl⟩,
   push_line _ (hv 1).1 (hv 1).2,
   ⟨by decide, by kernel_rfl, fun i => by kernel_rfl⟩,
   ⟨by decide, by kernel_rfl, fun i => by kernel_rfl⟩,
   ⟨by decide, by kernel_rfl, fun i => by kernel_rfl⟩,
   push_line _ (hv 2).1 (hv 2).2,
   ⟨by decide, by kernel_rfl, fun i => by kernel_rfl⟩,
   ⟨by decide, by kernel_rfl, fun i => by kernel_rfl⟩,
   ⟨by decide, by kernel_rfl, by kernel_rfl, by kernel_rfl⟩,
   (show saidM [] = [] by kernel_rfl),
   ⟨by decide, by kernel_rfl, fun i => by kernel_rfl⟩,
   ⟨by decide, by kernel_rfl, fun i => by kernel_rfl⟩,
   ⟨by decide, by kernel_rfl, by kernel_rfl, by kernel_rfl⟩,
   (show saidM [] = [] by kernel_rfl),
   ⟨by decide, by kernel_rfl, fun i => by kernel_rfl⟩,
   push_line _ (hv 7).1 (hv 7).2,
   ⟨by decide, by kernel_rfl, fun i => by kernel_rfl⟩,
   push_line _ (hv 0).1 (hv 0).2,
   push_line _ (hv 0).1 (hv 0).2,
   ⟨by decide, by kernel_rfl, fun i => by kernel_rfl⟩,
   ⟨by decide, by kernel_rfl, fun i => by kernel_rfl⟩,
   ⟨by decide, by kernel_rfl, fun i => by kernel_rfl⟩,
   ⟨by decide, by kernel_rfl, fun i => by kernel_rfl⟩,
   ⟨by decide, by kernel_rfl, fun i => by kernel_rfl⟩,
   ⟨by decide, by kernel_rfl, by kernel_rfl, by kernel_rfl⟩,
   ⟨by decide, by kernel_rfl, fun i => by kernel_rfl⟩,
   ⟨by decide, by kernel_rfl, fun i => by kernel_rfl⟩, trivial⟩
set_option maxRecDepth 100000 in
theorem drp_no (v : Nat → Int) : ∀ l ∈ drpLs v, (10 : UInt8) ∉ l := by
  intro l hl
  simp only [drpLs, List.mem_cons, List.not_mem_nil, or_false] at hl
  rcases hl with rfl | rfl | rfl | rfl | rfl | rfl | rfl | rfl | rfl | rfl | rfl | rfl | rfl | rfl | rfl | rfl | rfl | rfl | rfl | rfl | rfl | rfl | rfl | rfl | rfl | rfl | rfl | rfl | rfl | rfl | rfl | rfl | rfl | rfl | rfl | rfl | rfl | rfl | rfl | rfl | rfl | rfl | rfl | rfl | rfl | rfl | rfl | rfl | rfl | rfl | rfl | rfl | rfl | rfl | rfl | rfl | rfl | rfl | rfl | rfl | rfl | rfl | rfl | rfl | rfl | rfl | rfl
  · decide
  · decide
  · exact push_no _
  · decide
  · decide
  · decide
  · decide
  · decide
  · decide
  · decide
  · decide
  · exact push_no _
  · decide
  · decide
  · decide
  · decide
  · decide
  · decide
  · exact push_no _
  · decide
  · decide
  · decide
  · decide
  · decide
  · decide
  · decide
  · decide
  · decide
  · decide
  · decide
  · decide
  · exact push_no _
  · decide
  · decide
  · decide
  · decide
  · decide
  · exact push_no _
  · decide
  · exact push_no _
  · decide
  · exact push_no _
  · decide
  · decide
  · decide
  · exact push_no _
  · decide
  · decide
  · decide
  · decide
  · decide
  · decide
  · decide
  · decide
  · decide
  · exact push_no _
  · decide
  · exact push_no _
  · exact push_no _
  · decide
  · decide
  · decide
  · decide
  · decide
  · decide
  · decide
  · decide
set_option maxRecDepth 100000 in
set_option maxHeartbeats 2000000 in
theorem drp_txt (v : Nat → Int) : [98, 101, 103, 105, 110, 10] ++ fillS drpT v 10 ++ [99, 111, 109, 109, 105, 116, 10] = txt (drpLs v) := by
  rw [drp_filled]
  simp [txt, drpLs, pushL, rend, drpP]
set_option maxRecDepth 100000 in
theorem drp_len {v : Nat → Int} (hv : Rng v) : (txt (drpLs v)).length ≤ 3000 := by
  refine Nat.le_trans (txt_le 27 _ ?_) (by decide : (27 + 1) * 67 ≤ 3000)
  intro l hl
  simp only [drpLs, List.mem_cons, List.not_mem_nil, or_false] at hl
  rcases hl with rfl | rfl | rfl | rfl | rfl | rfl | rfl | rfl | rfl | rfl | rfl | rfl | rfl | rfl | rfl | rfl | rfl | rfl | rfl | rfl | rfl | rfl | rfl | rfl | rfl | rfl | rfl | rfl | rfl | rfl | rfl | rfl | rfl | rfl | rfl | rfl | rfl | rfl | rfl | rfl | rfl | rfl | rfl | rfl | rfl | rfl | rfl | rfl | rfl | rfl | rfl | rfl | rfl | rfl | rfl | rfl | rfl | rfl | rfl | rfl | rfl | rfl | rfl | rfl | rfl | rfl | rfl
  · decide
  · decide
  · exact push_len _ (hv 2).1 (hv 2).2
  · decide
  · decide
  · decide
  · decide
  · decide
  · decide
  · decide
  · decide
  · exact push_len _ (hv 6).1 (hv 6).2
  · decide
  · decide
  · decide
  · decide
  · decide
  · decide
  · exact push_len _ (hv 8).1 (hv 8).2
  · decide
  · decide
  · decide
  · decide
  · decide
  · decide
  · decide
  · decide
  · decide
  · decide
  · decide
  · decide
  · exact push_len _ (hv 5).1 (hv 5).2
  · decide
  · decide
  · decide
  · decide
  · decide
  · exact push_len _ (hv 3).1 (hv 3).2
  · decide
  · exact push_len _ (hv 4).1 (hv 4).2
  · decide
  · exact push_len _ (hv 1).1 (hv 1).2
  · decide
  · decide
  · decide
  · exact push_len _ (hv 2).1 (hv 2).2
  · decide
  · decide
  · decide
  · decide
  · decide
  · decide
  · decide
  · decide
  · decide
  · exact push_len _ (hv 7).1 (hv 7).2
  · decide
  · exact push_len _ (hv 0).1 (hv 0).2
  · exact push_len _ (hv 0).1 (hv 0).2
  · decide
  · decide
  · decide
  · decide
  · decide
  · decide
  · decide
  · decide
set_option maxRecDepth 100000 in
theorem drp_plain (v : Nat → Int) : ∀ l ∈ drpLs v, Plain8 (saidM l) := by
  intro l hl
  simp only [drpLs, List.mem_cons, List.not_mem_nil, or_false] at hl
  rcases hl with rfl | rfl | rfl | rfl | rfl | rfl | rfl | rfl | rfl | rfl | rfl | rfl | rfl | rfl | rfl | rfl | rfl | rfl | rfl | rfl | rfl | rfl | rfl | rfl | rfl | rfl | rfl | rfl | rfl | rfl | rfl | rfl | rfl | rfl | rfl | rfl | rfl | rfl | rfl | rfl | rfl | rfl | rfl | rfl | rfl | rfl | rfl | rfl | rfl | rfl | rfl | rfl | rfl | rfl | rfl | rfl | rfl | rfl | rfl | rfl | rfl | rfl | rfl | rfl | rfl | rfl | rfl
  · exact plain_of (by kernel_rfl)
  · exact plain_of (by kernel_rfl)
  · exact plain_push _
  · exact plain_of (by kernel_rfl)
  · exact plain_of (by kernel_rfl)
  · exact plain_of (by kernel_rfl)
  · exact plain_of (by kernel_rfl)
  · exact plain_of (by kernel_rfl)
  · exact plain_of (by kernel_rfl)
  · exact plain_of (by kernel_rfl)
  · exact plain_of (by kernel_rfl)
  · exact plain_push _
  · exact plain_of (by kernel_rfl)
  · exact plain_of (by kernel_rfl)
  · exact plain_of (by kernel_rfl)
  · exact plain_of (by kernel_rfl)
  · exact plain_of (by kernel_rfl)
  · exact plain_of (by kernel_rfl)
  · exact plain_push _
  · exact plain_of (by kernel_rfl)
  · exact plain_of (by kernel_rfl)
  · exact plain_of (by kernel_rfl)
  · exact plain_of (by kernel_rfl)
  · exact plain_of (by kernel_rfl)
  · exact plain_of (by kernel_rfl)
  · exact plain_of (by kernel_rfl)
  · exact plain_of (by kernel_rfl)
  · exact plain_of (by kernel_rfl)
  · exact plain_of (by kernel_rfl)
  · exact plain_of (by kernel_rfl)
  · exact plain_of (by kernel_rfl)
  · exact plain_push _
  · exact plain_of (by kernel_rfl)
  · exact plain_of (by kernel_rfl)
  · exact plain_of (by kernel_rfl)
  · exact plain_of (by kernel_rfl)
  · exact plain_of (by kernel_rfl)
  · exact plain_push _
  · exact plain_of (by kernel_rfl)
  · exact plain_push _
  · exact plain_of (by kernel_rfl)
  · exact plain_push _
  · exact plain_of (by kernel_rfl)
  · exact plain_of (by kernel_rfl)
  · exact plain_of (by kernel_rfl)
  · exact plain_push _
  · exact plain_of (by kernel_rfl)
  · exact plain_of (by kernel_rfl)
  · exact plain_of (by kernel_rfl)
  · exact plain_of (by kernel_rfl)
  · exact plain_of (by kernel_rfl)
  · exact plain_of (by kernel_rfl)
  · exact plain_of (by kernel_rfl)
  · exact plain_of (by kernel_rfl)
  · exact plain_of (by kernel_rfl)
  · exact plain_push _
  · exact plain_of (by kernel_rfl)
  · exact plain_push _
  · exact plain_push _
  · exact plain_of (by kernel_rfl)
  · exact plain_of (by kernel_rfl)
  · exact plain_of (by kernel_rfl)
  · exact plain_of (by kernel_rfl)
  · exact plain_of (by kernel_rfl)
  · exact plain_of (by kernel_rfl)
  · exact plain_of (by kernel_rfl)
  · exact plain_of (by kernel_rfl)
set_option maxRecDepth 100000 in
theorem drp_parse {v : Nat → Int} (hv : Rng v) : parseM (bs (txt (drpLs v))) = .ok (drpC v) :=
  parse_txt (p := (runL 0 (drpWs v) ⟨[], []⟩).getD ⟨[], []⟩) (drp_no v) (Nat.le_trans (drp_len hv) (by decide)) (drp_ws hv) (by kernel_rfl) (by kernel_rfl) (by simp [drpC])
def addT : List UInt8 := [10, 9, 112, 117, 115, 104, 32, 72, 79, 77, 69, 10, 9, 115, 101, 116, 32, 48, 10, 9, 112, 117, 115, 104, 32, 48, 10, 9, 115, 101, 116, 32, 49, 10, 108, 111, 111, 107, 58, 10, 9, 103, 101, 116, 32, 48, 10, 9, 108, 111, 97, 100, 10, 9, 100, 117, 112, 10, 9, 115, 101, 116, 32, 50, 10, 9, 112, 117, 115, 104, 32, 85, 83, 69, 68, 10, 9, 115, 97, 109, 101, 10, 9, 122, 101, 114, 111, 32, 117, 110, 117, 115, 101, 100, 10, 9, 103, 101, 116, 32, 48, 10, 9, 112, 117, 115, 104, 32, 49, 10, 9, 97, 100, 100, 10, 9, 108, 111, 97, 100, 10, 9, 112, 117, 115, 104, 32, 88, 10, 9, 115, 97, 109, 101, 10, 9, 122, 101, 114, 111, 32, 110, 101, 120, 116, 10, 9, 106, 117, 109, 112, 32, 102, 111, 117, 110, 100, 10, 117, 110, 117, 115, 101, 100, 58, 10, 9, 103, 101, 116, 32, 49, 10, 9, 122, 101, 114, 111, 32, 102, 105, 114, 115, 116, 10, 9, 106, 117, 109, 112, 32, 107, 101, 112, 116, 10, 102, 105, 114, 115, 116, 58, 10, 9, 103, 101, 116, 32, 48, 10, 9, 115, 101, 116, 32, 49, 10, 107, 101, 112, 116, 58, 10, 9, 103, 101, 116, 32, 50, 10, 9, 112, 117, 115, 104, 32, 70, 82, 69, 69, 10, 9, 115, 97, 109, 101, 10, 9, 122, 101, 114, 111, 32, 110, 101, 120, 116, 10, 9, 106, 117, 109, 112, 32, 110, 111, 110, 101, 10, 110, 101, 120, 116, 58, 10, 9, 103, 101, 116, 32, 48, 10, 9, 112, 117, 115, 104, 32, 79, 78, 87, 65, 82, 68, 10, 9, 97, 100, 100, 10, 9, 112, 117, 115, 104, 32, 82, 79, 85, 78, 68, 10, 9, 109, 111, 100, 10, 9, 112, 117, 115, 104, 32, 70, 73, 82, 83, 84, 10, 9, 97, 100, 100, 10, 9, 100, 117, 112, 10, 9, 115, 101, 116, 32, 48, 10, 9, 112, 117, 115, 104, 32, 72, 79, 77, 69, 10, 9, 115, 97, 109, 101, 10, 9, 122, 101, 114, 111, 32, 108, 111, 111, 107, 10, 110, 111, 110, 101, 58, 10, 10, 9, 112, 117, 115, 104, 32, 48, 10, 9, 106, 117, 109, 112, 32, 111, 117, 116, 10, 102, 111, 117, 110, 100, 58, 10, 10, 9, 112, 117, 115, 104, 32, 49, 10, 9, 116, 101, 108, 108, 10, 9, 103, 101, 116, 32, 48, 10, 9, 112, 117, 115, 104, 32, 50, 10, 9, 97, 100, 100, 10, 9, 100, 117, 112, 10, 9, 108, 111, 97, 100, 10, 9, 112, 117, 115, 104, 32, 89, 10, 9, 97, 100, 100, 10, 9, 100, 117, 112, 10, 9, 115, 101, 116, 32, 51, 10, 9, 115, 116, 111, 114, 101, 10, 9, 103, 101, 116, 32, 51, 10, 111, 117, 116, 58, 10, 9, 116, 101, 108, 108, 10]
def addC (v : Nat → Int) : List Ins := [⟨16, 0⟩, ⟨1, v 2⟩, ⟨6, 0⟩, ⟨1, 0⟩, ⟨6, 1⟩, ⟨5, 0⟩, ⟨17, 0⟩, ⟨3, 0⟩, ⟨6, 2⟩, ⟨1, v 6⟩, ⟨12, 0⟩, ⟨15, 20⟩, ⟨5, 0⟩, ⟨1, 1⟩, ⟨7, 0⟩, ⟨17, 0⟩, ⟨1, v 8⟩, ⟨12, 0⟩, ⟨15, 30⟩, ⟨14, 44⟩, ⟨5, 1⟩, ⟨15, 23⟩, ⟨14, 25⟩, ⟨5, 0⟩, ⟨6, 1⟩, ⟨5, 2⟩, ⟨1, v 5⟩, ⟨12, 0⟩, ⟨15, 30⟩, ⟨14, 42⟩, ⟨5, 0⟩, ⟨1, v 3⟩, ⟨7, 0⟩, ⟨1, v 4⟩, ⟨10, 0⟩, ⟨1, v 1⟩, ⟨7, 0⟩, ⟨3, 0⟩, ⟨6, 0⟩, ⟨1, v 2⟩, ⟨12, 0⟩, ⟨15, 5⟩, ⟨1, 0⟩, ⟨14, 57⟩, ⟨1, 1⟩, ⟨21, 0⟩, ⟨5, 0⟩, ⟨1, 2⟩, ⟨7, 0⟩, ⟨3, 0⟩, ⟨17, 0⟩, ⟨1, v 9⟩, ⟨7, 0⟩, ⟨3, 0⟩, ⟨6, 3⟩, ⟨18, 0⟩, ⟨5, 3⟩, ⟨21, 0⟩, ⟨19, 0⟩]
def addP : List (Nat × List UInt8) := [(2, [10, 9, 115, 101, 116, 32, 48, 10, 9, 112, 117, 115, 104, 32, 48, 10, 9, 115, 101, 116, 32, 49, 10, 108, 111, 111, 107, 58, 10, 9, 103, 101, 116, 32, 48, 10, 9, 108, 111, 97, 100, 10, 9, 100, 117, 112, 10, 9, 115, 101, 116, 32, 50, 10, 9, 112, 117, 115, 104, 32]), (6, [10, 9, 115, 97, 109, 101, 10, 9, 122, 101, 114, 111, 32, 117, 110, 117, 115, 101, 100, 10, 9, 103, 101, 116, 32, 48, 10, 9, 112, 117, 115, 104, 32, 49, 10, 9, 97, 100, 100, 10, 9, 108, 111, 97, 100, 10, 9, 112, 117, 115, 104, 32]), (8, [10, 9, 115, 97, 109, 101, 10, 9, 122, 101, 114, 111, 32, 110, 101, 120, 116, 10, 9, 106, 117, 109, 112, 32, 102, 111, 117, 110, 100, 10, 117, 110, 117, 115, 101, 100, 58, 10, 9, 103, 101, 116, 32, 49, 10, 9, 122, 101, 114, 111, 32, 102, 105, 114, 115, 116, 10, 9, 106, 117, 109, 112, 32, 107, 101, 112, 116, 10, 102, 105, 114, 115, 116, 58, 10, 9, 103, 101, 116, 32, 48, 10, 9, 115, 101, 116, 32, 49, 10, 107, 101, 112, 116, 58, 10, 9, 103, 101, 116, 32, 50, 10, 9, 112, 117, 115, 104, 32]), (5, [10, 9, 115, 97, 109, 101, 10, 9, 122, 101, 114, 111, 32, 110, 101, 120, 116, 10, 9, 106, 117, 109, 112, 32, 110, 111, 110, 101, 10, 110, 101, 120, 116, 58, 10, 9, 103, 101, 116, 32, 48, 10, 9, 112, 117, 115, 104, 32]), (3, [10, 9, 97, 100, 100, 10, 9, 112, 117, 115, 104, 32]), (4, [10, 9, 109, 111, 100, 10, 9, 112, 117, 115, 104, 32]), (1, [10, 9, 97, 100, 100, 10, 9, 100, 117, 112, 10, 9, 115, 101, 116, 32, 48, 10, 9, 112, 117, 115, 104, 32]), (2, [10, 9, 115, 97, 109, 101, 10, 9, 122, 101, 114, 111, 32, 108, 111, 111, 107, 10, 110, 111, 110, 101, 58, 10, 10, 9, 112, 117, 115, 104, 32, 48, 10, 9, 106, 117, 109, 112, 32, 111, 117, 116, 10, 102, 111, 117, 110, 100, 58, 10, 10, 9, 112, 117, 115, 104, 32, 49, 10, 9, 116, 101, 108, 108, 10, 9, 103, 101, 116, 32, 48, 10, 9, 112, 117, 115, 104, 32, 50, 10, 9, 97, 100, 100, 10, 9, 100, 117, 112, 10, 9, 108, 111, 97, 100, 10, 9, 112, 117, 115, 104, 32]), (9, [10, 9, 97, 100, 100, 10, 9, 100, 117, 112, 10, 9, 115, 101, 116, 32, 51, 10, 9, 115, 116, 111, 114, 101, 10, 9, 103, 101, 116, 32, 51, 10, 111, 117, 116, 58, 10, 9, 116, 101, 108, 108, 10])]
theorem addT_pieces : addT = [10, 9, 112, 117, 115, 104, 32] ++ rend wd addP := by kernel_rfl
theorem add_filled (v : Nat → Int) : fillS addT v 10 = [10, 9, 112, 117, 115, 104, 32] ++ rend (fun k => Lib.itoa (v k)) addP := by
  rw [addT_pieces]
  exact (fill_rend v addP [10, 9, 112, 117, 115, 104, 32] (by decide) (by decide) (by decide)).2
theorem add_steps (v : Nat → Int) : ∀ j, j ≤ 10 → fillS addT v j = [10, 9, 112, 117, 115, 104, 32] ++ rend (wf v j) addP := by
  rw [addT_pieces]
  exact (fill_rend v addP [10, 9, 112, 117, 115, 104, 32] (by decide) (by decide) (by decide)).1
set_option maxRecDepth 100000 in
theorem add_short {v : Nat → Int} (hv : Rng v) (j : Nat) (hj : j ≤ 10) : (fillS addT v j).length ≤ 100000 := by
  rw [add_steps v j hj, List.length_append]
  have := rend_len hv j addP
  exact Nat.le_trans (Nat.add_le_add_left this _) (by decide)
def addLs (v : Nat → Int) : List (List UInt8) := [[98, 101, 103, 105, 110], [], pushL (v 2), [9, 115, 101, 116, 32, 48], [9, 112, 117, 115, 104, 32, 48], [9, 115, 101, 116, 32, 49], [108, 111, 111, 107, 58], [9, 103, 101, 116, 32, 48], [9, 108, 111, 97, 100], [9, 100, 117, 112], [9, 115, 101, 116, 32, 50], pushL (v 6), [9, 115, 97, 109, 101], [9, 122, 101, 114, 111, 32, 117, 110, 117, 115, 101, 100], [9, 103, 101, 116, 32, 48], [9, 112, 117, 115, 104, 32, 49], [9, 97, 100, 100], [9, 108, 111, 97, 100], pushL (v 8), [9, 115, 97, 109, 101], [9, 122, 101, 114, 111, 32, 110, 101, 120, 116], [9, 106, 117, 109, 112, 32, 102, 111, 117, 110, 100], [117, 110, 117, 115, 101, 100, 58], [9, 103, 101, 116, 32, 49], [9, 122, 101, 114, 111, 32, 102, 105, 114, 115, 116], [9, 106, 117, 109, 112, 32, 107, 101, 112, 116], [102, 105, 114, 115, 116, 58], [9, 103, 101, 116, 32, 48], [9, 115, 101, 116, 32, 49], [107, 101, 112, 116, 58], [9, 103, 101, 116, 32, 50], pushL (v 5), [9, 115, 97, 109, 101], [9, 122, 101, 114, 111, 32, 110, 101, 120, 116], [9, 106, 117, 109, 112, 32, 110, 111, 110, 101], [110, 101, 120, 116, 58], [9, 103, 101, 116, 32, 48], pushL (v 3), [9, 97, 100, 100], pushL (v 4), [9, 109, 111, 100], pushL (v 1), [9, 97, 100, 100], [9, 100, 117, 112], [9, 115, 101, 116, 32, 48], pushL (v 2), [9, 115, 97, 109, 101], [9, 122, 101, 114, 111, 32, 108, 111, 111, 107], [110, 111, 110, 101, 58], [], [9, 112, 117, 115, 104, 32, 48], [9, 106, 117, 109, 112, 32, 111, 117, 116], [102, 111, 117, 110, 100, 58], [], [9, 112, 117, 115, 104, 32, 49], [9, 116, 101, 108, 108], [9, 103, 101, 116, 32, 48], [9, 112, 117, 115, 104, 32, 50], [9, 97, 100, 100], [9, 100, 117, 112], [9, 108, 111, 97, 100], pushL (v 9), [9, 97, 100, 100], [9, 100, 117, 112], [9, 115, 101, 116, 32, 51], [9, 115, 116, 111, 114, 101], [9, 103, 101, 116, 32, 51], [111, 117, 116, 58], [9, 116, 101, 108, 108], [99, 111, 109, 109, 105, 116]]
def addWs (v : Nat → Int) : List Lw := [.ins ⟨16, 0⟩ [], .no, .ins ⟨1, v 2⟩ [], .ins ⟨6, 0⟩ [], .ins ⟨1, 0⟩ [], .ins ⟨6, 1⟩ [], .lab [108, 111, 111, 107], .ins ⟨5, 0⟩ [], .ins ⟨17, 0⟩ [], .ins ⟨3, 0⟩ [], .ins ⟨6, 2⟩ [], .ins ⟨1, v 6⟩ [], .ins ⟨12, 0⟩ [], .ins ⟨15, 0⟩ [117, 110, 117, 115, 101, 100], .ins ⟨5, 0⟩ [], .ins ⟨1, 1⟩ [], .ins ⟨7, 0⟩ [], .ins ⟨17, 0⟩ [], .ins ⟨1, v 8⟩ [], .ins ⟨12, 0⟩ [], .ins ⟨15, 0⟩ [110, 101, 120, 116], .ins ⟨14, 0⟩ [102, 111, 117, 110, 100], .lab [117, 110, 117, 115, 101, 100], .ins ⟨5, 1⟩ [], .ins ⟨15, 0⟩ [102, 105, 114, 115, 116], .ins ⟨14, 0⟩ [107, 101, 112, 116], .lab [102, 105, 114, 115, 116], .ins ⟨5, 0⟩ [], .ins ⟨6, 1⟩ [], .lab [107, 101, 112, 116], .ins ⟨5, 2⟩ [], .ins ⟨1, v 5⟩ [], .ins ⟨12, 0⟩ [], .ins ⟨15, 0⟩ [110, 101, 120, 116], .ins ⟨14, 0⟩ [110, 111, 110, 101], .lab [110, 101, 120, 116], .ins ⟨5, 0⟩ [], .ins ⟨1, v 3⟩ [], .ins ⟨7, 0⟩ [], .ins ⟨1, v 4⟩ [], .ins ⟨10, 0⟩ [], .ins ⟨1, v 1⟩ [], .ins ⟨7, 0⟩ [], .ins ⟨3, 0⟩ [], .ins ⟨6, 0⟩ [], .ins ⟨1, v 2⟩ [], .ins ⟨12, 0⟩ [], .ins ⟨15, 0⟩ [108, 111, 111, 107], .lab [110, 111, 110, 101], .no, .ins ⟨1, 0⟩ [], .ins ⟨14, 0⟩ [111, 117, 116], .lab [102, 111, 117, 110, 100], .no, .ins ⟨1, 1⟩ [], .ins ⟨21, 0⟩ [], .ins ⟨5, 0⟩ [], .ins ⟨1, 2⟩ [], .ins ⟨7, 0⟩ [], .ins ⟨3, 0⟩ [], .ins ⟨17, 0⟩ [], .ins ⟨1, v 9⟩ [], .ins ⟨7, 0⟩ [], .ins ⟨3, 0⟩ [], .ins ⟨6, 3⟩ [], .ins ⟨18, 0⟩ [], .ins ⟨5, 3⟩ [], .lab [111, 117, 116], .ins ⟨21, 0⟩ [], .ins ⟨19, 0⟩ []]
set_option maxRecDepth 100000 in
theorem add_ws {v : Nat → Int} (hv : Rng v) : Lws (addLs v) (addWs v) :=
  ⟨⟨by decide, by kernel_rfl, fun i => by kernel_rfl⟩,
   (show saidM [] = [] by kernel_rfl),
   push_line _ (hv 2).1 (hv 2).2,
   ⟨by decide, by kernel_rfl, fun i => by kernel_rfl⟩,
   ⟨by decide, by kernel_rfl, fun i => by kernel_rfl⟩,
   ⟨by decide, by kernel_rfl, fun i => by kernel_rfl⟩,
   ⟨by decide, by kernel_rfl, by kernel_rfl, by kernel_rfl⟩,
   ⟨by decide, by kernel_rfl, fun i => by kernel_rfl⟩,
   ⟨by decide, by kernel_rfl, fun i => by kernel_rfl⟩,
   ⟨by decide, by kernel_rfl, fun i => by kernel_rfl⟩,
   ⟨by decide, by kernel_rfl, fun i => by kernel_rfl⟩,
   push_line _ (hv 6).1 (hv 6).2,
   ⟨by decide, by kernel_rfl, fun i => by kernel_rfl⟩,
   ⟨by decide, by kernel_rfl, fun i => by kernel_rfl⟩,
   ⟨by decide, by kernel_rfl, fun i => by kernel_rfl⟩,
   ⟨by decide, by kernel_rfl, fun i => by kernel_rfl⟩,
   ⟨by decide, by kernel_rfl, fun i => by kernel_rfl⟩,
   ⟨by decide, by kernel_rfl, fun i => by kernel_rfl⟩,
   push_line _ (hv 8).1 (hv 8).2,
   ⟨by decide, by kernel_rfl, fun i => by kernel_rfl⟩,
   ⟨by decide, by kernel_rfl, fun i => by kernel_rfl⟩,
   ⟨by decide, by kernel_rfl, fun i => by kernel_rfl⟩,
   ⟨by decide, by kernel_rfl, by kernel_rfl, by kernel_rfl⟩,
   ⟨by decide, by kernel_rfl, fun i => by kernel_rfl⟩,
   ⟨by decide, by kernel_rfl, fun i => by kernel_rfl⟩,
   ⟨by decide, by kernel_rfl, fun i => by kernel_rfl⟩,
   ⟨by decide, by kernel_rfl, by kernel_rfl, by kernel_rfl⟩,
   ⟨by decide, by kernel_rfl, fun i => by kernel_rfl⟩,
   ⟨by decide, by kernel_rfl, fun i => by kernel_rfl⟩,
   ⟨by decide, by kernel_rfl, by kernel_rfl, by kernel_rfl⟩,
   ⟨by decide, by kernel_rfl, fun i => by kernel_rfl⟩,
   push_line _ (hv 5).1 (hv 5).2,
   ⟨by decide, by kernel_rfl, fun i => by kernel_rfl⟩,
   ⟨by decide, by kernel_rfl, fun i => by kernel_rfl⟩,
   ⟨by decide, by kernel_rfl, fun i => by kernel_rfl⟩,
   ⟨by decide, by kernel_rfl, by kernel_rfl, by kernel_rfl⟩,
   ⟨by decide, by kernel_rfl, fun i => by kernel_rfl⟩,
   push_line _ (hv 3).1 (hv 3).2,
   ⟨by decide, by kernel_rfl, fun i => by kernel_rfl⟩,
   push_line _ (hv 4).1 (hv 4).2,
   ⟨by decide, by kernel_rfl, fun i => by kernel_rfl⟩,
   push_line _ (hv 1).1 (hv 1).2,
   ⟨by decide, by kernel_rfl, fun i => by kernel_rfl⟩,
   ⟨by decide, by kernel_rfl, fun i => by kernel_rfl⟩,
   ⟨by decide, by kernel_rfl, fun i => by kernel_rfl⟩,
   push_line _ (hv 2).1 (hv 2).2,
   ⟨by decide, by kernel_rfl, fun i => by kernel_rfl⟩,
   ⟨by decide, by kernel_rfl, fun i => by kernel_rfl⟩,
   ⟨by decide, by kernel_rfl, by kernel_rfl, by kernel_rfl⟩,
   (show saidM [] = [] by kernel_rfl),
   ⟨by decide, by kernel_rfl, fun i => by kernel_rfl⟩,
   ⟨by decide, by kernel_rfl, fun i => by kernel_rfl⟩,
   ⟨by decide, by kernel_rfl, by kernel_rfl, by kernel_rfl⟩,
   (show saidM [] = [] by kernel_rfl),
   ⟨by decide, by kernel_rfl, fun i => by kernel_rfl⟩,
   ⟨by decide, by kernel_rfl, fun i => by kernel_rfl⟩,
   ⟨by decide, by kernel_rfl, fun i => by kernel_rfl⟩,
   ⟨by decide, by kernel_rfl, fun i => by kernel_rfl⟩,
   ⟨by decide, by kernel_rfl, fun i => by kernel_rfl⟩,
   ⟨by decide, by kernel_rfl, fun i => by kernel_rfl⟩,
   ⟨by decide, by kernel_rfl, fun i => by kernel_rfl⟩,
   push_line _ (hv 9).1 (hv 9).2,
   ⟨by decide, by kernel_rfl, fun i => by kernel_rfl⟩,
   ⟨by decide, by kernel_rfl, fun i => by kernel_rfl⟩,
   ⟨by decide, by kernel_rfl, fun i => by kernel_rfl⟩,
   ⟨by decide, by kernel_rfl, fun i => by kernel_rfl⟩,
   ⟨by decide, by kernel_rfl, fun i => by kernel_rfl⟩,
   ⟨by decide, by kernel_rfl, by kernel_rfl, by kernel_rfl⟩,
   ⟨by decide, by kernel_rfl, fun i => by kernel_rfl⟩,
   ⟨by decide, by kernel_rfl, fun i => by kernel_rfl⟩, trivial⟩
set_option maxRecDepth 100000 in
theorem add_no (v : Nat → Int) : ∀ l ∈ addLs v, (10 : UInt8) ∉ l := by
  intro l hl
  simp only [addLs, List.mem_cons, List.not_mem_nil, or_false] at hl
  rcases hl with rfl | rfl | rfl | rfl | rfl | rfl | rfl | rfl | rfl | rfl | rfl | rfl | rfl | rfl | rfl | rfl | rfl | rfl | rfl | rfl | rfl | rfl | rfl | rfl | rfl | rfl | rfl | rfl | rfl | rfl | rfl | rfl | rfl | rfl | rfl | rfl | rfl | rfl | rfl | rfl | rfl | rfl | rfl | rfl | rfl | rfl | rfl | rfl | rfl | rfl | rfl | rfl | rfl | rfl | rfl | rfl | rfl | rfl | rfl | rfl | rfl | rfl | rfl | rfl | rfl | rfl | rfl | rfl | rfl | rfl
  · decide
  · decide
  · exact push_no _
  · decide
  · decide
  · decide
  · decide
  · decide
  · decide
  · decide
  · decide
  · exact push_no _
  · decide
  · decide
  · decide
  · decide
  · decide
  · decide
  · exact push_no _
  · decide
  · decide
  · decide
  · decide
  · decide
  · decide
  · decide
  · decide
  · decide
  · decide
  · decide
  · decide
  · exact push_no _
  · decide
  · decide
  · decide
  · decide
  · decide
  · exact push_no _
  · decide
  · exact push_no _
  · decide
  · exact push_no _
  · decide
  · decide
  · decide
  · exact push_no _
  · decide
  · decide
  · decide
  · decide
  · decide
  · decide
  · decide
  · decide
  · decide
  · decide
  · decide
  · decide
  · decide
  · decide
  · decide
  · exact push_no _
  · decide
  · decide
  · decide
  · decide
  · decide
  · decide
  · decide
  · decide
set_option maxRecDepth 100000 in
set_option maxHeartbeats 2000000 in
theorem add_txt (v : Nat → Int) : [98, 101, 103, 105, 110, 10] ++ fillS addT v 10 ++ [99, 111, 109, 109, 105, 116, 10] = txt (addLs v) := by
  rw [add_filled]
  simp [txt, addLs, pushL, rend, addP]
set_option maxRecDepth 100000 in
theorem add_len {v : Nat → Int} (hv : Rng v) : (txt (addLs v)).length ≤ 3000 := by
  refine Nat.le_trans (txt_le 27 _ ?_) (by decide : (27 + 1) * 70 ≤ 3000)
  intro l hl
  simp only [addLs, List.mem_cons, List.not_mem_nil, or_false] at hl
  rcases hl with rfl | rfl | rfl | rfl | rfl | rfl | rfl | rfl | rfl | rfl | rfl | rfl | rfl | rfl | rfl | rfl | rfl | rfl | rfl | rfl | rfl | rfl | rfl | rfl | rfl | rfl | rfl | rfl | rfl | rfl | rfl | rfl | rfl | rfl | rfl | rfl | rfl | rfl | rfl | rfl | rfl | rfl | rfl | rfl | rfl | rfl | rfl | rfl | rfl | rfl | rfl | rfl | rfl | rfl | rfl | rfl | rfl | rfl | rfl | rfl | rfl | rfl | rfl | rfl | rfl | rfl | rfl | rfl | rfl | rfl
  · decide
  · decide
  · exact push_len _ (hv 2).1 (hv 2).2
  · decide
  · decide
  · decide
  · decide
  · decide
  · decide
  · decide
  · decide
  · exact push_len _ (hv 6).1 (hv 6).2
  · decide
  · decide
  · decide
  · decide
  · decide
  · decide
  · exact push_len _ (hv 8).1 (hv 8).2
  · decide
  · decide
  · decide
  · decide
  · decide
  · decide
  · decide
  · decide
  · decide
  · decide
  · decide
  · decide
  · exact push_len _ (hv 5).1 (hv 5).2
  · decide
  · decide
  · decide
  · decide
  · decide
  · exact push_len _ (hv 3).1 (hv 3).2
  · decide
  · exact push_len _ (hv 4).1 (hv 4).2
  · decide
  · exact push_len _ (hv 1).1 (hv 1).2
  · decide
  · decide
  · decide
  · exact push_len _ (hv 2).1 (hv 2).2
  · decide
  · decide
  · decide
  · decide
  · decide
  · decide
  · decide
  · decide
  · decide
  · decide
  · decide
  · decide
  · decide
  · decide
  · decide
  · exact push_len _ (hv 9).1 (hv 9).2
  · decide
  · decide
  · decide
  · decide
  · decide
  · decide
  · decide
  · decide
set_option maxRecDepth 100000 in
theorem add_plain (v : Nat → Int) : ∀ l ∈ addLs v, Plain8 (saidM l) := by
  intro l hl
  simp only [addLs, List.mem_cons, List.not_mem_nil, or_false] at hl
  rcases hl with rfl | rfl | rfl | rfl | rfl | rfl | rfl | rfl | rfl | rfl | rfl | rfl | rfl | rfl | rfl | rfl | rfl | rfl | rfl | rfl | rfl | rfl | rfl | rfl | rfl | rfl | rfl | rfl | rfl | rfl | rfl | rfl | rfl | rfl | rfl | rfl | rfl | rfl | rfl | rfl | rfl | rfl | rfl | rfl | rfl | rfl | rfl | rfl | rfl | rfl | rfl | rfl | rfl | rfl | rfl | rfl | rfl | rfl | rfl | rfl | rfl | rfl | rfl | rfl | rfl | rfl | rfl | rfl | rfl | rfl
  · exact plain_of (by kernel_rfl)
  · exact plain_of (by kernel_rfl)
  · exact plain_push _
  · exact plain_of (by kernel_rfl)
  · exact plain_of (by kernel_rfl)
  · exact plain_of (by kernel_rfl)
  · exact plain_of (by kernel_rfl)
  · exact plain_of (by kernel_rfl)
  · exact plain_of (by kernel_rfl)
  · exact plain_of (by kernel_rfl)
  · exact plain_of (by kernel_rfl)
  · exact plain_push _
  · exact plain_of (by kernel_rfl)
  · exact plain_of (by kernel_rfl)
  · exact plain_of (by kernel_rfl)
  · exact plain_of (by kernel_rfl)
  · exact plain_of (by kernel_rfl)
  · exact plain_of (by kernel_rfl)
  · exact plain_push _
  · exact plain_of (by kernel_rfl)
  · exact plain_of (by kernel_rfl)
  · exact plain_of (by kernel_rfl)
  · exact plain_of (by kernel_rfl)
  · exact plain_of (by kernel_rfl)
  · exact plain_of (by kernel_rfl)
  · exact plain_of (by kernel_rfl)
  · exact plain_of (by kernel_rfl)
  · exact plain_of (by kernel_rfl)
  · exact plain_of (by kernel_rfl)
  · exact plain_of (by kernel_rfl)
  · exact plain_of (by kernel_rfl)
  · exact plain_push _
  · exact plain_of (by kernel_rfl)
  · exact plain_of (by kernel_rfl)
  · exact plain_of (by kernel_rfl)
  · exact plain_of (by kernel_rfl)
  · exact plain_of (by kernel_rfl)
  · exact plain_push _
  · exact plain_of (by kernel_rfl)
  · exact plain_push _
  · exact plain_of (by kernel_rfl)
  · exact plain_push _
  · exact plain_of (by kernel_rfl)
  · exact plain_of (by kernel_rfl)
  · exact plain_of (by kernel_rfl)
  · exact plain_push _
  · exact plain_of (by kernel_rfl)
  · exact plain_of (by kernel_rfl)
  · exact plain_of (by kernel_rfl)
  · exact plain_of (by kernel_rfl)
  · exact plain_of (by kernel_rfl)
  · exact plain_of (by kernel_rfl)
  · exact plain_of (by kernel_rfl)
  · exact plain_of (by kernel_rfl)
  · exact plain_of (by kernel_rfl)
  · exact plain_of (by kernel_rfl)
  · exact plain_of (by kernel_rfl)
  · exact plain_of (by kernel_rfl)
  · exact plain_of (by kernel_rfl)
  · exact plain_of (by kernel_rfl)
  · exact plain_of (by kernel_rfl)
  · exact plain_push _
  · exact plain_of (by kernel_rfl)
  · exact plain_of (by kernel_rfl)
  · exact plain_of (by kernel_rfl)
  · exact plain_of (by kernel_rfl)
  · exact plain_of (by kernel_rfl)
  · exact plain_of (by kernel_rfl)
  · exact plain_of (by kernel_rfl)
  · exact plain_of (by kernel_rfl)
set_option maxRecDepth 100000 in
theorem add_parse {v : Nat → Int} (hv : Rng v) : parseM (bs (txt (addLs v))) = .ok (addC v) :=
  parse_txt (p := (runL 0 (addWs v) ⟨[], []⟩).getD ⟨[], []⟩) (add_no v) (Nat.le_trans (add_len hv) (by decide)) (add_ws hv) (by kernel_rfl) (by kernel_rfl) (by simp [addC])
def sizT : List UInt8 := [10, 9, 112, 117, 115, 104, 32, 83, 73, 90, 69, 10, 9, 108, 111, 97, 100, 10, 9, 116, 101, 108, 108, 10]
def sizC (v : Nat → Int) : List Ins := [⟨16, 0⟩, ⟨1, v 0⟩, ⟨17, 0⟩, ⟨21, 0⟩, ⟨19, 0⟩]
def sizP : List (Nat × List UInt8) := [(0, [10, 9, 108, 111, 97, 100, 10, 9, 116, 101, 108, 108, 10])]
theorem sizT_pieces : sizT = [10, 9, 112, 117, 115, 104, 32] ++ rend wd sizP := by kernel_rfl
theorem siz_filled (v : Nat → Int) : fillS sizT v 10 = [10, 9, 112, 117, 115, 104, 32] ++ rend (fun k => Lib.itoa (v k)) sizP := by
  rw [sizT_pieces]
  exact (fill_rend v sizP [10, 9, 112, 117, 115, 104, 32] (by decide) (by decide) (by decide)).2
theorem siz_steps (v : Nat → Int) : ∀ j, j ≤ 10 → fillS sizT v j = [10, 9, 112, 117, 115, 104, 32] ++ rend (wf v j) sizP := by
  rw [sizT_pieces]
  exact (fill_rend v sizP [10, 9, 112, 117, 115, 104, 32] (by decide) (by decide) (by decide)).1
set_option maxRecDepth 100000 in
theorem siz_short {v : Nat → Int} (hv : Rng v) (j : Nat) (hj : j ≤ 10) : (fillS sizT v j).length ≤ 100000 := by
  rw [siz_steps v j hj, List.length_append]
  have := rend_len hv j sizP
  exact Nat.le_trans (Nat.add_le_add_left this _) (by decide)
def sizLs (v : Nat → Int) : List (List UInt8) := [[98, 101, 103, 105, 110], [], pushL (v 0), [9, 108, 111, 97, 100], [9, 116, 101, 108, 108], [99, 111, 109, 109, 105, 116]]
def sizWs (v : Nat → Int) : List Lw := [.ins ⟨16, 0⟩ [], .no, .ins ⟨1, v 0⟩ [], .ins ⟨17, 0⟩ [], .ins ⟨21, 0⟩ [], .ins ⟨19, 0⟩ []]
set_option maxRecDepth 100000 in
theorem siz_ws {v : Nat → Int} (hv : Rng v) : Lws (sizLs v) (sizWs v) :=
  ⟨⟨by decide, by kernel_rfl, fun i => by kernel_rfl⟩,
   (show saidM [] = [] by kernel_rfl),
   push_line _ (hv 0).1 (hv 0).2,
   ⟨by decide, by kernel_rfl, fun i => by kernel_rfl⟩,
   ⟨by decide, by kernel_rfl, fun i => by kernel_rfl⟩,
   ⟨by decide, by kernel_rfl, fun i => by kernel_rfl⟩, trivial⟩
set_option maxRecDepth 100000 in
theorem siz_no (v : Nat → Int) : ∀ l ∈ sizLs v, (10 : UInt8) ∉ l := by
  intro l hl
  simp only [sizLs, List.mem_cons, List.not_mem_nil, or_false] at hl
  rcases hl with rfl | rfl | rfl | rfl | rfl | rfl
  · decide
  · decide
  · exact push_no _
  · decide
  · decide
  · decide
set_option maxRecDepth 100000 in
set_option maxHeartbeats 2000000 in
theorem siz_txt (v : Nat → Int) : [98, 101, 103, 105, 110, 10] ++ fillS sizT v 10 ++ [99, 111, 109, 109, 105, 116, 10] = txt (sizLs v) := by
  rw [siz_filled]
  simp [txt, sizLs, pushL, rend, sizP]
set_option maxRecDepth 100000 in
theorem siz_len {v : Nat → Int} (hv : Rng v) : (txt (sizLs v)).length ≤ 3000 := by
  refine Nat.le_trans (txt_le 27 _ ?_) (by decide : (27 + 1) * 6 ≤ 3000)
  intro l hl
  simp only [sizLs, List.mem_cons, List.not_mem_nil, or_false] at hl
  rcases hl with rfl | rfl | rfl | rfl | rfl | rfl
  · decide
  · decide
  · exact push_len _ (hv 0).1 (hv 0).2
  · decide
  · decide
  · decide
set_option maxRecDepth 100000 in
theorem siz_plain (v : Nat → Int) : ∀ l ∈ sizLs v, Plain8 (saidM l) := by
  intro l hl
  simp only [sizLs, List.mem_cons, List.not_mem_nil, or_false] at hl
  rcases hl with rfl | rfl | rfl | rfl | rfl | rfl
  · exact plain_of (by kernel_rfl)
  · exact plain_of (by kernel_rfl)
  · exact plain_push _
  · exact plain_of (by kernel_rfl)
  · exact plain_of (by kernel_rfl)
  · exact plain_of (by kernel_rfl)
set_option maxRecDepth 100000 in
theorem siz_parse {v : Nat → Int} (hv : Rng v) : parseM (bs (txt (sizLs v))) = .ok (sizC v) :=
  parse_txt (p := (runL 0 (sizWs v) ⟨[], []⟩).getD ⟨[], []⟩) (siz_no v) (Nat.le_trans (siz_len hv) (by decide)) (siz_ws hv) (by kernel_rfl) (by kernel_rfl) (by simp [sizC])
def textS (op : Int) : List UInt8 := if op = 1 then putT else if op = 2 then gttT else if op = 3 then drpT else if op = 4 then addT else sizT
def codeS (v : Nat → Int) (op : Int) : List Ins := if op = 1 then putC v else if op = 2 then gttC v else if op = 3 then drpC v else if op = 4 then addC v else sizC v
def wholeS (v : Nat → Int) (op : Int) : List UInt8 := [98, 101, 103, 105, 110, 10] ++ fillS (textS op) v 10 ++ [99, 111, 109, 109, 105, 116, 10]
theorem short_ok {v : Nat → Int} {op : Int} (ho : op = 1 ∨ op = 2 ∨ op = 3 ∨ op = 4 ∨ op = 5) (hv : Rng v) (j : Nat) (hj : j ≤ 10) : (fillS (textS op) v j).length ≤ 100000 := by
  unfold textS
  rcases ho with rfl | rfl | rfl | rfl | rfl
  · exact put_short hv j hj
  · exact gtt_short hv j hj
  · exact drp_short hv j hj
  · exact add_short hv j hj
  · exact siz_short hv j hj
theorem text_ok {v : Nat → Int} {op : Int} (ho : op = 1 ∨ op = 2 ∨ op = 3 ∨ op = 4 ∨ op = 5) (hv : Rng v) : parseM (bs (wholeS v op)) = .ok (codeS v op) ∧ PlainT (bs (wholeS v op)) ∧ (wholeS v op).length ≤ 3000 := by
  unfold wholeS codeS textS
  rcases ho with rfl | rfl | rfl | rfl | rfl
  · simp only [Int.reduceEq, ↓reduceIte]
    rw [put_txt]
    exact ⟨put_parse hv, plain_txt (put_no v) (put_plain v), put_len hv⟩
  · simp only [Int.reduceEq, ↓reduceIte]
    rw [gtt_txt]
    exact ⟨gtt_parse hv, plain_txt (gtt_no v) (gtt_plain v), gtt_len hv⟩
  · simp only [Int.reduceEq, ↓reduceIte]
    rw [drp_txt]
    exact ⟨drp_parse hv, plain_txt (drp_no v) (drp_plain v), drp_len hv⟩
  · simp only [Int.reduceEq, ↓reduceIte]
    rw [add_txt]
    exact ⟨add_parse hv, plain_txt (add_no v) (add_plain v), add_len hv⟩
  · simp only [Int.reduceEq, ↓reduceIte]
    rw [siz_txt]
    exact ⟨siz_parse hv, plain_txt (siz_no v) (siz_plain v), siz_len hv⟩
end Go.Proofs.YtbpilhjomfkpaaaGreatDoor
