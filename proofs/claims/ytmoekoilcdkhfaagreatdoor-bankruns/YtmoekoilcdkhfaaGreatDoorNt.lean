/- Texts with numbers in them, as plain data: numerals, lines, what is read of lines. No program is named here. -/
import Derived.Test.YtmoekoilcdkhfaaGreatDoorPsM
import Derived.Lib.Replace
namespace Go.Proofs.YtmoekoilcdkhfaaGreatDoor
open Go.RowKit
set_option linter.unusedVariables false
set_option linter.unusedSimpArgs false

theorem index_at (a b : List UInt8) (c : UInt8) (h : c ∉ a) : Lib.index (a ++ c :: b) [c] = a.length := by
  induction a with
  | nil => simp [Lib.index, List.isPrefixOf]
  | cons x a ih =>
    have hx : ¬ c = x := fun e => h (by simp [e])
    have hi := ih (fun m => h (by simp [m]))
    simp only [List.cons_append, Lib.index]
    rw [if_neg (by simp [List.isPrefixOf, hx]), hi, if_neg (by simp only [beq_iff_eq]; omega)]
    simp
theorem index_gone (a : List UInt8) (c : UInt8) (h : c ∉ a) : Lib.index a [c] = -1 := by
  induction a with
  | nil => rfl
  | cons x a ih =>
    have hx : ¬ c = x := fun e => h (by simp [e])
    have hi := ih (fun m => h (by simp [m]))
    simp only [Lib.index]
    rw [if_neg (by simp [List.isPrefixOf, hx]), hi]
    rfl
/-- A mark is replaced where it stands first. -/
theorem replace_at (a b x : List UInt8) (c : UInt8) (h : c ∉ a) (hx : x ≠ [c]) : Lib.replace (a ++ c :: b) [c] x 1 = a ++ x ++ b := by
  have hi := index_at a b c h
  have hc : Lib.count (a ++ c :: b) [c] = 1 + Lib.count b [c] := by
    rw [Lib.count_hit (by simp) hi]
    congr 2
    simp
  unfold Lib.replace
  rw [if_neg (by simpa using fun e => hx e.symm)]
  have hn : Lib.replaceNum (a ++ c :: b) [c] 1 = 0 + 1 := by
    unfold Lib.replaceNum
    rw [hc, if_neg (by omega)]
    rfl
  rw [hn, Lib.replaceK_hit _ _ _ _ _ hi]
  simp [Lib.replaceK]
theorem dec_mem (u : Nat) : ∀ b ∈ Lib.decDigits u, 48 ≤ b.toNat ∧ b.toNat ≤ 57 := by
  induction u using Nat.strongRecOn with
  | _ u ih =>
    intro b hb
    have dig : ∀ k, k < 10 → 48 ≤ (UInt8.ofNat (48 + k)).toNat ∧ (UInt8.ofNat (48 + k)).toNat ≤ 57 := by
      intro k hk
      rw [UInt8.toNat_ofNat']
      omega
    by_cases h : u < 10
    · rw [Lib.decDigits, dif_pos h] at hb
      rw [List.mem_singleton.1 hb]
      exact dig u h
    · rw [Lib.decDigits, dif_neg h] at hb
      rcases List.mem_append.1 hb with hb | hb
      · exact ih (u / 10) (by omega) b hb
      · rw [List.mem_singleton.1 hb]
        exact dig (u % 10) (by omega)
theorem dec_last (u : Nat) : ∃ a c, Lib.decDigits u = a ++ [c] ∧ 48 ≤ c.toNat ∧ c.toNat ≤ 57 := by
  have hm := dec_mem u
  by_cases h : u < 10
  · rw [Lib.decDigits, dif_pos h] at hm ⊢
    exact ⟨[], _, rfl, hm _ (by simp)⟩
  · rw [Lib.decDigits, dif_neg h] at hm ⊢
    exact ⟨_, _, rfl, hm _ (by simp)⟩
theorem dec_first (u : Nat) : ∃ c r, Lib.decDigits u = c :: r ∧ 48 ≤ c.toNat ∧ c.toNat ≤ 57 := by
  have hm := dec_mem u
  obtain ⟨a, c, e, h⟩ := dec_last u
  rw [e] at hm ⊢
  cases a with
  | nil => exact ⟨c, [], rfl, h⟩
  | cons x a => exact ⟨x, a ++ [c], rfl, hm x (by simp)⟩
theorem parse_snoc (l : List UInt8) (c : UInt8) : ∀ (acc v : Nat), Lib.parseUint10 acc l = .ok v → Lib.parseUint10 acc (l ++ [c]) = Lib.parseUint10 v [c] := by
  induction l with
  | nil => intro acc v h; simp only [Lib.parseUint10, Lib.NumEnd.ok.injEq] at h; rw [h]; rfl
  | cons x l ih =>
    intro acc v h
    simp only [List.cons_append]
    rw [Lib.parseUint10] at h ⊢
    split at h
    · split at h
      · cases h
      · split at h
        · cases h
        · rename_i h1 h2 h3
          rw [if_pos h1, if_neg h2, if_neg h3]
          exact ih _ _ h
    · cases h
theorem parse_dec (u : Nat) (hu : u < 18446744073709551616) : Lib.parseUint10 0 (Lib.decDigits u) = .ok u := by
  induction u using Nat.strongRecOn with
  | _ u ih =>
    have dig : ∀ k, k < 10 → (UInt8.ofNat (48 + k)).toNat = 48 + k := by
      intro k hk
      rw [UInt8.toNat_ofNat']
      omega
    by_cases h : u < 10
    · rw [Lib.decDigits, dif_pos h]
      simp only [Lib.parseUint10]
      rw [dig u h, if_pos (by omega), if_neg (by omega), if_neg (by omega)]
      congr 1
      omega
    · rw [Lib.decDigits, dif_neg h, parse_snoc _ _ 0 (u / 10) (ih (u / 10) (by omega) (by omega))]
      simp only [Lib.parseUint10]
      rw [dig (u % 10) (by omega), if_pos (by omega), if_neg (by omega), if_neg (by omega)]
      congr 1
      omega
theorem atoi_itoa (v : Int) (h0 : -9223372036854775808 ≤ v) (h1 : v ≤ 9223372036854775807) : Lib.atoiAll (Lib.itoa v) = .ok v := by
  unfold Lib.itoa
  by_cases h : v < 0
  · rw [if_pos h]
    obtain ⟨c, r, e, hc⟩ := dec_first v.natAbs
    have hp := parse_dec v.natAbs (by omega)
    simp only [Lib.atoiAll, Lib.parseMag]
    rw [show (if UInt8.toNat 45 = 43 ∨ UInt8.toNat 45 = 45 then Lib.decDigits v.natAbs else 45 :: Lib.decDigits v.natAbs) = Lib.decDigits v.natAbs from if_pos (.inr rfl), if_neg (by rw [e]; simp), hp]
    simp only
    rw [if_neg (by simp), if_neg (by simp; omega), if_pos (by decide)]
    congr 1
    omega
  · rw [if_neg h]
    have hp := parse_dec v.toNat (by omega)
    obtain ⟨c, r, e, hc⟩ := dec_first v.toNat
    rw [e] at hp ⊢
    simp only [Lib.atoiAll, Lib.parseMag]
    rw [show (if c.toNat = 43 ∨ c.toNat = 45 then r else c :: r) = c :: r from if_neg (by omega), if_neg (by simp), hp]
    simp only
    rw [if_neg (by omega), if_neg (by omega), if_neg (by omega)]
    congr 1
    omega
theorem itoa_mem (v : Int) : ∀ b ∈ Lib.itoa v, b.toNat = 45 ∨ (48 ≤ b.toNat ∧ b.toNat ≤ 57) := by
  intro b hb
  unfold Lib.itoa at hb
  split at hb
  · rcases List.mem_cons.1 hb with rfl | hb
    · exact .inl rfl
    · exact .inr (dec_mem _ b hb)
  · exact .inr (dec_mem _ b hb)
theorem itoa_last (v : Int) : ∃ a c, Lib.itoa v = a ++ [c] ∧ 48 ≤ c.toNat ∧ c.toNat ≤ 57 := by
  unfold Lib.itoa
  split
  · obtain ⟨a, c, e, h⟩ := dec_last v.natAbs
    exact ⟨45 :: a, c, by rw [e]; rfl, h⟩
  · exact dec_last _
theorem itoa_first (v : Int) : ∃ c r, Lib.itoa v = c :: r ∧ (c.toNat = 45 ∨ (48 ≤ c.toNat ∧ c.toNat ≤ 57)) := by
  have hm := itoa_mem v
  obtain ⟨a, c, e, h⟩ := itoa_last v
  rw [e] at hm ⊢
  cases a with
  | nil => exact ⟨c, [], rfl, .inr h⟩
  | cons x a => exact ⟨x, a ++ [c], rfl, hm x (by simp)⟩
theorem itoa_no (v : Int) (c : UInt8) (h : c.toNat ≠ 45) (h' : c.toNat < 48 ∨ 57 < c.toNat) : c ∉ Lib.itoa v := by
  intro hm
  have := itoa_mem v c hm
  omega

/-- What a line says: nothing, a label, an instruction. -/
inductive Lw where
  | no
  | lab (x : List UInt8)
  | ins (x : Ins) (l : List UInt8)
def Lw.is (s : List UInt8) : Lw → Prop
  | .no => saidM s = []
  | .lab x => saidM s ≠ [] ∧ Lib.hasSuffix (saidM s) [58] = true ∧ Lib.trimSuffix (saidM s) [58] = x ∧ nameB x = true
  | .ins x l => saidM s ≠ [] ∧ Lib.hasSuffix (saidM s) [58] = false ∧ ∀ i, instrM i (saidM s) = .ok ⟨i, x, l⟩
def Lw.run (i : Int) (p : Pst) : Lw → Option Pst
  | .no => some p
  | .lab x => if (findM p.ls x).isSome = true then none else if p.ls.length = 400 then none else some ⟨p.ls ++ [(x, (p.ds.length : Int))], p.ds⟩
  | .ins x l => if p.ds.length = 400 then none else some ⟨p.ls, p.ds ++ [⟨i, x, l⟩]⟩
theorem Lw.take {s : List UInt8} {w : Lw} {i : Int} {p q : Pst} (h : w.is s) (hr : w.run i p = some q) : takeM i (saidM s) p = .ok q := by
  cases w with
  | no =>
    simp only [Lw.is, Lw.run, Option.some.injEq] at h hr
    subst hr
    unfold takeM
    rw [if_pos h]
  | lab x =>
    obtain ⟨h1, h2, h3, h4⟩ := h
    simp only [Lw.run] at hr
    unfold takeM
    rw [if_neg h1, if_pos h2, h3]
    unfold labelM
    rw [if_neg (by rw [h4]; simp)]
    split at hr
    · cases hr
    · split at hr
      · cases hr
      · rename_i a b
        rw [if_neg a, if_neg b]
        simp only [Option.some.injEq] at hr
        rw [hr]
  | ins x l =>
    obtain ⟨h1, h2, h3⟩ := h
    simp only [Lw.run] at hr
    unfold takeM
    rw [if_neg h1, if_neg (by rw [h2]; simp), h3]
    split at hr
    · cases hr
    · rename_i a
      simp only
      rw [if_neg a]
      simp only [Option.some.injEq] at hr
      rw [hr]
def Lws : List (List UInt8) → List Lw → Prop
  | [], [] => True
  | l :: ls, w :: ws => w.is l ∧ Lws ls ws
  | _, _ => False
def runL : Int → List Lw → Pst → Option Pst
  | _, [], p => some p
  | i, w :: ws, p =>
    match w.run (i + 1) p with
    | none => none
    | some q => runL (i + 1) ws q
theorem Lws.all : ∀ {ls : List (List UInt8)} {ws : List Lw} {i : Int} {p q : Pst}, Lws ls ws → runL i ws p = some q → takeAll i (ls.map bs) p = .ok q
  | [], [], i, p, q, _, hr => by
    simp only [runL, Option.some.injEq] at hr
    subst hr
    rfl
  | l :: ls, w :: ws, i, p, q, h, hr => by
    simp only [runL] at hr
    cases hw : w.run (i + 1) p with
    | none => rw [hw] at hr; cases hr
    | some r =>
      rw [hw] at hr
      simp only [List.map_cons, takeAll]
      have := Lw.take h.1 hw
      rw [this]
      exact Lws.all h.2 hr
  | [], _ :: _, _, _, _, h, _ => h.elim
  | _ :: _, [], _, _, _, h, _ => h.elim
def txt (ls : List (List UInt8)) : List UInt8 := ls.flatMap (· ++ [10])
theorem lines_txt (ls : List (List UInt8)) (h : ∀ l ∈ ls, (10 : UInt8) ∉ l) : linesM (bs (txt ls)) = (ls ++ [[]]).map bs := by
  induction ls with
  | nil => rfl
  | cons l ls ih =>
    have h1 := h l (by simp)
    have h2 := ih (fun x hx => h x (by simp [hx]))
    have hi : Lib.indexB (bs (txt (l :: ls))) ⟨#[10]⟩ = l.length := by
      show Lib.index (txt (l :: ls)) [10] = l.length
      rw [show txt (l :: ls) = l ++ 10 :: txt ls by simp [txt]]
      exact index_at _ _ _ h1
    have hd : (bs (txt (l :: ls))).extract (l.length + 1) (bs (txt (l :: ls))).size = bs (txt ls) := by
      have e := Lib.extract_to_end (bs (txt (l :: ls))) (l.length + 1)
      rw [← bs_data ((bs (txt (l :: ls))).extract (l.length + 1) (bs (txt (l :: ls))).size), e]
      simp [txt]
    have hz : (bs (txt (l :: ls))).extract 0 (l.length + 0) = bs l := by
      have e := Lib.extract_from_zero (bs (txt (l :: ls))) (l.length + 0)
      rw [← bs_data ((bs (txt (l :: ls))).extract 0 (l.length + 0)), e]
      simp [txt]
    have hc : Lib.countB (bs (txt (l :: ls))) ⟨#[10]⟩ = Lib.countB (bs (txt ls)) ⟨#[10]⟩ + 1 := by
      rw [Lib.countB_hit _ _ _ (by decide) hi, show (⟨#[10]⟩ : ByteArray).size = 1 from rfl, hd, Nat.add_comm]
    unfold linesM at h2 ⊢
    rw [hc, Lib.splitB_hit _ _ _ _ _ hi, show (⟨#[10]⟩ : ByteArray).size = 1 from rfl, hd, hz, h2]
    simp
/-- A text is read line by line. -/
theorem parse_txt {ls : List (List UInt8)} {ws : List Lw} {p : Pst} {r : List Ins} (h10 : ∀ l ∈ ls, (10 : UInt8) ∉ l) (hz : (txt ls).length ≤ 65536) (hw : Lws ls ws) (hr : runL 0 ws ⟨[], []⟩ = some p) (hs : setAll p p.ds [] = .ok r) (hn : r ≠ []) : parseM (bs (txt ls)) = .ok r := by
  unfold parseM
  rw [if_neg (by simp only [bs, ByteArray.size, List.size_toArray]; omega), lines_txt ls h10]
  have ht : takeAll 0 ((ls ++ [[]]).map bs) ⟨[], []⟩ = .ok p := by
    have aux : ∀ (ls : List (List UInt8)) (ws : List Lw), Lws ls ws → Lws (ls ++ [[]]) (ws ++ [.no]) := by
      intro ls
      induction ls with
      | nil => intro ws h; cases ws with
        | nil => exact ⟨rfl, trivial⟩
        | cons => exact h.elim
      | cons l ls ih => intro ws h; cases ws with
        | nil => exact h.elim
        | cons w ws => exact ⟨h.1, ih ws h.2⟩
    have aux2 : ∀ (ws : List Lw) (i : Int) (p q : Pst), runL i ws p = some q → runL i (ws ++ [.no]) p = some q := by
      intro ws
      induction ws with
      | nil => intro i p q h; exact h
      | cons w ws ih =>
        intro i p q h
        simp only [List.cons_append, runL] at h ⊢
        cases hw : w.run (i + 1) p with
        | none => rw [hw] at h; cases h
        | some r => rw [hw] at h; exact ih _ _ _ h
    exact Lws.all (aux ls ws hw) (aux2 ws 0 _ p hr)
  rw [ht]
  simp only
  rw [hs]
  simp only
  rw [if_neg hn]
theorem cut_gone (l : List UInt8) (h : (59 : UInt8) ∉ l) : (Lib.cut l [59]).1 = l := by
  unfold Lib.cut
  rw [index_gone l 59 h, if_neg (by decide)]
theorem push_said (v : Int) : saidM (9 :: 112 :: 117 :: 115 :: 104 :: 32 :: Lib.itoa v) = 112 :: 117 :: 115 :: 104 :: 32 :: Lib.itoa v := by
  unfold saidM
  rw [cut_gone _ (by
    have := itoa_no v 59 (by decide) (by decide)
    simp [this])]
  obtain ⟨a, c, e, hc⟩ := itoa_last v
  have hr : Lib.trimRightS (9 :: 112 :: 117 :: 115 :: 104 :: 32 :: Lib.itoa v) [32, 9] = 9 :: 112 :: 117 :: 115 :: 104 :: 32 :: Lib.itoa v := by
    have c1 : ¬ c = 32 := fun e => by subst e; simp at hc
    have c2 : ¬ c = 9 := fun e => by subst e; simp at hc
    unfold Lib.trimRightS
    rw [e]
    simp [List.dropWhile_cons, c1, c2]
  unfold Lib.trimS
  rw [hr]
  rfl
/-- A line that pushes a number. -/
theorem push_line (v : Int) (h0 : -9223372036854775808 ≤ v) (h1 : v ≤ 9223372036854775807) : (Lw.ins ⟨1, v⟩ []).is (9 :: 112 :: 117 :: 115 :: 104 :: 32 :: Lib.itoa v) := by
  have hs := push_said v
  have hp : Lib.indexAny (112 :: 117 :: 115 :: 104 :: 32 :: Lib.itoa v) [32, 9] = 4 := by rfl
  have ht : tailOf (112 :: 117 :: 115 :: 104 :: 32 :: Lib.itoa v) = Lib.itoa v := by
    unfold tailOf
    rw [hp, if_pos (by decide)]
    obtain ⟨c, r, e, hc⟩ := itoa_first v
    have c1 : ¬ c = 32 := fun e => by subst e; simp at hc
    have c2 : ¬ c = 9 := fun e => by subst e; simp at hc
    rw [e]
    show Lib.trimLeftS (32 :: c :: r) [32, 9] = c :: r
    unfold Lib.trimLeftS
    simp [List.dropWhile_cons, c1, c2]
  have hwd : wordOf (112 :: 117 :: 115 :: 104 :: 32 :: Lib.itoa v) = [112, 117, 115, 104] := by
    unfold wordOf
    rw [hp, if_pos (by decide)]
    rfl
  refine ⟨by rw [hs]; simp, ?_, fun i => ?_⟩
  · rw [hs]
    obtain ⟨a, c, e, hc⟩ := itoa_last v
    have c1 : ¬ 58 = c := fun e => by subst e; simp at hc
    rw [e]
    simp [Lib.hasSuffix, List.isSuffixOf, List.isPrefixOf, c1]
  · rw [hs]
    unfold instrM
    rw [hwd, ht, show opM [112, 117, 115, 104] = some 1 by kernel_rfl]
    simp only
    unfold operM
    rw [if_neg (by decide), if_neg (by intro h; exact absurd h.1 (by decide))]
    have hn : numM (Lib.itoa v) = some v := by
      unfold numM
      rw [atoi_itoa v h0 h1]
      simp
    rw [hn]
    simp only
    rw [if_pos (by rfl)]
    rfl
end Go.Proofs.YtmoekoilcdkhfaaGreatDoor
