/- Package opaque: what memory holds: newMemory, at, explains. -/
import Derived.Test.YtnmlnjljmikmpaaOg
namespace Go.Proofs.Ytnmlnjljmikmpaa
open Go.RowKit Go.Shelf
open Go.Maps (Keyed)
set_option linter.unusedVariables false
set_option linter.unusedSimpArgs false
attribute [local go_sem ↓] Go.wp_at_zero Go.wp_at_succ

/-- The pairs of a map tell what it has. -/
def ValR (ls : List Pr) (op : Int → Option Int) : Prop := ∀ x v, (x, v) ∈ ls ↔ op x = some v
theorem valR_nil : ValR [] (fun _ => none) := fun x v => by simp
theorem valR_none {ls : List Pr} {op : Int → Option Int} (h : ValR ls op) {x : Int} (hx : op x = none) : ∀ p ∈ ls, p.1 ≠ x := by
  rintro ⟨a, b⟩ hp rfl
  have := (h a b).1 hp
  simp only at hx
  rw [hx] at this
  cases this
theorem turnP_mem {ls : List Pr} {x v y u : Int} (hx : ∃ z, (x, z) ∈ ls) : (y, u) ∈ turnP ls x v ↔ (y = x ∧ u = v) ∨ (y ≠ x ∧ (y, u) ∈ ls) := by
  unfold turnP
  rw [List.mem_map]
  constructor
  · rintro ⟨⟨a, b⟩, hp, he⟩
    simp only at he
    split at he
    · simp only [Prod.mk.injEq] at he
      exact .inl ⟨he.1.symm, he.2.symm⟩
    · rename_i hne
      simp only [Prod.mk.injEq] at he
      obtain ⟨rfl, rfl⟩ := he
      exact .inr ⟨hne, hp⟩
  · rintro (⟨rfl, rfl⟩ | ⟨hne, hp⟩)
    · obtain ⟨z, hz⟩ := hx
      exact ⟨_, hz, by simp⟩
    · exact ⟨_, hp, by simp [hne]⟩
theorem Try.zeroI64 (w : World) : (zeroValue 2).run Try.prog w = .ok (.int .i64 0) w := by simp [go_sem]
theorem mapPut {o w : World} {R : List It} {b : Nat} {ls : List Pr} {op : Int → Option Int} (h : St o (mapV b ls :: R) w) (hv : ValR ls op) {x : Int} (v : Int) (hx : -9223372036854775808 ≤ x ∧ x ≤ 9223372036854775807) :
    ∃ w' ls', (Instr.mapUpdate 61 (.map (some b)) (.int .i64 x) (.int .i64 v)).run Try.prog w = .ok () w' ∧ ValR ls' (ownSet op x v) ∧ St o (mapV b ls' :: R) w' := by
  cases ho : op x with
  | none =>
    obtain ⟨w', h1, _, h2⟩ := storeV_new (P := Try.prog) (t := 61) (k := 3) (e := 2) (v := v) h Try.underlying3 Try.underlying61 hx (valR_none hv ho)
    refine ⟨w', _, h1, fun y u => ?_, h2⟩
    unfold ownSet
    by_cases e : y = x
    · subst e
      simp only [if_true, List.mem_cons, Prod.mk.injEq, true_and, Option.some.injEq]
      constructor
      · rintro (rfl | hm)
        · rfl
        · have := (hv y u).1 hm
          rw [ho] at this
          cases this
      · rintro rfl
        exact .inl rfl
    · simp only [if_neg e, List.mem_cons, Prod.mk.injEq, e, false_and, false_or]
      exact hv y u
  | some v0 =>
    have hm := (hv x v0).2 ho
    obtain ⟨w', h1, _, h2⟩ := storeV_old (P := Try.prog) (t := 61) (k := 3) (e := 2) (v := v) h Try.underlying3 Try.underlying61 hm
    refine ⟨w', _, h1, fun y u => ?_, h2⟩
    rw [turnP_mem ⟨v0, hm⟩]
    unfold ownSet
    by_cases e : y = x
    · subst e
      simp only [if_true, true_and, ne_eq, not_true_eq_false, false_and, or_false, Option.some.injEq]
      exact eq_comm
    · simp only [e, false_and, false_or, ne_eq, not_false_eq_true, true_and, if_false]
      exact hv y u
theorem mapLook {w : World} {b : Nat} {ls : List Pr} {op : Int → Option Int} (h : MapV w b ls) (hv : ValR ls op) {x : Int} (hx : -9223372036854775808 ≤ x ∧ x ≤ 9223372036854775807) :
    (Instr.lookup 61 (.map (some b)) (.int .i64 x) true).run Try.prog w = .ok (.tuple #[.int .i64 ((op x).getD 0), .bool (op x).isSome]) w := by
  cases ho : op x with
  | none => exact lookV_none (P := Try.prog) (k := 3) (e := 2) h Try.underlying3 Try.underlying61 (Try.zeroI64 w) hx (valR_none hv ho)
  | some v0 => exact lookV_some (P := Try.prog) (k := 3) (e := 2) h Try.underlying3 Try.underlying61 ((hv x v0).2 ho)
theorem MapV.kept {w w' : World} {b : Nat} {ls : List Pr} (h : MapV w b ls) (k : Kept (fun _ => False) w w') : MapV w' b ls := (mapV b ls).loc w w' (fun c hc => k.block c ((mapV b ls).old w h c hc) (fun f => f)) h
/-- What cells hold, where some of them are told by a map. -/
def memO (start : List Int) (ov : Int → Option Int) : Mem := fun c => (ov c).getD (startM start c)
theorem memO_nil (start : List Int) : memO start (fun _ => none) = startM start := rfl
theorem memO_set (start : List Int) (ov : Int → Option Int) (c x : Int) : memO start (ownSet ov c x) = upd (memO start ov) c x := by
  funext y
  unfold memO ownSet upd
  by_cases e : y = c <;> simp [e]
theorem startM_at {start : List Int} {c : Nat} (h : c < start.length) : startM start (c : Int) = start[c] := by simp [startM, h]
theorem startM_no {start : List Int} {c : Int} (h : ¬ (0 ≤ c ∧ c < (start.length : Int))) : startM start c = 0 := by
  unfold startM
  split
  · rename_i h0
    rw [List.getD_eq_getElem?_getD, List.getElem?_eq_none (by omega)]
    rfl
  · rfl
abbrev memV (sa : Option Addr) (sn sc mb : Nat) : Value := .agg #[.slice sa sn sc, .map (some mb)]
set_option maxRecDepth 100000 in
set_option maxHeartbeats 4000000 in
theorem at_any {w : World} {sa : Option Addr} {sn sc mb : Nat} {start : List Int} {ls : List Pr} {ov : Int → Option Int} (hs : RIn iC w sa sn start) (hm : MapV w mb ls) (hv : ValR ls ov) (c : Int) (hc : -9223372036854775808 ≤ c ∧ c ≤ 9223372036854775807) (hsn : (sn : Int) ≤ 9223372036854775807) :
    Calls Try.prog 50 #[memV sa sn sc mb, .int .i64 c] w fun e w' => e = .returned (.int .i64 (memO start ov c)) ∧ Kept (fun _ => False) w w' := by
  have a1 := (St.nil w).box #[.slice sa sn sc, .map (some mb)] 63
  have hk1 := kept_alloc w (.cells #[.slice sa sn sc, .map (some mb)] 63)
  unfold memV
  generalize hw1 : w.alloc (.cells #[.slice sa sn sc, .map (some mb)] 63) = w1 at *
  generalize hE : w.heap.size = E at *
  have hlk := mapLook (hm.kept hk1) hv hc
  have c0 := a1.cell 0 rfl 0
  have c1 := a1.cell 0 rfl 1
  have HS := hid (hs.kept hk1)
  have HSN := hid hs.1
  have HK := hid hk1
  clear a1 hk1 hm hv hs
  unfold memO
  cases ho : ov c with
  | some x =>
    rw [ho] at hlk
    simp only [Option.getD_some, Option.isSome_some] at hlk ⊢
    clear ho
    go_enter Try.func50, Try.ntmps50
    go_wp2_with (first | simp only [hw1, hE] | simp only [hlk])
    go_ret
    exact ⟨rfl, HK.out⟩
  | none =>
    rw [ho] at hlk
    simp only [Option.getD_none, Option.isSome_none] at hlk ⊢
    clear ho
    by_cases h0 : 0 ≤ c
    · by_cases h1 : c < (sn : Int)
      · have t0 : decide (0 ≤ c) = true := by simpa using h0
        have t1 : decide (c < (sn : Int)) = true := by simpa using h1
        obtain ⟨k, rfl⟩ : ∃ k : Nat, c = (k : Int) := ⟨c.toNat, by omega⟩
        have hkl : k < start.length := by have := HSN.out; omega
        have HV := hid (startM_at hkl)
        obtain ⟨g, off, rfl⟩ := HS.out.addr (by omega)
        have q0 := HS.out.at (k := 1) (fun _ => rfl) (List.getElem?_eq_getElem hkl) 0 _ rfl
        rw [Nat.mul_one, Nat.add_zero] at q0
        generalize start[k] = z at *
        clear hkl HSN
        go_enter Try.func50, Try.ntmps50
        go_wp2_with (first | simp only [hw1, hE] | simp only [hlk])
        go_ret
        exact ⟨by rw [HV.out]; rfl, HK.out⟩
      · have t0 : decide (0 ≤ c) = true := by simpa using h0
        have t1 : decide (c < (sn : Int)) = false := by simpa using h1
        have HV := hid (startM_no (start := start) (c := c) (by have := HSN.out; omega))
        clear HSN h0 h1
        go_enter Try.func50, Try.ntmps50
        go_wp2_with (first | simp only [hw1, hE] | simp only [hlk])
        go_ret
        exact ⟨by rw [HV.out]; rfl, HK.out⟩
    · have t0 : decide (0 ≤ c) = false := by simpa using h0
      have HV := hid (startM_no (start := start) (c := c) (by omega))
      clear HSN h0
      go_enter Try.func50, Try.ntmps50
      go_wp2_with (first | simp only [hw1, hE] | simp only [hlk])
      go_ret
      exact ⟨by rw [HV.out]; rfl, HK.out⟩
end Go.Proofs.Ytnmlnjljmikmpaa
