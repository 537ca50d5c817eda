/- What of the library's variables is asked; the library's calls over lists of bytes; maps of labels. -/
import Derived.Test.YtcchflfeomainaaGreatDoorPsM
import Derived.Test.YtcchflfeomainaaGreatDoorShelf
import Derived.Test.YtcchflfeomainaaGreatDoorChecked
import Derived.Maps.Keyed
import Derived.Maps.OwnSet
namespace Go.Proofs.YtcchflfeomainaaGreatDoor
open Go.RowKit Go.MapKept
open Go.ChangeMaps (setBlock heap_setBlock_same heap_setBlock_other)
open Go.Maps (Keyed)
set_option linter.unusedVariables false
set_option linter.unusedSimpArgs false

theorem kept_below {w w' : World} (h : Below w.heap.size w w') : Kept (fun _ => False) w w' := ⟨h.os, h.tape, h.output, h.size, fun k hk _ => h.block k hk⟩
theorem var_kept {P : Program} {w w' : World} {n : String} {cs : Array Value} (h : w.var? P n = some cs) (k : Kept (fun _ => False) w w') : w'.var? P n = some cs := by
  unfold World.var? at *
  cases hg : P.globalNamed n with
  | none => simp [hg] at h
  | some g =>
    simp only [hg, Option.bind_some] at h ⊢
    cases hb : w.heap[g]? with
    | none => simp [hb] at h
    | some o => rw [k.block g (lt_of_heap hb) (fun f => f)]; exact h
/-- What a text's reader asks of the library's variables. -/
structure Env (w : World) : Prop where
  ml : ∃ m, w.cell? ⟨Tryz.laysM145_ren.g 1, 0, none⟩ = some (.int .i64 m)
  pw : Lib.TabIs Tryz.prog w "internal/strconv.uint64pow10" .u64 Lib.pow10Tab
  es : ∃ tp p, w.var? Tryz.prog "strconv.ErrSyntax" = some #[.iface tp p]
  er : ∃ tp p, w.var? Tryz.prog "strconv.ErrRange" = some #[.iface tp p]
theorem Env.kept {w w' : World} (h : Env w) (k : Kept (fun _ => False) w w') : Env w' := by
  obtain ⟨⟨m, h1⟩, h2, ⟨a, b, h3⟩, ⟨c, d, h4⟩⟩ := h
  refine ⟨⟨m, ?_⟩, var_kept h2 k, ⟨a, b, var_kept h3 k⟩, ⟨c, d, var_kept h4 k⟩⟩
  rw [World.cell?_of_block (k.block _ (World.block_lt_of_cell? w _ h1) (fun f => f))]
  exact h1
section
variable {w : World}
theorem drewN_kept (n : Nat) : Kept (fun _ => False) w (w.drewN n) := (Kept.refl _ w).drewN n
theorem cut_any (l : List UInt8) (hE : Env w) (hl : l.length ≤ 65536) : Calls Tryz.prog 71 #[.string (bs l), .string ⟨#[59]⟩] w fun e w' => e = .returned (.tuple #[.string (bs (Lib.cut l [59]).1), .string (bs (Lib.cut l [59]).2.1), .bool (Lib.cut l [59]).2.2]) ∧ Kept (fun _ => False) w w' := by
  obtain ⟨m, hm⟩ := hE.ml
  refine (Any.strings_Cut { Tryz.laysM145 with } (bs l) ⟨#[59]⟩ m w (by simp [ByteArray.size]; omega) hm).mono ?_
  rintro e w' ⟨rfl, n, rfl⟩
  exact ⟨rfl, drewN_kept n⟩
theorem trim_any (l : List UInt8) (hl : l.length ≤ 65536) : Calls Tryz.prog 72 #[.string (bs l), .string ⟨#[32, 9]⟩] w fun e w' => e = .returned (.string (bs (Lib.trimS l [32, 9]))) ∧ Kept (fun _ => False) w w' := by
  refine (Any.strings_Trim_laid Tryz.lays160 (by kernel_rfl) (bs l) ⟨#[32, 9]⟩ w (by simp [ByteArray.size]; omega) (by decide) (ascii_of_all (by decide))).mono ?_
  rintro e w' ⟨rfl, k⟩
  exact ⟨rfl, kept_below k⟩
theorem trimLeft_any (l : List UInt8) (hl : l.length ≤ 65536) : Calls Tryz.prog 83 #[.string (bs l), .string ⟨#[32, 9]⟩] w fun e w' => e = .returned (.string (bs (Lib.trimLeftS l [32, 9]))) ∧ Kept (fun _ => False) w w' := by
  refine (Any.strings_TrimLeft_laid Tryz.lays161 (by kernel_rfl) (bs l) ⟨#[32, 9]⟩ w (by decide) (ascii_of_all (by decide))).mono ?_
  rintro e w' ⟨rfl, k⟩
  exact ⟨rfl, kept_below k⟩
theorem cutSuffix_any (l : List UInt8) (hl : l.length ≤ 65536) : Calls Tryz.prog 68 #[.string (bs l), .string ⟨#[58]⟩] w fun e w' => e = .returned (.tuple #[.string (bs (Lib.trimSuffix l [58])), .bool (Lib.hasSuffix l [58])]) ∧ w' = w := by
  refine (Tryz.strings_CutSuffix (bs l) ⟨#[58]⟩ w (by simp [ByteArray.size]; omega)).mono ?_
  rintro e w' ⟨rfl, rfl⟩
  exact ⟨rfl, rfl⟩
theorem split_any (s : ByteArray) (hE : Env w) (hl : s.size ≤ 65536) : Calls Tryz.prog 61 #[.string s, .string ⟨#[10]⟩] w fun e w' => e = .returned (.slice (some ⟨w.heap.size, 0, none⟩) (Lib.countB s ⟨#[10]⟩ + 1) (Lib.countB s ⟨#[10]⟩ + 1)) ∧ w' = w.alloc (.cells ((linesM s).map Value.string).toArray 9) := by
  obtain ⟨m, hm⟩ := hE.ml
  exact Any.strings_Split { Tryz.laysM146 with } (by kernel_rfl) s ⟨#[10]⟩ m w (by omega) hm (by decide)
theorem itoa_any (n : Int) (h0 : -9223372036854775808 ≤ n) (h1 : n ≤ 9223372036854775807) (hE : Env w) : Calls Tryz.prog 37 #[.int .i64 n] w fun e w' => e = .returned (.string (bs (Lib.itoa n))) ∧ Kept (fun _ => False) w w' := by
  refine (Tryz.strconv_Itoa n h0 h1 w hE.pw).mono ?_
  rintro e w' ⟨rfl, k, os, rfl⟩
  exact ⟨rfl, ⟨rfl, rfl, rfl, by simp [Go.Sort.grow, World.drewN], fun k hk _ => by simp only [Go.Sort.grow]; rw [Array.getElem?_append_left (by exact hk)]; rfl⟩⟩
theorem atoi_any (l : List UInt8) (hl : l.length ≤ 65536) (hE : Env w) : Calls Tryz.prog 108 #[.string (bs l)] w fun e w' => Kept (fun _ => False) w w' ∧ ((∃ v, Lib.atoiAll l = .ok v ∧ e = .returned (.tuple #[.int .i64 v, .nilIface])) ∨ ((∀ v, Lib.atoiAll l ≠ .ok v) ∧ ∃ v N, e = .returned (.tuple #[.int .i64 v, .iface 176 (.pointer (some ⟨N, 0, none⟩))]))) := by
  cases h : Lib.atoiAll l with
  | ok v =>
    refine (Tryz.strconv_Atoi_ok (bs l) (by simp [ByteArray.size]; omega) v h w).mono ?_
    rintro e w' ⟨rfl, hw⟩
    refine ⟨?_, .inl ⟨v, rfl, rfl⟩⟩
    rcases hw with rfl | ⟨t, rfl⟩
    · exact Kept.refl _ _
    · exact kept_below (Lib.bytesWorld_below w 5 t)
  | «syntax» =>
    obtain ⟨tp, p, hv⟩ := hE.es
    refine (Tryz.strconv_Atoi_syntax_var (bs l) (by simp [ByteArray.size]; omega) h tp p w hv).mono ?_
    rintro e w' ⟨N, rfl, _, _, hb⟩
    exact ⟨kept_below hb, .inr ⟨fun v e => (by cases e), _, N, rfl⟩⟩
  | range =>
    obtain ⟨tp, p, hv⟩ := hE.er
    refine (Tryz.strconv_Atoi_range_var (bs l) (by simp [ByteArray.size]; omega) h tp p w hv).mono ?_
    rintro e w' ⟨N, rfl, _, _, hb⟩
    exact ⟨kept_below hb, .inr ⟨fun v e => (by cases e), _, N, rfl⟩⟩
/-- Texts at which the search for a blank was proved: those of more than eight bytes, and shorter ones of ASCII. -/
def Plain8 (l : List UInt8) : Prop := l.length ≤ 8 → ∀ b ∈ l, b.toNat < 128
theorem indexAny_any (l : List UInt8) (hl : l.length ≤ 65536) (h8 : Plain8 l) : Calls Tryz.prog 82 #[.string (bs l), .string ⟨#[32, 9]⟩] w fun e w' => e = .returned (.int .i64 (Lib.indexAny l [32, 9])) ∧ Kept (fun _ => False) w w' := by
  by_cases h : l.length ≤ 8
  · refine (Tryz.strings_IndexAny_laid (bs l) ⟨#[32, 9]⟩ w (by simp [ByteArray.size]; omega) (by decide) (fun j b hb => h8 h b (List.mem_of_getElem? (by simpa using hb))) (ascii_of_all (by decide))).mono ?_
    rintro e w' ⟨rfl, k⟩
    exact ⟨rfl, kept_below k⟩
  · refine (Tryz.strings_IndexAny_long (fun w => by kernel_rfl) (bs l) ⟨#[32, 9]⟩ w (by decide) (by simp [ByteArray.size]; omega) (by simp [ByteArray.size]; omega) (by decide) (ascii_of_all (by decide))).mono ?_
    rintro e w' ⟨rfl, rfl⟩
    exact ⟨rfl, ((Kept.refl _ w).alloc _).alloc _⟩
end
/-- Block b is the map of these labels. -/
def MapL (w : World) (b : Nat) (ls : List Lab) : Prop :=
  ∃ es clock, w.heap[b]? = some (.map es clock) ∧ es.toList.map (fun e => (e.key, e.val)) = ls.map (fun p => (Value.string (bs p.1), Value.int .i64 p.2)) ∧ ∀ p ∈ ls, p.1.length ≤ 65536
def mapI (b : Nat) (ls : List Lab) : It :=
  ⟨[b], fun w => MapL w b ls, fun w w' h p => by
    obtain ⟨es, c, hb, r⟩ := p
    exact ⟨es, c, (h b (List.mem_singleton.2 rfl)).trans hb, r⟩, fun w p k hk => by
    obtain ⟨es, c, hb, r⟩ := p
    rw [List.mem_singleton.1 hk]
    exact lt_of_heap hb⟩
theorem bs_inj {a b : List UInt8} (h : Value.string (bs a) = .string (bs b)) : a = b := by
  simp only [Value.string.injEq, bs, ByteArray.mk.injEq] at h
  simpa using congrArg Array.toList h
theorem key_bs {l : List UInt8} (hl : l.length ≤ 65536) : ∃ x, keyOf Tryz.prog 9 (.string (bs l)) = some x := ⟨_, WideMaps.keyOf_string_mk Tryz.underlying9 (by unfold maxLen; simp [ByteArray.size]; omega)⟩
theorem lawS : Keyed Tryz.prog 9 := Go.Maps.string_keyed Tryz.underlying9
theorem ents_at {es : List MapEntry} {ls : List Lab} (h : es.map (fun e => (e.key, e.val)) = ls.map (fun p => (Value.string (bs p.1), Value.int .i64 p.2))) : es.length = ls.length ∧ ∀ (j : Nat) (e : MapEntry), es[j]? = some e → ∃ p, ls[j]? = some p ∧ e.key = .string (bs p.1) ∧ e.val = .int .i64 p.2 := by
  have hl := congrArg List.length h
  simp only [List.length_map] at hl
  refine ⟨hl, fun j e hj => ?_⟩
  have := congrArg (·[j]?) h
  simp only [List.getElem?_map, hj, Option.map_some] at this
  cases hp : ls[j]? with
  | none => simp [hp] at this
  | some p =>
    simp only [hp, Option.map_some, Option.some.injEq, Prod.mk.injEq] at this
    exact ⟨p, rfl, this.1, this.2⟩
section
variable {w : World} {b : Nat} {ls : List Lab}
theorem MapL.keys (h : MapL w b ls) : ∀ es c, w.heap[b]? = some (.map es c) → ∀ e ∈ es.toList, ∃ l, keyOf Tryz.prog 9 e.key = some l := by
  intro es c hb e he
  obtain ⟨es', c', hb', hm, hk⟩ := h
  rw [hb] at hb'
  simp only [Option.some.injEq, Obj.map.injEq] at hb'
  obtain ⟨rfl, rfl⟩ := hb'
  obtain ⟨j, hj, rfl⟩ := List.getElem_of_mem he
  obtain ⟨p, hp, hk1, _⟩ := (ents_at hm).2 j _ (List.getElem?_eq_getElem hj)
  rw [hk1]
  exact key_bs (hk p (List.mem_of_getElem? hp))
theorem findM_none {x : List UInt8} (h : ∀ p ∈ ls, p.1 ≠ x) : findM ls x = none := by
  unfold findM
  rw [List.find?_eq_none.2 (fun p hp => by simpa using h p hp)]
  rfl
theorem MapL.look (h : MapL w b ls) (hd : ls.Pairwise (fun p q => p.1 ≠ q.1)) {x : List UInt8} (hx : x.length ≤ 65536) :
    (Instr.lookup 114 (.map (some b)) (.string (bs x)) true).run Tryz.prog w = .ok (.tuple #[.int .i64 ((findM ls x).getD 0), .bool (findM ls x).isSome]) w := by
  have hkeys := h.keys
  obtain ⟨es, c, hb, hm, hk⟩ := h
  obtain ⟨l, hkx⟩ := key_bs hx
  have hz : (zeroValue 3).run Tryz.prog w = .ok (.int .i64 0) w := Tryz.zeroValue3 w
  rcases lawS.find w hkx es.toList (hkeys es c hb) with ⟨h1, h2⟩ | ⟨j, e0, h1, h2, h3⟩
  · have hf : findM ls x = none := findM_none (fun p hp e => by
      obtain ⟨j, hj, rfl⟩ := List.getElem_of_mem hp
      have hj' : j < es.toList.length := by rw [(ents_at hm).1]; exact hj
      obtain ⟨p', hp', k1, _⟩ := (ents_at hm).2 j _ (List.getElem?_eq_getElem hj')
      rw [List.getElem?_eq_getElem hj] at hp'
      cases hp'
      exact h2 _ (List.getElem_mem hj') (by rw [k1, e]))
    simp [Instr.lookup, run_underlying Tryz.underlying114, MapKept.run_getObj_map hb, lawS.check w _ hkx, h1, hz, Result.andThen, hf]
  · obtain ⟨p, hp, k1, k2⟩ := (ents_at hm).2 j e0 h2
    have e1 : p.1 = x := bs_inj (k1 ▸ h3)
    have hf : findM ls x = some p.2 := by
      unfold findM
      cases hq : ls.find? (fun p => p.1 == x) with
      | none => exact absurd (List.find?_eq_none.1 hq p (List.mem_of_getElem? hp)) (by simp [e1])
      | some q =>
        have q1 : q.1 = x := by simpa using List.find?_some hq
        have q2 := List.mem_of_find?_eq_some hq
        obtain ⟨i, hi, ei⟩ := List.getElem_of_mem q2
        obtain ⟨hj, ej⟩ := List.getElem?_eq_some_iff.1 hp
        have : q = p := by
          rcases Nat.lt_trichotomy i j with hlt | heq | hgt
          · exact absurd (by rw [ei, ej, q1, e1]) (List.pairwise_iff_getElem.1 hd i j hi hj hlt)
          · subst heq; rw [← ei, ej]
          · exact absurd (by rw [ei, ej, q1, e1]) (List.pairwise_iff_getElem.1 hd j i hj hi hgt)
        rw [this]; rfl
    simp [Instr.lookup, run_underlying Tryz.underlying114, MapKept.run_getObj_map hb, lawS.check w _ hkx, h1, Result.andThen, hf, k2]
theorem MapL.store (h : MapL w b ls) {x : List UInt8} (hx : x.length ≤ 65536) (hn : findM ls x = none) (v : Int) :
    ∃ w', (Instr.mapUpdate 114 (.map (some b)) (.string (bs x)) (.int .i64 v)).run Tryz.prog w = .ok () w' ∧ Kept (fun k => k = b) w w' ∧ MapL w' b (ls ++ [(x, v)]) := by
  have hkeys := h.keys
  obtain ⟨es, c, hb, hm, hk⟩ := h
  obtain ⟨l, hkx⟩ := key_bs hx
  rcases lawS.find w hkx es.toList (hkeys es c hb) with ⟨h1, h2⟩ | ⟨j, e0, h1, h2, h3⟩
  · refine ⟨setBlock w b (.map (es.push ⟨.string (bs x), .int .i64 v, c⟩) (c + 1)), ?_, ⟨rfl, rfl, rfl, by simp [setBlock], fun k _ hk => heap_setBlock_other hb _ hk⟩, ⟨_, _, heap_setBlock_same hb _, ?_, ?_⟩⟩
    · simp [Instr.mapUpdate, run_underlying Tryz.underlying114, MapKept.run_getObj_map hb, lawS.check w false hkx, h1, MapKept.run_setObj_map _ hb, Result.andThen, setBlock]
    · simp only [Array.toList_push, List.map_append, hm, List.map_cons, List.map_nil]
    · intro p hp
      rcases List.mem_append.1 hp with hp | hp
      · exact hk p hp
      · rw [List.mem_singleton.1 hp]; exact hx
  · obtain ⟨p, hp, k1, k2⟩ := (ents_at hm).2 j e0 h2
    have e1 : p.1 = x := bs_inj (k1 ▸ h3)
    unfold findM at hn
    rw [Option.map_eq_none_iff, List.find?_eq_none] at hn
    exact absurd (hn p (List.mem_of_getElem? hp)) (by simp [e1])
theorem MapL.len (h : MapL w b ls) (ty : TypeId) : (Builtin.len_ #[114] ty #[.map (some b)]).run Tryz.prog w = .ok (.int .i64 ls.length) w := by
  obtain ⟨es, c, hb, hm, hk⟩ := h
  have := (ents_at hm).1
  simp only [Array.length_toList] at this
  simp [Builtin.len_, run_underlying Tryz.underlying114, MapKept.run_getObj_map hb, goInt, Result.andThen, this]
theorem mapL_made (w : World) : MapL (w.alloc (.map #[] 0)) w.heap.size [] := ⟨#[], 0, heap_alloc_new w _, rfl, fun p hp => by cases hp⟩
end
end Go.Proofs.YtcchflfeomainaaGreatDoor
