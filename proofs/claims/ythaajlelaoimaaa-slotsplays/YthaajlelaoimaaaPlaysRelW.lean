/- Two tables of one meter and the document's: what holds of them between the steps. -/
import Derived.Test.YthaajlelaoimaaaDoesW
import Derived.Test.YthaajlelaoimaaaSameW
import Derived.Test.YthaajlelaoimaaaUpW
namespace Go.Proofs.Ythaajlelaoimaaa
open Go.RowKit
set_option linter.unusedVariables false
set_option linter.unusedSimpArgs false

/-- The blocks of a table of the code and of the document's. -/
structure Bl where
  t : Nat
  r : Nat
  c : Nat
  q : Nat
  f : Nat
  y : Nat
  g : Nat
/-- Both pairs, beside other things. -/
def pits (A B : Bl) (m n : Nat) (s : Mt) (v u : Value) (ha : List Hd) (wa : List Int) (hb : List Hd) (wb : List Int) : List It :=
  [refI B.y B.g n hb wb, refI A.y A.g n ha wa, tabI B.t B.r B.q, wdRowI B.q B.f (some m) 4 wb, hdRowI B.r B.c (some m) 3 hb, tabI A.t A.r A.q, wdRowI A.q A.f (some m) 4 wa, hdRowI A.r A.c (some m) 3 ha, meterI 29 (some n) s u, meterI 74 (some m) s v]
structure PRel (w : World) (A B : Bl) (m n na nb k : Nat) (s : Mt) (v u : Value) (ha : List Hd) (wa : List Int) (hb : List Hd) (wb : List Int) (W : World) : Prop where
  wi : s.within k
  oa : HsOk ha k
  ob : HsOk hb k
  la : ha.length = na
  lb : hb.length = nb
  xa : wa.length = na * 2
  xb : wb.length = nb * 2
  a1 : 1 ≤ na
  a8 : na ≤ 8
  b1 : 1 ≤ nb
  b8 : nb ≤ 8
  st : St w (pits A B m n s v u ha wa hb wb) W

section
variable {w W : World} {A B : Bl} {m n na nb k : Nat} {s : Mt} {v u : Value} {ha hb : List Hd} {wa wb : List Int}
theorem PRel.calm {W' : World} (a : PRel w A B m n na nb k s v u ha wa hb wb W) (kk : Kept (fun _ => False) W W') : PRel w A B m n na nb k s v u ha wa hb wb W' :=
  ⟨a.wi, a.oa, a.ob, a.la, a.lb, a.xa, a.xb, a.a1, a.a8, a.b1, a.b8, a.st.calm kk⟩
theorem PRel.drewN (a : PRel w A B m n na nb k s v u ha wa hb wb W) (q : Nat) : PRel w A B m n na nb k s v u ha wa hb wb (W.drewN q) := a.calm ⟨rfl, rfl, rfl, Nat.le_refl _, fun _ _ _ => rfl⟩
theorem spots_a (a : PRel w A B m n na nb k s v u ha wa hb wb W) : Spots (pits A B m n s v u ha wa hb wb) 9 5 7 6 8 1 A.t A.r A.c A.q A.f m n A.y A.g s v u ha wa := ⟨rfl, rfl, rfl, rfl, rfl, rfl, by rw [a.xa, a.la], by decide⟩
theorem spots_b (a : PRel w A B m n na nb k s v u ha wa hb wb W) : Spots (pits A B m n s v u ha wa hb wb) 9 2 4 3 8 0 B.t B.r B.c B.q B.f m n B.y B.g s v u hb wb := ⟨rfl, rfl, rfl, rfl, rfl, rfl, by rw [a.xb, a.lb], by decide⟩

/-- A step over the first pair. -/
theorem does_a (a : PRel w A B m n na nb k s v u ha wa hb wb W) (hk : k ≤ 2932031007317) {W1 : World} (hS : St w (pits A B m n s v u ha wa hb wb) W1) (oo : Bool) (kind os og on ox : Int) :
    Calls Try.prog 14 #[.pointer (some ⟨A.t, 0, none⟩), .pointer (some ⟨A.y, 0, none⟩), .agg #[.bool oo, .int .i64 kind, .int .i64 os, .int .i64 og, .int .i64 on, .int .u64 ox]] W1 fun e w' => e = .returned (.bool true) ∧
      ∃ s' v' u' ha' wa', PRel w A B m n na nb (k + 1) s' v' u' ha' wa' hb wb w' := by
  refine (does_st hS 9 5 7 6 8 1 (spots_a a) a.wi hk a.oa oo kind os og on ox).mono ?_
  rintro e w' ⟨he, s', v', u', ha', wa', h1, h2, h3, h4, h5⟩
  exact ⟨he, s', v', u', ha', wa', h2, h3, a.ob.more (Nat.le_succ _), h4.trans a.la, a.lb, h5.trans a.xa, a.xb, a.a1, a.a8, a.b1, a.b8, h1⟩
theorem does_b (a : PRel w A B m n na nb k s v u ha wa hb wb W) (hk : k ≤ 2932031007317) {W1 : World} (hS : St w (pits A B m n s v u ha wa hb wb) W1) (oo : Bool) (kind os og on ox : Int) :
    Calls Try.prog 14 #[.pointer (some ⟨B.t, 0, none⟩), .pointer (some ⟨B.y, 0, none⟩), .agg #[.bool oo, .int .i64 kind, .int .i64 os, .int .i64 og, .int .i64 on, .int .u64 ox]] W1 fun e w' => e = .returned (.bool true) ∧
      ∃ s' v' u' hb' wb', PRel w A B m n na nb (k + 1) s' v' u' ha wa hb' wb' w' := by
  refine (does_st hS 9 2 4 3 8 0 (spots_b a) a.wi hk a.ob oo kind os og on ox).mono ?_
  rintro e w' ⟨he, s', v', u', hb', wb', h1, h2, h3, h4, h5⟩
  exact ⟨he, s', v', u', hb', wb', h2, a.oa.more (Nat.le_succ _), h3, a.la, h4.trans a.lb, a.xa, h5.trans a.xb, a.a1, a.a8, a.b1, a.b8, h1⟩
/-- Behind a Begin a step does nothing more. -/
theorem begun_a {s1 : Mt} (a : PRel w A B m n na nb k s v u ha wa hb wb W) (hw : s1.within (k + 1)) {W1 : World} (hS : St w (pits A B m n s1 v u ha wa hb wb) W1) (oo : Bool) (os og on ox : Int) :
    Calls Try.prog 14 #[.pointer (some ⟨A.t, 0, none⟩), .pointer (some ⟨A.y, 0, none⟩), .agg #[.bool oo, .int .i64 1, .int .i64 os, .int .i64 og, .int .i64 on, .int .u64 ox]] W1 fun e w' => e = .returned (.bool true) ∧
      ∃ s' v' u' ha' wa', PRel w A B m n na nb (k + 1) s' v' u' ha' wa' hb wb w' := by
  refine (does_begun hS _ _ oo os og on ox).mono ?_
  rintro e w' ⟨he, h1⟩
  exact ⟨he, s1, v, u, ha, wa, hw, a.oa.more (Nat.le_succ _), a.ob.more (Nat.le_succ _), a.la, a.lb, a.xa, a.xb, a.a1, a.a8, a.b1, a.b8, h1⟩
theorem begun_b {s1 : Mt} (a : PRel w A B m n na nb k s v u ha wa hb wb W) (hw : s1.within (k + 1)) {W1 : World} (hS : St w (pits A B m n s1 v u ha wa hb wb) W1) (oo : Bool) (os og on ox : Int) :
    Calls Try.prog 14 #[.pointer (some ⟨B.t, 0, none⟩), .pointer (some ⟨B.y, 0, none⟩), .agg #[.bool oo, .int .i64 1, .int .i64 os, .int .i64 og, .int .i64 on, .int .u64 ox]] W1 fun e w' => e = .returned (.bool true) ∧
      ∃ s' v' u' hb' wb', PRel w A B m n na nb (k + 1) s' v' u' ha wa hb' wb' w' := by
  refine (does_begun hS _ _ oo os og on ox).mono ?_
  rintro e w' ⟨he, h1⟩
  exact ⟨he, s1, v, u, hb, wb, hw, a.oa.more (Nat.le_succ _), a.ob.more (Nat.le_succ _), a.la, a.lb, a.xa, a.xb, a.a1, a.a8, a.b1, a.b8, h1⟩
/-- Begin of the code's meter, beside a block of plain cells. -/
theorem begin_one {X : Nat} {oc : Array Value} (hS : St w (boxI X oc 39 :: pits A B m n s v u ha wa hb wb) W) (hw : s.within k) (hk : k ≤ 2932031007317) (t : Int) :
    Calls Try.prog 12 #[.pointer (some ⟨m, 0, none⟩), .int .i64 t] W fun e w' => e = .returned (.tuple #[]) ∧
      St w [boxI X oc 39, refI B.y B.g n hb wb, refI A.y A.g n ha wa, tabI B.t B.r B.q, wdRowI B.q B.f (some m) 4 wb, hdRowI B.r B.c (some m) 3 hb, tabI A.t A.r A.q, wdRowI A.q A.f (some m) 4 wa, hdRowI A.r A.c (some m) 3 ha, meterI 29 (some n) s u, meterI 74 (some m) (s.start t) v] w' :=
  begin_st hS 10 rfl hw (by omega) t
/-- Begin of the document's, behind it. -/
theorem begin_two {X : Nat} {oc : Array Value} {t : Int} (hS : St w [boxI X oc 39, refI B.y B.g n hb wb, refI A.y A.g n ha wa, tabI B.t B.r B.q, wdRowI B.q B.f (some m) 4 wb, hdRowI B.r B.c (some m) 3 hb, tabI A.t A.r A.q, wdRowI A.q A.f (some m) 4 wa, hdRowI A.r A.c (some m) 3 ha, meterI 29 (some n) s u, meterI 74 (some m) (s.start t) v] W) (hw : s.within k) (hk : k ≤ 2932031007317) :
    Calls Try.prog 13 #[.pointer (some ⟨n, 0, none⟩), .int .i64 t] W fun e w' => e = .returned (.tuple #[]) ∧
      St w (boxI X oc 39 :: pits A B m n (s.start t) v u ha wa hb wb) w' :=
  refBegin_st hS 9 rfl hw (by omega) t
theorem done_m (a : PRel w A B m n na nb k s v u ha wa hb wb W) :
    Calls Try.prog 15 #[.pointer (some ⟨m, 0, none⟩)] W fun e w' => e = .returned (.int .i64 s.dn) ∧ PRel w A B m n na nb k s v u ha wa hb wb w' := by
  refine (done_st a.st 9 rfl).mono ?_
  rintro e w' ⟨he, rfl⟩
  exact ⟨he, a⟩
theorem PRel.done (a : PRel w A B m n na nb k s v u ha wa hb wb W) : W.cell? ⟨n, 2, none⟩ = some (.int .i64 s.dn) := cell_of_heap (show MeterAt _ _ W n _ _ _ _ _ _ from a.st.get 8 rfl).heap
theorem PRel.log (a : PRel w A B m n na nb k s v u ha wa hb wb W) : W.cell? ⟨n, 4, none⟩ = some u := cell_of_heap (show MeterAt _ _ W n _ _ _ _ _ _ from a.st.get 8 rfl).heap
theorem PRel.listA (a : PRel w A B m n na nb k s v u ha wa hb wb W) : W.cell? ⟨A.y, 1, none⟩ = some (.slice (some ⟨A.g, 0, none⟩) na na) := by
  have := cell_of_heap (o := 1) (show RefTab W A.y A.g n ha wa from a.st.get 1 rfl).tab
  rw [a.la] at this
  exact this
theorem PRel.listB (a : PRel w A B m n na nb k s v u ha wa hb wb W) : W.cell? ⟨B.y, 1, none⟩ = some (.slice (some ⟨B.g, 0, none⟩) nb nb) := by
  have := cell_of_heap (o := 1) (show RefTab W B.y B.g n hb wb from a.st.get 0 rfl).tab
  rw [a.lb] at this
  exact this
/-- The log that the meter tells, and the document's: the same. -/
theorem log_m (a : PRel w A B m n na nb k s v u ha wa hb wb W) (hk : k ≤ 2932031007317) :
    Calls Try.prog 20 #[.pointer (some ⟨m, 0, none⟩)] W fun e w' => ∃ v', e = .returned v' ∧ w'.ownsRow 0 88 6 v' s.l.length (logCells s.l) ∧ PRel w A B m n na nb k s v u ha wa hb wb w' := by
  refine (log_st a.st 9 rfl a.wi (by omega)).mono ?_
  rintro e w' ⟨v', he, hS⟩
  exact ⟨v', he, hS.get 0 rfl, a.wi, a.oa, a.ob, a.la, a.lb, a.xa, a.xb, a.a1, a.a8, a.b1, a.b8, hS.pop⟩
theorem same_m {v' : Value} (a : PRel w A B m n na nb k s v u ha wa hb wb W) (hk : k ≤ 2932031007317) (ho : W.ownsRow 0 88 6 v' s.l.length (logCells s.l)) :
    Calls Try.prog 19 #[v', u] W fun e w' => e = .returned (.bool true) ∧ PRel w A B m n na nb k s v u ha wa hb wb w' := by
  have hn : MeterAt 29 88 W n s.st s.th s.dn s.mo u s.l := a.st.get 8 rfl
  refine (same_true 0 0 v' u s.l W ho hn.own (by have := a.wi.len; omega)).mono ?_
  rintro e w' ⟨he, q, rfl⟩
  exact ⟨he, a.drewN q⟩
/-- All slots of the first table, as a new list. -/
theorem all_a (a : PRel w A B m n na nb k s v u ha wa hb wb W) :
    Calls Try.prog 16 #[.pointer (some ⟨A.t, 0, none⟩)] W fun e w' => ∃ g cap, e = .returned (.slice (some ⟨g, 0, none⟩) na cap) ∧ w'.ownsRow 0 53 8 (.slice (some ⟨g, 0, none⟩) na cap) na (slCells (slots ha wa)) ∧ PRel w A B m n na nb k s v u ha wa hb wb w' ∧
      St w (ownI 53 8 (.slice (some ⟨g, 0, none⟩) na cap) na (slCells (slots ha wa)) :: pits A B m n s v u ha wa hb wb) w' := by
  refine (tabAll_st a.st 5 7 6 rfl rfl rfl (by rw [a.xa, a.la]) (by rw [a.la]; exact a.a1) (by rw [a.la]; exact a.a8)).mono ?_
  rintro e w' ⟨v', he, hS⟩
  rw [a.la] at hS
  have ho : w'.ownsRow 0 53 8 v' na (slCells (slots ha wa)) := hS.get 0 rfl
  obtain ⟨g, cap, rfl, _, _⟩ := ho.form (by have := a.a1; omega)
  exact ⟨g, cap, he, ho, ⟨a.wi, a.oa, a.ob, a.la, a.lb, a.xa, a.xb, a.a1, a.a8, a.b1, a.b8, hS.pop⟩, hS⟩
theorem all_b (a : PRel w A B m n na nb k s v u ha wa hb wb W) :
    Calls Try.prog 16 #[.pointer (some ⟨B.t, 0, none⟩)] W fun e w' => ∃ g cap, e = .returned (.slice (some ⟨g, 0, none⟩) nb cap) ∧ w'.ownsRow 0 53 8 (.slice (some ⟨g, 0, none⟩) nb cap) nb (slCells (slots hb wb)) ∧ PRel w A B m n na nb k s v u ha wa hb wb w' := by
  refine (tabAll_st a.st 2 4 3 rfl rfl rfl (by rw [a.xb, a.lb]) (by rw [a.lb]; exact a.b1) (by rw [a.lb]; exact a.b8)).mono ?_
  rintro e w' ⟨v', he, hS⟩
  rw [a.lb] at hS
  have ho : w'.ownsRow 0 53 8 v' nb (slCells (slots hb wb)) := hS.get 0 rfl
  obtain ⟨g, cap, rfl, _, _⟩ := ho.form (by have := a.b1; omega)
  exact ⟨g, cap, he, ho, ⟨a.wi, a.oa, a.ob, a.la, a.lb, a.xa, a.xb, a.a1, a.a8, a.b1, a.b8, hS.pop⟩⟩
theorem len_a (a : PRel w A B m n na nb k s v u ha wa hb wb W) : Calls Try.prog 18 #[.pointer (some ⟨A.t, 0, none⟩)] W fun e w' => e = .returned (.int .i64 na) ∧ w' = W := by
  have := tabLen_st a.st 5 7 rfl rfl
  rw [a.la] at this
  exact this
theorem len_b (a : PRel w A B m n na nb k s v u ha wa hb wb W) : Calls Try.prog 18 #[.pointer (some ⟨B.t, 0, none⟩)] W fun e w' => e = .returned (.int .i64 nb) ∧ w' = W := by
  have := tabLen_st a.st 2 4 rfl rfl
  rw [a.lb] at this
  exact this
/-- A list that tells the first table's slots, beside the document's. -/
theorem same_a {g cap : Nat} (a : PRel w A B m n na nb k s v u ha wa hb wb W) (ho : W.ownsRow 0 53 8 (.slice (some ⟨g, 0, none⟩) na cap) na (slCells (slots ha wa))) :
    Calls Try.prog 17 #[.slice (some ⟨g, 0, none⟩) na cap, .slice (some ⟨A.g, 0, none⟩) na na] W fun e w' => e = .returned (.bool true) ∧ ∃ q, w' = W.drewN q := by
  have hr := (show RefTab W A.y A.g n ha wa from a.st.get 1 rfl).own
  rw [a.la] at hr
  exact same_slots g A.g cap na na (slots ha wa) W ho hr (by rw [slots_length ha wa (by rw [a.xa, a.la]), a.la]) a.a8
theorem same_b {g cap : Nat} (a : PRel w A B m n na nb k s v u ha wa hb wb W) (ho : W.ownsRow 0 53 8 (.slice (some ⟨g, 0, none⟩) nb cap) nb (slCells (slots hb wb))) :
    Calls Try.prog 17 #[.slice (some ⟨g, 0, none⟩) nb cap, .slice (some ⟨B.g, 0, none⟩) nb nb] W fun e w' => e = .returned (.bool true) ∧ ∃ q, w' = W.drewN q := by
  have hr := (show RefTab W B.y B.g n hb wb from a.st.get 0 rfl).own
  rw [a.lb] at hr
  exact same_slots g B.g cap nb nb (slots hb wb) W ho hr (by rw [slots_length hb wb (by rw [a.xb, a.lb]), a.lb]) a.b8
end
/-- A cell of an own list turned. -/
theorem own_set {w : World} {b e z g n cap : Nat} {xs : List Value} (h : w.ownsRow b e z (.slice (some ⟨g, 0, none⟩) n cap) n xs) (j : Nat) (hj : j < n * z) (x : Value) : (w.setCell ⟨g, j, none⟩ x).ownsRow b e z (.slice (some ⟨g, 0, none⟩) n cap) n (xs.set j x) := by
  obtain ⟨h1, h2⟩ := h
  refine ⟨by simpa using h1, ?_⟩
  rcases h2 with ⟨hv, _⟩ | ⟨g', cap', cur, hv, hb, hg, hn, hc, hs, ht⟩
  · cases hv
  · simp only [Value.slice.injEq, Option.some.injEq, Addr.mk.injEq, true_and, and_true] at hv
    obtain ⟨rfl, rfl⟩ := hv
    refine .inr ⟨g, cap, cur.setIfInBounds j x, rfl, hb, heap_setCell_at hg x, hn, hc, by simpa using hs, ?_⟩
    rw [Array.toList_setIfInBounds, List.take_set, ht]
end Go.Proofs.Ythaajlelaoimaaa
