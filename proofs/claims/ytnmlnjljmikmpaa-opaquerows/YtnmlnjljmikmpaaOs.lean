/- Package opaque: the search's closure: what it stands on. -/
import Derived.Test.YtnmlnjljmikmpaaOr
namespace Go.Proofs.Ytnmlnjljmikmpaa
open Go.RowKit Go.Shelf
set_option linter.unusedVariables false
set_option linter.unusedSimpArgs false
attribute [local go_sem ↓] Go.wp_at_zero Go.wp_at_succ

theorem own_cutO {w : World} {B g n cap : Nat} {e : TypeId} {z : Nat} {xs : List Value} (h : w.ownsRow B e z (.slice (some ⟨g, 0, none⟩) n cap) n xs) {m : Nat} (hm : m ≤ n) : w.ownsRow B e z (.slice (some ⟨g, 0, none⟩) m cap) m (xs.take (m * z)) := by
  have hl := h.1
  have hmz : m * z ≤ n * z := Nat.mul_le_mul_right _ hm
  refine ⟨by simp; omega, ?_⟩
  rcases h.2 with ⟨h1, _⟩ | ⟨g', cap', cur, h1, hb, hg, hn, hc, hs, ht⟩
  · cases h1
  · simp only [Value.slice.injEq, Option.some.injEq, Addr.mk.injEq, and_true, true_and] at h1
    obtain ⟨rfl, rfl⟩ := h1
    refine .inr ⟨g, cap, cur, rfl, hb, hg, by omega, hc, hs, ?_⟩
    rw [← ht, List.take_take, Nat.min_eq_left hmz]
theorem sliceToI (g n lc i : Nat) (h1 : i ≤ lc) (h2 : 0 < lc) (J : Int) (hJ : J = (i : Int)) (W : World) : (Instr.slice 24 (.slice (some ⟨g, 0, none⟩) n lc) none (some (.int .i64 J)) none).run Try.prog W = .ok (.slice (some ⟨g, 0, none⟩) i lc) W := by
  subst hJ
  have e5 : ¬ lc = 0 := by omega
  have e8 : (0 : Int) ≤ (i : Int) ∧ (i : Int) ≤ (lc : Int) := by omega
  simp only [Instr.slice, run_underlying Try.underlying24, Instr.sliceBounds, Instr.sliceBound, asIntOf, go_sem]
  simp [e5, e8, Result.andThen, h1, go_sem]
theorem buildI1 (W : World) (a : Int) : (Instr.buildSlice 24 1 #[(0, .int .i64 a)]).run Try.prog W = .ok (.slice (some ⟨W.heap.size, 0, none⟩) 1 1) (W.alloc (.cells #[.int .i64 a] 3)) := by kernel_rfl
/-- A gist in memory. -/
structure Gt where
  br : Bool
  aa : Option Addr
  ac : Nat
  la : Option Addr
  lc : Nat
  asks : List Pr
  lv : List Pr
def Gt.zero : Gt := ⟨false, none, 0, none, 0, [], []⟩
def gC (g : Gt) : List Value := [.bool g.br, .slice g.aa g.asks.length g.ac, .slice g.la g.lv.length g.lc]
theorem Try.infoG : (Try.prog.info? 67).map (fun i => (i.zero, i.size, i.bytes)) = some (some (.agg #[.bool false, .slice none 0 0, .slice none 0 0]), 3, 56) := by kernel_rfl
theorem Try.rowG : RowT Try.prog 67 76 3 56 gC := row_of (fun _ => rfl) (fun a u hu => by simp only [gC, List.mem_cons, List.not_mem_nil, or_false] at hu; rcases hu with rfl | rfl | rfl <;> rfl) Try.underlying76 (by omega) (by omega) Try.infoG rfl
def Gt.of (g : Gt) (s : Sy) : Prop := g.br = brokeM (fun _ => none) s.ms ∧ g.asks = asksM (fun _ => none) s.ms ∧ g.lv = leavesL s
def gIts (g : Gt) : List It := [lstR pC 86 2 (.slice g.aa g.asks.length g.ac) g.asks, lstR pC 86 2 (.slice g.la g.lv.length g.lc) g.lv]
def gsI (gl : List Gt) : List It := gl.flatMap gIts
theorem gsI_at : ∀ {gl : List Gt} {j : Nat} {g : Gt}, gl[j]? = some g → (gsI gl)[2 * j]? = some (lstR pC 86 2 (.slice g.aa g.asks.length g.ac) g.asks) ∧ (gsI gl)[2 * j + 1]? = some (lstR pC 86 2 (.slice g.la g.lv.length g.lc) g.lv)
  | [], _, _, h => by simp at h
  | y :: gl, 0, g, h => by
    simp only [List.getElem?_cons_zero, Option.some.injEq] at h
    subst h
    exact ⟨rfl, rfl⟩
  | y :: gl, j + 1, g, h => by
    have := gsI_at (gl := gl) (j := j) (g := g) (by simpa using h)
    have e : gsI (y :: gl) = gIts y ++ gsI gl := rfl
    rw [e, show 2 * (j + 1) = 2 * j + 2 by omega, show 2 * j + 2 + 1 = (2 * j + 1) + 2 by omega]
    exact this
/-- What stands while the search goes on. -/
abbrev srF (V1 V2 V3 V4 GB n : Nat) (la : Option Addr) (lc : Nat) (gl : List Gt) : List It :=
  boxI V1 #[.slice (some ⟨GB, 0, none⟩) n n] 76 :: ownI 67 3 (.slice (some ⟨GB, 0, none⟩) n n) n (fl gC gl) :: boxI V3 #[.slice la n lc] 23 :: boxI V4 #[.func (.func 36) #[] #[.pointer (some ⟨V1, 0, none⟩), .pointer (some ⟨V2, 0, none⟩), .pointer (some ⟨V3, 0, none⟩), .pointer (some ⟨V4, 0, none⟩)]] 77 :: gsI gl
abbrev ordI (V2 : Nat) (v : Value) (pre : List Nat) : List It := [boxI V2 #[v] 24, ownI 3 1 v pre.length (fl iC (asI pre))]
theorem fr_gist {V1 V2 V3 V4 GB n : Nat} {la : Option Addr} {lc : Nat} {gl : List Gt} {j : Nat} {g : Gt} (h : gl[j]? = some g) (X : List It) : (srF V1 V2 V3 V4 GB n la lc gl ++ X)[4 + 2 * j]? = some (lstR pC 86 2 (.slice g.aa g.asks.length g.ac) g.asks) ∧ (srF V1 V2 V3 V4 GB n la lc gl ++ X)[4 + 2 * j + 1]? = some (lstR pC 86 2 (.slice g.la g.lv.length g.lc) g.lv) := by
  obtain ⟨h1, h2⟩ := gsI_at h
  have l1 := (List.getElem?_eq_some_iff.1 h1).1
  have l2 := (List.getElem?_eq_some_iff.1 h2).1
  have e : ∀ k, k < (gsI gl).length → (srF V1 V2 V3 V4 GB n la lc gl ++ X)[4 + k]? = (gsI gl)[k]? := fun k hk => by
    rw [List.getElem?_append_left (by simp only [List.length_cons]; omega), show 4 + k = k + 4 by omega]
    rfl
  exact ⟨(e _ l1).trans h1, (e (2 * j + 1) l2).trans h2⟩
theorem fr_map {V1 V2 V3 V4 GB n : Nat} {la : Option Addr} {lc : Nat} {gl : List Gt} {i : Nat} {X : List It} {A : It} (h : X[i]? = some A) : (srF V1 V2 V3 V4 GB n la lc gl ++ X)[4 + (gsI gl).length + i]? = some A := by
  rw [List.getElem?_append_right (by simp only [List.length_cons]; omega)]
  simp only [List.length_cons]
  rw [show 4 + (gsI gl).length + i - ((gsI gl).length + 1 + 1 + 1 + 1) = i by omega]
  exact h
theorem asI_len (pre : List Nat) : (asI pre).length = pre.length := by simp [asI]
theorem r_form {α : Type} {f : α → List Value} {t k n : Nat} {o w : World} {its : List It} {v : Value} {xs : List α} (h : St o its w) (i : Nat) (hi : its[i]? = some (ownI t k v n (fl f xs))) (hn : n = xs.length) (hk : ∀ a, (f a).length = k) : ∃ la lc, v = .slice la n lc := by
  subst hn
  obtain ⟨la, lc, e, _⟩ := r_rin (f := f) (k := k) (t := t) (v := v) (xs := xs) h i hi hk
  exact ⟨la, lc, e⟩
/-- The search's closure, where f are left. -/
def Comp (o : World) (start : List Int) (sa : Option Addr) (sn sc V1 V2 V3 V4 GB n : Nat) (la : Option Addr) (lc : Nat) (L : List Sm) (gl : List Gt) (f : Nat) : Prop :=
  ∀ (pre : List Nat) (ov : Int → Option Int) (mb : Nat) (ls : List Pr) (X : List It) (i : Nat) (v : Value) (w : World), pre.length + f = n → pre.Nodup → (∀ p ∈ pre, p < n) → ValR ls ov → X[i]? = some (mapV mb ls) →
    St o (ordI V2 v pre ++ (srF V1 V2 V3 V4 GB n la lc gl ++ X)) w →
    Calls Try.prog 36 #[memV sa sn sc mb, .pointer (some ⟨V1, 0, none⟩), .pointer (some ⟨V2, 0, none⟩), .pointer (some ⟨V3, 0, none⟩), .pointer (some ⟨V4, 0, none⟩)] w fun e w' =>
      (∀ r, dfs (smS L) f (memO start ov) pre = some r → e = .returned (.bool true) ∧ ∃ v', St o (ordI V2 v' r ++ (srF V1 V2 V3 V4 GB n la lc gl ++ X)) w') ∧
      (dfs (smS L) f (memO start ov) pre = none → e = .returned (.bool false) ∧ ∃ v', St o (ordI V2 v' pre ++ (srF V1 V2 V3 V4 GB n la lc gl ++ X)) w')
theorem perm_srch (Y B A F X : List It) : (Y ++ (B ++ (A ++ (F ++ X)))).Perm (A ++ (F ++ (Y ++ (B ++ X)))) := by
  have h1 : (B ++ (A ++ (F ++ X))).Perm (A ++ (F ++ (B ++ X))) := (List.perm_append_comm_assoc B A (F ++ X)).trans ((List.perm_append_comm_assoc B F X).append_left A)
  have h2 : (Y ++ (A ++ (F ++ (B ++ X)))).Perm (A ++ (F ++ (Y ++ (B ++ X)))) := (List.perm_append_comm_assoc Y A _).trans ((List.perm_append_comm_assoc Y F _).append_left A)
  exact (h1.append_left Y).trans h2
theorem dfs_len {l : List Sy} : ∀ {f : Nat} {m : Mem} {pre r : List Nat}, dfs l f m pre = some r → r.length = pre.length + f
  | 0, m, pre, r, h => by simp only [dfs, Option.some.injEq] at h; rw [← h]; rfl
  | f + 1, m, pre, r, h => by
    simp only [dfs] at h
    have hs := findSome_spec (fun p => if mayNext l m pre p = true then dfs l f (leaves m (l.getD p Sy.zero)) (pre ++ [p]) else none) l.length
    rw [h] at hs
    obtain ⟨p, _, hp, _⟩ := hs
    split at hp
    · have := dfs_len hp
      simp only [List.length_append, List.length_cons, List.length_nil] at this
      omega
    · cases hp
theorem pig_nat : ∀ (n : Nat) (l : List Nat), l.Nodup → (∀ p ∈ l, p < n) → l.length ≤ n
  | 0, l, _, h => by
    cases l with
    | nil => simp
    | cons x r => have := h x (by simp); omega
  | n + 1, l, hn, h => by
    have h1 := pig_nat n (l.filter (· != n)) (hn.sublist List.filter_sublist) (fun p hp => by
      have h2 := List.mem_filter.1 hp
      have := h p h2.1
      have h3 : p ≠ n := by simpa using h2.2
      omega)
    have h2 : l.length ≤ (l.filter (· != n)).length + 1 := by
      have hc : l.countP (· == n) ≤ 1 := by
        have := List.nodup_iff_count.1 hn n
        simpa [List.count] using this
      have := List.length_eq_countP_add_countP (p := fun x => x == n) (l := l)
      rw [← List.countP_eq_length_filter]
      have e : l.countP (fun x => x != n) = l.countP (fun a => decide ¬(a == n) = true) := by
        congr 1
        funext a
        by_cases hh : a = n <;> simp [hh]
      rw [e]
      omega
    omega
/-- Whole orders: no place is left. -/
theorem pre_full (n : Nat) (pre : List Nat) (hnd : pre.Nodup) (hlt : ∀ p ∈ pre, p < n) (hl : pre.length = n) (j : Nat) (hj : j < n) : j ∈ pre := by
  by_cases h : j ∈ pre
  · exact h
  · have := pig_nat n (j :: pre) (List.nodup_cons.2 ⟨h, hnd⟩) (fun p hp => by
      rcases List.mem_cons.1 hp with rfl | hp
      · exact hj
      · exact hlt p hp)
    simp only [List.length_cons] at this
    omega
end Go.Proofs.Ytnmlnjljmikmpaa
