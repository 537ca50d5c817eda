/- One table that nobody notes, beside other things: what its calls answer and leave. A list of things as one thing, and back. No program is named here. -/
import Derived.Test.YthbcbjkgjgmegaaGreatTabN
namespace Go.Proofs.YthbcbjkgjgmegaaGreat
open Go.RowKit
set_option linter.unusedVariables false
set_option linter.unusedSimpArgs false

theorem St.perm {o w : World} {its its' : List It} (h : St o its w) (p : its.Perm its') : St o its' w :=
  ⟨(p.flatMap_right It.fp).nodup_iff.1 h.nodup, fun i hi => h.all i (p.mem_iff.2 hi), fun i hi => h.high i (p.mem_iff.2 hi), h.kept⟩

/-- A table of n slots without a meter, and other things. -/
structure TSt (o : World) (ex : List It) (t r c q f n : Nat) (hs : List Hd) (ws : List Int) (w : World) : Prop where
  st : St o (tabI t r q :: wdRowI q f none 4 ws :: hdRowI r c none 3 hs :: meterI 174 none Mt.zero (.slice none 0 0) :: ex) w
  hn : hs.length = n
  wn : ws.length = n * 2
  n1 : 1 ≤ n
  n8 : n ≤ 8
section
variable {o w w' : World} {ex : List It} {t r c q f n : Nat} {hs : List Hd} {ws : List Int}
theorem TSt.calm (h : TSt o ex t r c q f n hs ws w) (k : Kept (fun _ => False) w w') : TSt o ex t r c q f n hs ws w' := ⟨h.st.calm k, h.hn, h.wn, h.n1, h.n8⟩
theorem TSt.drew (h : TSt o ex t r c q f n hs ws w) : TSt o ex t r c q f n hs ws w.drew := h.calm (kept_drew w)
theorem TSt.box (h : TSt o ex t r c q f n hs ws w) (cs : Array Value) (ty : TypeId) : TSt o (boxI w.heap.size cs ty :: ex) t r c q f n hs ws (w.alloc (.cells cs ty)) := by
  refine ⟨(h.st.box cs ty).perm ?_, h.hn, h.wn, h.n1, h.n8⟩
  exact (List.perm_middle (l₁ := [tabI t r q, wdRowI q f none 4 ws, hdRowI r c none 3 hs, meterI 174 none Mt.zero (.slice none 0 0)])).symm
theorem TSt.pop {A : It} (h : TSt o (A :: ex) t r c q f n hs ws w) : TSt o ex t r c q f n hs ws w := by
  refine ⟨St.pop (A := A) (h.st.perm ?_), h.hn, h.wn, h.n1, h.n8⟩
  exact List.perm_middle (l₁ := [tabI t r q, wdRowI q f none 4 ws, hdRowI r c none 3 hs, meterI 174 none Mt.zero (.slice none 0 0)])
theorem TSt.write (h : TSt o ex t r c q f n hs ws w) (i : Nat) {k : Nat} {cs : Array Value} {ty : TypeId} (hi : ex[i]? = some (boxI k cs ty)) (j : Nat) (u : Value) : TSt o (ex.set i (boxI k (cs.setIfInBounds j u) ty)) t r c q f n hs ws (w.setCell ⟨k, j, none⟩ u) :=
  ⟨h.st.write (i + 4) hi j u, h.hn, h.wn, h.n1, h.n8⟩
theorem TSt.cell (h : TSt o ex t r c q f n hs ws w) (i : Nat) {k : Nat} {cs : Array Value} {ty : TypeId} (hi : ex[i]? = some (boxI k cs ty)) (j : Nat) : w.cell? ⟨k, j, none⟩ = cs[j]? := h.st.cell (i + 4) hi j
theorem TSt.frozen (h : TSt o ex t r c q f n hs ws w) (i : Nat) {k : Nat} {cs : Array Value} {ty : TypeId} (hi : ex[i]? = some (boxI k cs ty)) (j : Nat) : w.frozen? ⟨k, j, none⟩ = false := h.st.frozen (i + 4) hi j
theorem TSt.own {e : TypeId} {z m : Nat} {v : Value} {xs : List Value} (h : TSt o ex t r c q f n hs ws w) (i : Nat) (hi : ex[i]? = some (ownI e z v m xs)) : w.ownsRow 0 e z v m xs := h.st.get (i + 4) hi
theorem TSt.same (h : TSt o ex t r c q f n hs ws w) : Kept (fun _ => False) o w := h.st.same

theorem TSt.new (h : St o ex w) (n : Nat) (h1 : 1 ≤ n) (h8 : n ≤ 8) :
    Calls Tryz.prog 35 #[.pointer none, .int .i64 n] w fun e w' => ∃ t r c q d, e = .returned (.tuple #[.pointer (some ⟨t, 0, none⟩), .int .i64 0]) ∧ TSt o ex t r c q d n (List.replicate n Hd.zero) (List.replicate (n * 2) 0) w' := by
  have h0 : St o (meterI 174 none Mt.zero (.slice none 0 0) :: ex) w := h.push _ (Kept.refl _ w) trivial (by simp [meterI]) (by simp [meterI])
  refine (tabNew_st h0 none n h1 h8).mono ?_
  rintro e w' ⟨t, r, c, q, d, he, hS⟩
  exact ⟨t, r, c, q, d, he, hS, by simp, by simp, h1, h8⟩
theorem TSt.claim (h : TSt o ex t r c q f n hs ws w) {N : Nat} (ok : HsOk hs N) (hN : N ≤ 4611686018427387904) (k th : Int) :
    Calls Tryz.prog 364 #[.pointer (some ⟨t, 0, none⟩), .int .i64 k, .int .i64 th] w fun e w' => e = .returned (.tuple #[.int .i64 (claimR hs k th), .int .i64 ((claimOp th).E hs k)]) ∧ TSt o ex t r c q f n ((claimOp th).H hs k) ws w' := by
  refine (tabClaim_st h.st 3 0 2 rfl rfl rfl (by omega) (Mt.within_zero 0) (by omega) ok hN k th).mono ?_
  rintro e w' ⟨he, v', hS⟩
  exact ⟨he, hS, by rw [HOp.len]; exact h.hn, h.wn, h.n1, h.n8⟩
theorem TSt.ready (h : TSt o ex t r c q f n hs ws w) {N : Nat} (ok : HsOk hs N) (k g p : Int) :
    Calls Tryz.prog 363 #[.pointer (some ⟨t, 0, none⟩), .int .i64 k, .int .i64 g, .int .i64 p] w fun e w' => e = .returned (.int .i64 ((readyOp g p).E hs k)) ∧ TSt o ex t r c q f n ((readyOp g p).H hs k) ws w' := by
  refine (tabReady_st h.st 3 0 2 rfl rfl rfl (by omega) (Mt.within_zero 0) (by omega) ok k g p).mono ?_
  rintro e w' ⟨he, v', hS⟩
  exact ⟨he, hS, by rw [HOp.len]; exact h.hn, h.wn, h.n1, h.n8⟩
theorem TSt.doom (h : TSt o ex t r c q f n hs ws w) {N : Nat} (ok : HsOk hs N) (k g th : Int) :
    Calls Tryz.prog 423 #[.pointer (some ⟨t, 0, none⟩), .int .i64 k, .int .i64 g, .int .i64 th] w fun e w' => e = .returned (.int .i64 ((doomOp g th).E hs k)) ∧ TSt o ex t r c q f n ((doomOp g th).H hs k) ws w' := by
  refine (tabDoom_st h.st 3 0 2 rfl rfl rfl (by omega) (Mt.within_zero 0) (by omega) ok k g th).mono ?_
  rintro e w' ⟨he, v', hS⟩
  exact ⟨he, hS, by rw [HOp.len]; exact h.hn, h.wn, h.n1, h.n8⟩
theorem TSt.free (h : TSt o ex t r c q f n hs ws w) {N : Nat} (ok : HsOk hs N) (k g : Int) :
    Calls Tryz.prog 348 #[.pointer (some ⟨t, 0, none⟩), .int .i64 k, .int .i64 g] w fun e w' => e = .returned (.int .i64 ((freeOp g).E hs k)) ∧ TSt o ex t r c q f n ((freeOp g).H hs k) ws w' := by
  refine (tabFree_st h.st 3 0 2 rfl rfl rfl (by omega) (Mt.within_zero 0) (by omega) ok k g).mono ?_
  rintro e w' ⟨he, v', hS⟩
  exact ⟨he, hS, by rw [HOp.len]; exact h.hn, h.wn, h.n1, h.n8⟩
theorem TSt.look (h : TSt o ex t r c q f n hs ws w) (k : Int) :
    Calls Tryz.prog 309 #[.pointer (some ⟨t, 0, none⟩), .int .i64 k] w fun e w' => e = .returned (.tuple #[(nowAt hs k).val, .int .i64 (lookE hs k)]) ∧ TSt o ex t r c q f n hs ws w' := by
  refine (tabLook_st h.st 3 0 2 rfl rfl rfl (by omega) (Mt.within_zero 0) (by omega) k).mono ?_
  rintro e w' ⟨he, v', hS⟩
  exact ⟨he, hS, h.hn, h.wn, h.n1, h.n8⟩
theorem TSt.word (h : TSt o ex t r c q f n hs ws w) (k j : Int) :
    Calls Tryz.prog 417 #[.pointer (some ⟨t, 0, none⟩), .int .i64 k, .int .i64 j] w fun e w' => e = .returned (.tuple #[.int .u64 (wordR ws n k j), .int .i64 (wordE n k j)]) ∧ TSt o ex t r c q f n hs ws w' := by
  have hn := h.hn
  subst hn
  refine (tabWord_st h.st 3 0 2 1 rfl rfl rfl rfl (by omega) h.wn (Mt.within_zero 0) (by omega) k j).mono ?_
  rintro e w' ⟨he, v', hS⟩
  exact ⟨he, hS, h.hn, h.wn, h.n1, h.n8⟩
theorem TSt.put (h : TSt o ex t r c q f n hs ws w) (k j x : Int) :
    Calls Tryz.prog 292 #[.pointer (some ⟨t, 0, none⟩), .int .i64 k, .int .i64 j, .int .u64 x] w fun e w' => e = .returned (.int .i64 (wordE n k j)) ∧ TSt o ex t r c q f n hs (putW ws n k j x) w' := by
  have hn := h.hn
  subst hn
  refine (tabPut_st h.st 3 0 2 1 rfl rfl rfl rfl (by omega) h.wn (Mt.within_zero 0) (by omega) k j x).mono ?_
  rintro e w' ⟨he, v', hS⟩
  exact ⟨he, hS, h.hn, by rw [putW_len]; exact h.wn, h.n1, h.n8⟩
theorem TSt.len (h : TSt o ex t r c q f n hs ws w) : Calls Tryz.prog 119 #[.pointer (some ⟨t, 0, none⟩)] w fun e w' => e = .returned (.int .i64 n) ∧ w' = w := by
  have := tabLen_st h.st 0 2 rfl rfl
  rw [h.hn] at this
  exact this
theorem TSt.allof (h : TSt o ex t r c q f n hs ws w) :
    Calls Tryz.prog 79 #[.pointer (some ⟨t, 0, none⟩)] w fun e w' => ∃ v', e = .returned v' ∧ TSt o (ownI 249 8 v' n (slCells (slots hs ws)) :: ex) t r c q f n hs ws w' := by
  refine (tabAll_st h.st 0 2 1 rfl rfl rfl (by rw [h.wn, h.hn]) (by rw [h.hn]; exact h.n1) (by rw [h.hn]; exact h.n8)).mono ?_
  rintro e w' ⟨v', he, hS⟩
  rw [h.hn] at hS
  exact ⟨v', he, hS.perm (List.perm_middle (l₁ := [tabI t r q, wdRowI q f none 4 ws, hdRowI r c none 3 hs, meterI 174 none Mt.zero (.slice none 0 0)])).symm, h.hn, h.wn, h.n1, h.n8⟩
end
end Go.Proofs.YthbcbjkgjgmegaaGreat

namespace Go.Proofs.YthbcbjkgjgmegaaGreat
open Go.RowKit
set_option linter.unusedVariables false
set_option linter.unusedSimpArgs false

/-- A list of things as one. -/
def joinI (l : List It) : It :=
  ⟨l.flatMap It.fp, fun w => ∀ i, i ∈ l → i.P w,
   fun w w' h p i hi => i.loc w w' (fun k hk => h k (List.mem_flatMap.2 ⟨i, hi, hk⟩)) (p i hi),
   fun w p k hk => by
     obtain ⟨i, hi, hk⟩ := List.mem_flatMap.1 hk
     exact i.old w (p i hi) k hk⟩
section
variable {o w : World} {l its : List It}
theorem St.split (h : St o (joinI l :: its) w) : St o (l ++ its) w := by
  refine ⟨?_, ?_, ?_, h.kept⟩
  · have := h.nodup
    rw [List.flatMap_cons] at this
    rw [List.flatMap_append]
    exact this
  · intro i hi
    rcases List.mem_append.1 hi with hi | hi
    · exact h.all (joinI l) (by simp) i hi
    · exact h.all i (List.mem_cons_of_mem _ hi)
  · intro i hi k hk
    rcases List.mem_append.1 hi with hi | hi
    · exact h.high (joinI l) (by simp) k (List.mem_flatMap.2 ⟨i, hi, hk⟩)
    · exact h.high i (List.mem_cons_of_mem _ hi) k hk
theorem St.unite (h : St o (l ++ its) w) : St o (joinI l :: its) w := by
  refine ⟨?_, ?_, ?_, h.kept⟩
  · have := h.nodup
    rw [List.flatMap_append] at this
    rw [List.flatMap_cons]
    exact this
  · intro i hi
    rcases List.mem_cons.1 hi with rfl | hi
    · exact fun j hj => h.all j (List.mem_append_left _ hj)
    · exact h.all i (List.mem_append_right _ hi)
  · intro i hi k hk
    rcases List.mem_cons.1 hi with rfl | hi
    · obtain ⟨j, hj, hk⟩ := List.mem_flatMap.1 hk
      exact h.high j (List.mem_append_left _ hj) k hk
    · exact h.high i (List.mem_append_right _ hi) k hk
theorem erase_at (a b : List It) (A : It) : (a ++ A :: b).eraseIdx a.length = a ++ b := by
  rw [List.eraseIdx_append_of_length_le (Nat.le_refl _)]
  simp
theorem perm_at {i : Nat} {A : It} (hi : its[i]? = some A) : its.Perm (A :: its.eraseIdx i) := by
  obtain ⟨a, b, rfl, rfl⟩ := split_at hi
  rw [erase_at]
  exact List.perm_middle
theorem perm_set {i : Nat} {A : It} (hi : its[i]? = some A) (B : It) : (its.set i B).Perm (B :: its.eraseIdx i) := by
  obtain ⟨a, b, rfl, rfl⟩ := split_at hi
  rw [erase_at, set_at]
  exact List.perm_middle
/-- What is made of things lies open, ahead of all others. -/
theorem St.open (h : St o its w) (i : Nat) (hi : its[i]? = some (joinI l)) : St o (l ++ its.eraseIdx i) w := (h.perm (perm_at hi)).split
/-- It is shut again. -/
theorem St.shut {i : Nat} {A : It} (hi : its[i]? = some A) (h : St o (l ++ its.eraseIdx i) w) : St o (its.set i (joinI l)) w := h.unite.perm (perm_set hi _).symm
/-- It is shut again, something new stays ahead. -/
theorem St.shut1 {i : Nat} {A X : It} (hi : its[i]? = some A) (h : St o (X :: (l ++ its.eraseIdx i)) w) : St o (X :: its.set i (joinI l)) w := by
  have h2 : St o (l ++ (X :: its.eraseIdx i)) w := h.perm List.perm_middle.symm
  exact (h2.unite.perm (List.Perm.swap ..)).perm ((perm_set hi _).symm.cons X)
theorem St.swap {A B : It} (h : St o (A :: B :: its) w) : St o (B :: A :: its) w := h.perm (List.Perm.swap ..)
end
end Go.Proofs.YthbcbjkgjgmegaaGreat
