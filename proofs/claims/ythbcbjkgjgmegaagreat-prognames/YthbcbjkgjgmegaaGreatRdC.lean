/- Reads as plain data: what a step makes of one, and of the space. No program is named here. Reads: how they lie in memory; missing, goOn, publish. Reads: looks at a space's gate and heads; publish. Reads: load, the gate, the head; a step; done, its value, what it goes out from. -/
import Derived.Test.YthbcbjkgjgmegaaGreatSpA
import Derived.Test.YthbcbjkgjgmegaaGreatSigB
import Derived.Test.YthbcbjkgjgmegaaGreatSpE
import Derived.Test.YthbcbjkgjgmegaaGreatEqS
import Derived.Laws.EntriesVeiled
import Derived.Deep.Cut
import Derived.Deep.CutBlock
namespace Go.Proofs.YthbcbjkgjgmegaaGreat
open Go.RowKit
set_option linter.unusedVariables false
set_option linter.unusedSimpArgs false

/-- A read that is under way: what it goes out from, the cell, its bits; st: 0 it publishes, 1 it loads, 2 the gate, 3 the head, 4 done. -/
structure Rd where
  sl : Int
  gn : Int
  sn : Int
  sg : Sg
  ce : Int
  bi : Sg
  st : Nat
  va : Int
  e : Int
def Rd.miss (r : Rd) : List Nat := (r.bi.minus r.sg).words
def Rd.on (r : Rd) : Rd := { r with st := if r.miss = [] then 1 else 0 }
def Sg.setW (s : Sg) (i x : Nat) : Sg := if i = 0 then ⟨x, s.hi⟩ else ⟨s.lo, x⟩
def Rd.both (r : Rd) (i : Nat) : Nat := word (r.sg.join r.bi) i
def Rd.pub (r : Rd) : Rd := { r with sg := r.sg.setW (r.miss.headD 0) (r.both (r.miss.headD 0)) }.on
/-- The head of its slot lets it go on. -/
def Rd.fair (r : Rd) (h : Hd) : Bool := (h.sa == 2) && (h.gn == r.gn) && !h.dm
def Rd.next (r : Rd) (z : SSt) : Rd :=
  if r.st = 0 then r.pub
  else if r.st = 1 then { r with va := loadR z.xs r.ce, st := 2 }
  else if r.st = 2 then (if z.x.n % 2 = 0 then (if z.x.n = r.sn then { r with st := 3 } else { r with sn := z.x.n, st := 1 }) else r)
  else if r.st = 3 then { r with st := 4, e := if r.fair (nowAt z.hs r.sl) then 0 else 7 }
  else r
def SSt.glook (z : SSt) : SSt := ⟨z.s.note 2 0 1 true, z.xs, z.x, z.hs, z.ws, z.ev⟩
def SSt.look (z : SSt) (i : Int) : SSt := ⟨lookS z.s z.hs i, z.xs, z.x, z.hs, z.ws, z.ev⟩
def SSt.reads (z : SSt) (r : Rd) : SSt :=
  if r.st = 0 then z.put r.sl (r.miss.headD 0 : Nat) (r.both (r.miss.headD 0) : Nat)
  else if r.st = 1 then z.load r.ce
  else if r.st = 2 then z.glook
  else if r.st = 3 then z.look r.sl
  else z
def Rd.ans (r : Rd) (z : SSt) : Int := if r.st = 4 then 3 else if r.st = 2 ∧ z.x.n % 2 ≠ 0 then 2 else 1
def Rd.new (sl gn sn : Int) (sg : Sg) (ce : Int) (bi : Sg) : Rd := (⟨sl, gn, sn, sg, ce, bi, 0, 0, 4⟩ : Rd).on
/-- What a read may be. -/
structure Rd.fit (r : Rd) : Prop where
  sg : r.sg.ok
  bi : r.bi.ok
  st : r.st ≤ 4
  pub : r.st = 0 → r.miss ≠ []
theorem SSt.ok.glook {z : SSt} {c : Cfg} {k : Nat} (h : z.ok c k) : z.glook.ok c (k + 1) :=
  let g := h.more (Nat.le_succ k); ⟨h.met.note _ _ _ _, g.hd, g.g0, g.g1, g.gk, g.wl, g.el, g.cl, g.hl, g.c1, g.c2, g.h1, g.h8⟩
theorem SSt.ok.look {z : SSt} {c : Cfg} {k : Nat} (h : z.ok c k) (i : Int) : (z.look i).ok c (k + 1) :=
  let g := h.more (Nat.le_succ k); ⟨lookS_within h.met _ _, g.hd, g.g0, g.g1, g.gk, g.wl, g.el, g.cl, g.hl, g.c1, g.c2, g.h1, g.h8⟩
theorem SSt.ok.reads {z : SSt} {c : Cfg} {k : Nat} (h : z.ok c k) (r : Rd) : (z.reads r).ok c (k + 1) := by
  unfold SSt.reads
  split
  · exact h.put _ _ _
  · split
    · exact h.load _
    · split
      · exact h.glook
      · split
        · exact h.look _
        · exact h.more (Nat.le_succ _)
theorem words_lt {d : Sg} {i : Nat} (h : i ∈ d.words) : i < 2 := by
  have := (List.mem_filter.1 h).1
  simpa using this
theorem miss_head {r : Rd} (h : r.miss ≠ []) : ∃ i l, r.miss = i :: l ∧ i < 2 ∧ r.miss.headD 0 = i := by
  match hm : r.miss with
  | [] => exact absurd hm h
  | i :: l => exact ⟨i, l, rfl, words_lt (d := r.bi.minus r.sg) (by show i ∈ r.miss; rw [hm]; simp), rfl⟩
theorem word_lt {d : Sg} (h : d.ok) (i : Nat) : word d i < 18446744073709551616 := by
  unfold word; split
  · exact h.1
  · exact h.2
theorem Sg.ok_setW {s : Sg} (h : s.ok) (i x : Nat) (hx : x < 18446744073709551616) : (s.setW i x).ok := by
  unfold Sg.setW; split
  · exact ⟨hx, h.2⟩
  · exact ⟨h.1, hx⟩
theorem Rd.fit_on {r : Rd} (h1 : r.sg.ok) (h2 : r.bi.ok) : r.on.fit := by
  refine ⟨h1, h2, ?_, ?_⟩
  · unfold Rd.on; simp only; split <;> omega
  · intro h0 hm
    have hm' : r.miss = [] := hm
    unfold Rd.on at h0
    simp [hm'] at h0
theorem Rd.fit.next {r : Rd} (h : r.fit) (z : SSt) : (r.next z).fit := by
  unfold Rd.next
  split
  · exact Rd.fit_on (r := { r with sg := r.sg.setW (r.miss.headD 0) (r.both (r.miss.headD 0)) }) (Sg.ok_setW h.sg _ _ (word_lt (Sg.ok_join h.sg h.bi) _)) h.bi
  · split
    · exact ⟨h.sg, h.bi, by simp, by simp⟩
    · split
      · split
        · split
          · exact ⟨h.sg, h.bi, by simp, by simp⟩
          · exact ⟨h.sg, h.bi, by simp, by simp⟩
        · exact h
      · split
        · exact ⟨h.sg, h.bi, by simp, by simp⟩
        · exact h
end Go.Proofs.YthbcbjkgjgmegaaGreat

namespace Go.Proofs.YthbcbjkgjgmegaaGreat
open Go.RowKit
set_option linter.unusedVariables false
set_option linter.unusedSimpArgs false
attribute [local go_sem ↓] Go.wp_at_zero Go.wp_at_succ

/-- What the next step is, as a value: a method of the read in block k. -/
def nextV (k : Nat) (st : Nat) : Value :=
  if st = 0 then .func (.func 275) #[.pointer (some ⟨k, 0, none⟩)] #[]
  else if st = 1 then .func (.func 276) #[.pointer (some ⟨k, 0, none⟩)] #[]
  else if st = 2 then .func (.func 294) #[.pointer (some ⟨k, 0, none⟩)] #[]
  else if st = 3 then .func (.func 302) #[.pointer (some ⟨k, 0, none⟩)] #[]
  else .nilFunc
def Rd.cells (r : Rd) (s k : Nat) : Array Value :=
  #[.pointer (some ⟨s, 0, none⟩), .int .i64 r.sl, .int .i64 r.gn, .int .i64 r.sn, .int .u64 r.sg.lo, .int .u64 r.sg.hi, .int .i64 r.ce, .int .u64 r.bi.lo, .int .u64 r.bi.hi, nextV k r.st, .int .i64 r.va, .int .i64 r.e]
def rdI (k s : Nat) (r : Rd) : It := boxI k (r.cells s k) 349
def rdp (k : Nat) : Value := .pointer (some ⟨k, 0, none⟩)

section
variable {o w : World} {its : List It} {A : Ad} {c : Cfg} {z : SSt} {v u : Value} {k s : Nat} {r : Rd}
theorem rdCell (h : St o its w) (j : Nat) (hj : its[j]? = some (rdI k s r)) (n : Nat) : w.cell? ⟨k, n, none⟩ = (r.cells s k)[n]? := h.cell j hj n
theorem rdFrozen (h : St o its w) (j : Nat) (hj : its[j]? = some (rdI k s r)) (n : Nat) : w.frozen? ⟨k, n, none⟩ = false := h.frozen j hj n

set_option maxRecDepth 100000 in
set_option maxHeartbeats 1000000 in
theorem rdMissing (h : St o its w) (j : Nat) (hj : its[j]? = some (rdI k s r)) (h1 : r.sg.ok) (h2 : r.bi.ok) :
    Calls Tryz.prog 274 #[.pointer (some ⟨k, 0, none⟩)] w fun e w' => ∃ v, e = .returned v ∧ w'.ownsRow w.heap.size 3 1 v r.miss.length (cellsOf r.miss) ∧ Kept (fun _ => False) w w' := by
  have c4 : w.cell? ⟨k, 4, none⟩ = some (.int .u64 r.sg.lo) := rdCell h j hj 4
  have c5 : w.cell? ⟨k, 5, none⟩ = some (.int .u64 r.sg.hi) := rdCell h j hj 5
  have c7 : w.cell? ⟨k, 7, none⟩ = some (.int .u64 r.bi.lo) := rdCell h j hj 7
  have c8 : w.cell? ⟨k, 8, none⟩ = some (.int .u64 r.bi.hi) := rdCell h j hj 8
  have hq : Calls Tryz.prog 290 #[.agg #[.int .u64 r.sg.lo, .int .u64 r.sg.hi], .agg #[.int .u64 r.bi.lo, .int .u64 r.bi.hi]] w.drew fun e w' => ∃ v, e = .returned v ∧ (w'.cell? ⟨k, 4, none⟩ = some (.int .u64 r.sg.lo) ∧ w'.cell? ⟨k, 5, none⟩ = some (.int .u64 r.sg.hi) ∧ w'.cell? ⟨k, 7, none⟩ = some (.int .u64 r.bi.lo) ∧ w'.cell? ⟨k, 8, none⟩ = some (.int .u64 r.bi.hi)) ∧ Hid (w'.ownsRow w.heap.size 3 1 v r.miss.length (cellsOf r.miss) ∧ Kept (fun _ => False) w w') := by
    refine (touched_any r.sg r.bi h1 h2 w.drew).mono ?_
    rintro e w' ⟨v, he, ho, hk⟩
    have h' := h.drew.calm hk
    exact ⟨v, he, ⟨rdCell h' j hj 4, rdCell h' j hj 5, rdCell h' j hj 7, rdCell h' j hj 8⟩, ho, hk.ofDrew⟩
  clear h hj h1 h2
  generalize w.heap.size = H at *
  generalize r.miss = M at *
  obtain ⟨sl, gn, sn, ⟨g0, g1⟩, ce, ⟨b0, b1⟩, st, va, er⟩ := r
  simp only at *
  go_enter Tryz.func274, Tryz.ntmps274
  go_upto_region 1 with fail
  go_region_held3 (fun W => W.cell? ⟨k, 4, none⟩ = some (.int .u64 g0) ∧ W.cell? ⟨k, 5, none⟩ = some (.int .u64 g1) ∧ W.cell? ⟨k, 7, none⟩ = some (.int .u64 b0) ∧ W.cell? ⟨k, 8, none⟩ = some (.int .u64 b1)) (first | go_keep | exact rS)
    (first | (go_at_call 290; refine hq.mono ?_; rintro e w2 ⟨v, rfl, rS, HS⟩))
  clear hq c4 c5 c7 c8 rS
  go_wp2
  go_ret
  exact ⟨v, rfl, HS.out.1, HS.out.2⟩

set_option maxRecDepth 100000 in
set_option maxHeartbeats 1000000 in
theorem rdGoOn (h : St o its w) (j : Nat) (hj : its[j]? = some (rdI k s r)) (h1 : r.sg.ok) (h2 : r.bi.ok) :
    Calls Tryz.prog 249 #[.pointer (some ⟨k, 0, none⟩)] w fun e w' => e = .returned (.tuple #[]) ∧ St o (its.set j (rdI k s r.on)) w' := by
  have hq := rdMissing h j hj h1 h2
  have HR : Hid (∀ W, Kept (fun _ => False) w W → St o its W) := fun W hk => h.calm hk
  have HJ : Hid (its[j]? = some (rdI k s r)) := hj
  clear h hj h1 h2
  unfold Rd.on
  by_cases hm : r.miss = []
  · rw [if_pos hm]
    rw [hm] at hq
    go_enter Tryz.func249, Tryz.ntmps249
    go_wp2_with fail
    refine hq.mono ?_
    rintro e w1 ⟨v, rfl, ho, hk⟩
    have h1 := HR.out _ hk
    obtain ⟨a, cap, rfl⟩ := own_form (w := w1) (t := 3) (z := 1) (v := v) (n := 0) (xs := []) (own_zero ho)
    have f9 := rdFrozen h1 j HJ.out 9
    have c9 : w1.cell? ⟨k, 9, none⟩ = some (nextV k r.st) := rdCell h1 j HJ.out 9
    have HT : Hid (∀ x, St o (its.set j (boxI k ((r.cells s k).setIfInBounds 9 x) 349)) (w1.setCell ⟨k, 9, none⟩ x)) := fun x => h1.write j HJ.out 9 x
    generalize nextV k r.st = nv at c9
    clear hq ho hk h1 HR HJ
    go_wp2
    go_end0
    exact ⟨rfl, HT.out _⟩
  · rw [if_neg hm]
    have hl : (0 : Int) < (r.miss.length : Int) := by
      have := List.length_pos_iff.2 hm
      omega
    generalize r.miss = M at hq hl
    go_enter Tryz.func249, Tryz.ntmps249
    go_wp2_with fail
    refine hq.mono ?_
    rintro e w1 ⟨v, rfl, ho, hk⟩
    have h1 := HR.out _ hk
    obtain ⟨a, cap, rfl⟩ := own_form (w := w1) (t := 3) (z := 1) (v := v) (n := M.length) (xs := cellsOf M) (own_zero ho)
    have f9 := rdFrozen h1 j HJ.out 9
    have c9 : w1.cell? ⟨k, 9, none⟩ = some (nextV k r.st) := rdCell h1 j HJ.out 9
    have HT : Hid (∀ x, St o (its.set j (boxI k ((r.cells s k).setIfInBounds 9 x) 349)) (w1.setCell ⟨k, 9, none⟩ x)) := fun x => h1.write j HJ.out 9 x
    generalize nextV k r.st = nv at c9
    generalize M.length = ML at *
    clear hq ho hk h1 HR HJ hm
    go_wp2
    go_end0
    exact ⟨rfl, HT.out _⟩
end
end Go.Proofs.YthbcbjkgjgmegaaGreat

namespace Go.Proofs.YthbcbjkgjgmegaaGreat
open Go.RowKit
set_option linter.unusedVariables false
set_option linter.unusedSimpArgs false
attribute [local go_sem ↓] Go.wp_at_zero Go.wp_at_succ

section
variable {o w : World} {its : List It} {A : Ad} {c : Cfg} {z : SSt} {v u : Value} {k s : Nat} {r : Rd}
theorem spLook (h : St o its w) (i : Nat) (hi : its[i]? = some (spI A c z v u)) {n : Nat} (ok : z.ok c n) (hn : n ≤ 4611686018427) (j : Int) : Calls Tryz.prog 309 #[.pointer (some ⟨A.t, 0, none⟩), .int .i64 j] w fun e w' => e = .returned (.tuple #[(nowAt z.hs j).val, .int .i64 (lookE z.hs j)]) ∧ ∃ v', St o (its.set i (spI A c (z.look j) v' u)) w' := by
  refine (tabLook_st (h.open i hi) 7 3 5 spAt7 spAt3 spAt5 (by omega) ok.met hn j).mono ?_
  rintro e w' ⟨he, v', h'⟩
  exact ⟨he, v', St.shut (l := spL A c (z.look j) v' u) hi h'⟩
theorem spGLook (h : St o its w) (i : Nat) (hi : its[i]? = some (spI A c z v u)) {n : Nat} (ok : z.ok c n) (hn : n ≤ 4611686018427) : Calls Tryz.prog 301 #[.pointer (some ⟨A.g, 0, none⟩)] w fun e w' => e = .returned z.x.val ∧ ∃ v', St o (its.set i (spI A c z.glook v' u)) w' := by
  refine (gateLook_st (h.open i hi) 7 1 2 spAt7 spAt1 spAt2 (by omega) ok.met hn).mono ?_
  rintro e w' ⟨he, v', h'⟩
  exact ⟨he, v', St.shut (l := spL A c z.glook v' u) hi h'⟩

set_option maxRecDepth 100000 in
set_option maxHeartbeats 2000000 in
theorem rdPublish (h : St o its w) (i j : Nat) (hij : i ≠ j) (hi : its[i]? = some (spI A c z v u)) (hj : its[j]? = some (rdI k A.sp r)) {n : Nat} (ok : z.ok c n) (hn : n ≤ 4611686018427) (hr : r.fit) (h0 : r.st = 0) :
    Calls Tryz.prog 275 #[.pointer (some ⟨k, 0, none⟩)] w fun e w' => e = .returned (.int .i64 1) ∧ ∃ v', St o ((its.set i (spI A c (z.put r.sl (r.miss.headD 0 : Nat) (r.both (r.miss.headD 0) : Nat)) v' u)).set j (rdI k A.sp r.pub)) w' := by
  obtain ⟨p, l, hm, hp2, hd⟩ := miss_head (hr.pub h0)
  have hq := rdMissing h j hj hr.sg hr.bi
  rw [hm] at hq
  unfold Rd.pub
  rw [hd]
  have hJ : ∀ W, Calls Tryz.prog 291 #[r.sg.val, r.bi.val] W fun e w' => e = .returned (r.sg.join r.bi).val ∧ Kept (fun _ => False) W w' := fun W => join_any r.sg r.bi hr.sg hr.bi W
  have hI : ∀ w, (Instr.index 130 (r.sg.join r.bi).val (.int .i64 p)).run Tryz.prog w = .ok (.int .u64 (r.both p : Nat)) w := word_idx (r.sg.join r.bi) p hp2
  have hPut : ∀ W, St o its W → Calls Tryz.prog 292 #[.pointer (some ⟨A.t, 0, none⟩), .int .i64 r.sl, .int .i64 (p : Nat), .int .u64 (r.both p : Nat)] W fun e w' => ∃ E, e = .returned (.int .i64 E) ∧ ∃ v', St o (its.set i (spI A c (z.put r.sl (p : Nat) (r.both p : Nat)) v' u)) w' := fun W hW => (spPut hW i hi ok hn r.sl p (r.both p)).mono fun e w' ⟨he, hx⟩ => ⟨_, he, hx⟩
  have hSl : ∀ W, St o its W → Calls Tryz.prog 243 #[spp A] W fun e w' => e = .returned (.pointer (some ⟨A.t, 0, none⟩)) ∧ w' = W := fun W hW => spSlots hW i hi
  have hOn : ∀ W v', St o ((its.set i (spI A c (z.put r.sl (p : Nat) (r.both p : Nat)) v' u)).set j (rdI k A.sp { r with sg := r.sg.setW p (r.both p) })) W → Calls Tryz.prog 249 #[.pointer (some ⟨k, 0, none⟩)] W fun e w' => e = .returned (.tuple #[]) ∧ St o ((its.set i (spI A c (z.put r.sl (p : Nat) (r.both p : Nat)) v' u)).set j (rdI k A.sp ({ r with sg := r.sg.setW p (r.both p) } : Rd).on)) w' := by
    intro W v' hW
    have hx : ((its.set i (spI A c (z.put r.sl (p : Nat) (r.both p : Nat)) v' u)).set j (rdI k A.sp { r with sg := r.sg.setW p (r.both p) }))[j]? = some (rdI k A.sp { r with sg := r.sg.setW p (r.both p) }) := set_self (set_other hj hij)
    refine (rdGoOn hW j hx (Sg.ok_setW hr.sg _ _ (word_lt (Sg.ok_join hr.sg hr.bi) _)) hr.bi).mono ?_
    rintro e w' ⟨he, h'⟩
    rw [set_same] at h'
    exact ⟨he, h'⟩
  have HJ : Hid (∀ v', (its.set i (spI A c (z.put r.sl (p : Nat) (r.both p : Nat)) v' u))[j]? = some (rdI k A.sp r)) := fun v' => set_other hj hij
  have HJ0 : Hid (its[j]? = some (rdI k A.sp r)) := hj
  have HR : Hid (∀ W, Kept (fun _ => False) w W → St o its W) := fun W hk => h.calm hk
  clear h hi hj ok hr hm hd
  generalize hbb : r.both p = B at *
  clear hbb
  generalize r.sg.join r.bi = J at *
  obtain ⟨J0, J1⟩ := J
  obtain ⟨sl, gn, sn, ⟨g0, g1⟩, ce, ⟨b0, b1⟩, st, va, er⟩ := r
  simp only [Sg.val, spp] at *
  generalize z.put sl (p : Nat) (B : Nat) = z' at *
  go_enter Tryz.func275, Tryz.ntmps275
  go_wp2_with fail
  refine hq.mono ?_
  rintro e w1 ⟨v1, rfl, ho, hk⟩
  have h1 := HR.out _ hk
  obtain ⟨g, cap, rfl, _, _⟩ := ho.form (by simp)
  have cg : w1.cell? ⟨g, 0, none⟩ = some (.int .i64 (p : Nat)) := ((HR.out _ (Kept.refl _ w)).own hk ho).ownCell 0 rfl 0 (by simp)
  have hl0 : (0 : Int) < ((p :: l).length : Int) := by simp
  generalize (p :: l).length = L at *
  have c0 : w1.cell? ⟨k, 0, none⟩ = some (.pointer (some ⟨A.sp, 0, none⟩)) := rdCell h1 j HJ0.out 0
  have c1 : w1.cell? ⟨k, 1, none⟩ = some (.int .i64 sl) := rdCell h1 j HJ0.out 1
  have c4 : w1.cell? ⟨k, 4, none⟩ = some (.int .u64 g0) := rdCell h1 j HJ0.out 4
  have c5 : w1.cell? ⟨k, 5, none⟩ = some (.int .u64 g1) := rdCell h1 j HJ0.out 5
  have c7 : w1.cell? ⟨k, 7, none⟩ = some (.int .u64 b0) := rdCell h1 j HJ0.out 7
  have c8 : w1.cell? ⟨k, 8, none⟩ = some (.int .u64 b1) := rdCell h1 j HJ0.out 8
  have hJ1 : Calls Tryz.prog 291 #[.agg #[.int .u64 g0, .int .u64 g1], .agg #[.int .u64 b0, .int .u64 b1]] w1.drew fun e w' => e = .returned (.agg #[.int .u64 J0, .int .u64 J1]) ∧ (w'.cell? ⟨k, 4, none⟩ = some (.int .u64 g0) ∧ w'.cell? ⟨k, 5, none⟩ = some (.int .u64 g1) ∧ w'.cell? ⟨k, 7, none⟩ = some (.int .u64 b0) ∧ w'.cell? ⟨k, 8, none⟩ = some (.int .u64 b1)) ∧ Hid (St o its w') := by
    refine (hJ w1.drew).mono ?_
    rintro e w' ⟨he, hk'⟩
    have h' := h1.drew.calm hk'
    exact ⟨he, ⟨rdCell h' j HJ0.out 4, rdCell h' j HJ0.out 5, rdCell h' j HJ0.out 7, rdCell h' j HJ0.out 8⟩, h'⟩
  have HF : Hid (∀ W, Hid (St o its W) → W.cell? ⟨k, 0, none⟩ = some (.pointer (some ⟨A.sp, 0, none⟩)) ∧ W.cell? ⟨k, 1, none⟩ = some (.int .i64 sl)) := fun W hW => ⟨rdCell hW.out j HJ0.out 0, rdCell hW.out j HJ0.out 1⟩
  have hSl1 : ∀ W, Hid (St o its W) → Calls Tryz.prog 243 #[.pointer (some ⟨A.sp, 0, none⟩)] W.drew fun e w' => e = .returned (.pointer (some ⟨A.t, 0, none⟩)) ∧ (w'.cell? ⟨k, 0, none⟩ = some (.pointer (some ⟨A.sp, 0, none⟩)) ∧ w'.cell? ⟨k, 1, none⟩ = some (.int .i64 sl)) ∧ Hid (St o its w') := by
    intro W hW
    refine (hSl _ hW.out.drew).mono ?_
    rintro e w' ⟨he, rfl⟩
    exact ⟨he, HF.out _ hW.out.drew, hW.out.drew⟩
  have hPut1 : ∀ W, Hid (St o its W) → Calls Tryz.prog 292 #[.pointer (some ⟨A.t, 0, none⟩), .int .i64 sl, .int .i64 (p : Nat), .int .u64 (B : Nat)] W fun e w' => ∃ E, e = .returned (.int .i64 E) ∧ (w'.cell? ⟨k, 0, none⟩ = some (.pointer (some ⟨A.sp, 0, none⟩)) ∧ w'.cell? ⟨k, 1, none⟩ = some (.int .i64 sl)) ∧ ∃ v', Hid (St o (its.set i (spI A c z' v' u)) w') := by
    intro W hW
    refine (hPut W hW.out).mono ?_
    rintro e w' ⟨E, he, v', h'⟩
    exact ⟨E, he, ⟨rdCell h' j (HJ.out v') 0, rdCell h' j (HJ.out v') 1⟩, v', h'⟩
  clear hJ hSl hPut hq ho hk h1 HR
  go_upto_region 2 with fail
  go_region_held3 (fun W => W.cell? ⟨k, 4, none⟩ = some (.int .u64 g0) ∧ W.cell? ⟨k, 5, none⟩ = some (.int .u64 g1) ∧ W.cell? ⟨k, 7, none⟩ = some (.int .u64 b0) ∧ W.cell? ⟨k, 8, none⟩ = some (.int .u64 b1)) (first | go_keep | exact rS)
    (first | (go_at_call 291; refine hJ1.mono ?_; rintro e w2 ⟨rfl, rS, HS⟩))
  clear hJ1 c0 c1 c4 c5 c7 c8 cg rS
  obtain ⟨c0, c1⟩ := HF.out _ HS
  have hSl2 := hSl1 _ HS
  clear hSl1 HF HJ0
  go_upto_region 3 with fail
  go_region_held3 (fun W => W.cell? ⟨k, 0, none⟩ = some (.pointer (some ⟨A.sp, 0, none⟩)) ∧ W.cell? ⟨k, 1, none⟩ = some (.int .i64 sl)) (first | go_keep | exact rS)
    (first | (go_at_call 243; refine hSl2.mono ?_; rintro e w3 ⟨rfl, rS, HS3⟩) | (go_at_call 292; refine (hPut1 _ HS3).mono ?_; rintro e w4 ⟨E, rfl, rS, v', HS4⟩))
  clear hSl2 hPut1 c0 c1 rS HS HS3
  have f4 := rdFrozen HS4.out j (HJ.out v') 4
  have f5 := rdFrozen HS4.out j (HJ.out v') 5
  have d4 : w4.cell? ⟨k, 4, none⟩ = some (.int .u64 g0) := rdCell HS4.out j (HJ.out v') 4
  have d5 : w4.cell? ⟨k, 5, none⟩ = some (.int .u64 g1) := rdCell HS4.out j (HJ.out v') 5
  rcases (show p = 0 ∨ p = 1 by omega) with rfl | rfl
  · have h5 : St o ((its.set i (spI A c z' v' u)).set j (rdI k A.sp ⟨sl, gn, sn, Sg.setW ⟨g0, g1⟩ 0 B, ce, ⟨b0, b1⟩, st, va, er⟩)) (w4.setCell ⟨k, 4, none⟩ (.int .u64 (B : Nat))) := HS4.out.write j (HJ.out v') 4 (.int .u64 (B : Nat))
    have hOn1 := hOn _ _ h5
    clear h5 HS4 HJ hOn
    go_wp2_with fail
    refine hOn1.mono ?_
    rintro e w6 ⟨rfl, h6⟩
    have H6 : Hid _ := h6
    clear hOn1 h6 f4 f5 d4 d5
    go_wp2
    go_ret
    exact ⟨rfl, v', H6.out⟩
  · have h5 : St o ((its.set i (spI A c z' v' u)).set j (rdI k A.sp ⟨sl, gn, sn, Sg.setW ⟨g0, g1⟩ 1 B, ce, ⟨b0, b1⟩, st, va, er⟩)) (w4.setCell ⟨k, 5, none⟩ (.int .u64 (B : Nat))) := HS4.out.write j (HJ.out v') 5 (.int .u64 (B : Nat))
    have hOn1 := hOn _ _ h5
    clear h5 HS4 HJ hOn
    go_wp2_with fail
    refine hOn1.mono ?_
    rintro e w6 ⟨rfl, h6⟩
    have H6 : Hid _ := h6
    clear hOn1 h6 f4 f5 d4 d5
    go_wp2
    go_ret
    exact ⟨rfl, v', H6.out⟩
end
end Go.Proofs.YthbcbjkgjgmegaaGreat

namespace Go.Proofs.YthbcbjkgjgmegaaGreat
open Go.RowKit
set_option linter.unusedVariables false
set_option linter.unusedSimpArgs false
attribute [local go_sem ↓] Go.wp_at_zero Go.wp_at_succ

section
variable {o w : World} {its : List It} {A : Ad} {c : Cfg} {z : SSt} {v u : Value} {k s : Nat} {r : Rd}

set_option maxRecDepth 100000 in
set_option maxHeartbeats 2000000 in
theorem rdLoad (h : St o its w) (i j : Nat) (hij : i ≠ j) (hi : its[i]? = some (spI A c z v u)) (hj : its[j]? = some (rdI k A.sp r)) {n : Nat} (ok : z.ok c n) (hn : n ≤ 4611686018427) :
    Calls Tryz.prog 276 #[.pointer (some ⟨k, 0, none⟩)] w fun e w' => e = .returned (.int .i64 1) ∧ ∃ v', St o ((its.set i (spI A c (z.load r.ce) v' u)).set j (rdI k A.sp { r with va := loadR z.xs r.ce, st := 2 })) w' := by
  have c0 : w.cell? ⟨k, 0, none⟩ = some (.pointer (some ⟨A.sp, 0, none⟩)) := rdCell h j hj 0
  have c6 : w.cell? ⟨k, 6, none⟩ = some (.int .i64 r.ce) := rdCell h j hj 6
  have x0 : w.drew.cell? ⟨k, 0, none⟩ = some (.pointer (some ⟨A.sp, 0, none⟩)) := rdCell h.drew j hj 0
  have x6 : w.drew.cell? ⟨k, 6, none⟩ = some (.int .i64 r.ce) := rdCell h.drew j hj 6
  have hq : Calls Tryz.prog 293 #[.pointer (some ⟨A.sp, 0, none⟩), .int .i64 r.ce] w.drew fun e w' => e = .returned (.tuple #[.int .i64 (loadR z.xs r.ce), .int .i64 (loadE z.xs r.ce)]) ∧ ∃ v', w'.cell? ⟨k, 0, none⟩ = some (.pointer (some ⟨A.sp, 0, none⟩)) ∧ w'.cell? ⟨k, 6, none⟩ = some (.int .i64 r.ce) ∧ w'.cell? ⟨k, 10, none⟩ = some (.int .i64 r.va) ∧ w'.frozen? ⟨k, 10, none⟩ = false ∧ Hid (St o (its.set i (spI A c (z.load r.ce) v' u)) w') := by
    refine (spLoad h.drew i hi ok hn r.ce).mono ?_
    rintro e w' ⟨he, v', h'⟩
    have hj' := set_other (A := spI A c (z.load r.ce) v' u) hj hij
    exact ⟨he, v', rdCell h' j hj' 0, rdCell h' j hj' 6, rdCell h' j hj' 10, rdFrozen h' j hj' 10, h'⟩
  have HJ : Hid (∀ v', (its.set i (spI A c (z.load r.ce) v' u))[j]? = some (rdI k A.sp r)) := fun v' => set_other hj hij
  clear h hi hj ok hij
  generalize loadR z.xs r.ce = R at *
  generalize loadE z.xs r.ce = E at *
  generalize z.load r.ce = z' at *
  obtain ⟨sl, gn, sn, ⟨g0, g1⟩, ce, ⟨b0, b1⟩, st, va, er⟩ := r
  simp only at *
  go_enter Tryz.func276, Tryz.ntmps276
  go_upto_region 1 with fail
  go_region_with (go_at_call 293; refine hq.mono ?_; rintro e w2 ⟨rfl, v', d0, d6, d10, f10, HS⟩)
  all_goals
    have h3 : St o ((its.set i (spI A c z' v' u)).set j (rdI k A.sp ⟨sl, gn, sn, ⟨g0, g1⟩, ce, ⟨b0, b1⟩, st, R, er⟩)) (w2.setCell ⟨k, 10, none⟩ (.int .i64 R)) := HS.out.write j (HJ.out v') 10 (.int .i64 R)
    have hj3 : ((its.set i (spI A c z' v' u)).set j (rdI k A.sp ⟨sl, gn, sn, ⟨g0, g1⟩, ce, ⟨b0, b1⟩, st, R, er⟩))[j]? = some (rdI k A.sp ⟨sl, gn, sn, ⟨g0, g1⟩, ce, ⟨b0, b1⟩, st, R, er⟩) := set_self (HJ.out v')
    have f9 := rdFrozen h3 j hj3 9
    have c9 : (w2.setCell ⟨k, 10, none⟩ (.int .i64 R)).cell? ⟨k, 9, none⟩ = some (nextV k st) := rdCell h3 j hj3 9
    have HT : Hid (∀ x, St o (((its.set i (spI A c z' v' u)).set j (rdI k A.sp ⟨sl, gn, sn, ⟨g0, g1⟩, ce, ⟨b0, b1⟩, st, R, er⟩)).set j (boxI k ((Rd.cells ⟨sl, gn, sn, ⟨g0, g1⟩, ce, ⟨b0, b1⟩, st, R, er⟩ A.sp k).setIfInBounds 9 x) 349)) ((w2.setCell ⟨k, 10, none⟩ (.int .i64 R)).setCell ⟨k, 9, none⟩ x)) := fun x => h3.write j hj3 9 x
    clear h3 hj3 HS HJ hq
    generalize nextV k st = nv at c9
    generalize w2.setCell ⟨k, 10, none⟩ (.int .i64 R) = w3 at *
    go_wp2
    go_ret
    refine ⟨rfl, v', ?_⟩
    have h4 := HT.out (nextV k 2)
    rw [set_same] at h4
    exact h4

theorem even_cases (n : Int) : (n % 2 = 0 ∧ (n % 2 != 0) = false) ∨ (n % 2 ≠ 0 ∧ (n % 2 != 0) = true) := by
  by_cases h : n % 2 = 0
  · exact .inl ⟨h, by simp [h]⟩
  · exact .inr ⟨h, by simpa using h⟩

set_option maxRecDepth 100000 in
set_option maxHeartbeats 2000000 in
theorem rdGate (h : St o its w) (i j : Nat) (hij : i ≠ j) (hi : its[i]? = some (spI A c z v u)) (hj : its[j]? = some (rdI k A.sp r)) {n : Nat} (ok : z.ok c n) (hn : n ≤ 4611686018427) (h2 : r.st = 2) :
    Calls Tryz.prog 294 #[.pointer (some ⟨k, 0, none⟩)] w fun e w' => e = .returned (.int .i64 (if z.x.n % 2 = 0 then 1 else 2)) ∧ ∃ v', St o ((its.set i (spI A c z.glook v' u)).set j (rdI k A.sp (r.next z))) w' := by
  have c0 : w.cell? ⟨k, 0, none⟩ = some (.pointer (some ⟨A.sp, 0, none⟩)) := rdCell h j hj 0
  have hg : Calls Tryz.prog 300 #[.pointer (some ⟨A.sp, 0, none⟩)] w fun e w' => e = .returned (.pointer (some ⟨A.g, 0, none⟩)) ∧ w' = w := spGate h i hi
  have hq : Calls Tryz.prog 301 #[.pointer (some ⟨A.g, 0, none⟩)] w fun e w' => e = .returned (.agg #[.int .i64 z.x.n, .int .i64 z.x.o]) ∧ ∃ v', Hid (St o (its.set i (spI A c z.glook v' u)) w') := spGLook h i hi ok hn
  have n0 : 0 ≤ z.x.n := ok.g0
  have n1 : z.x.n ≤ 4611686018427 := by have := ok.g1; omega
  have HJ : Hid (∀ v', (its.set i (spI A c z.glook v' u))[j]? = some (rdI k A.sp r)) := fun v' => set_other hj hij
  have HN : Hid (r.next z = (if z.x.n % 2 = 0 then (if z.x.n = r.sn then { r with st := 3 } else { r with sn := z.x.n, st := 1 }) else r)) := by
    show _ = _
    unfold Rd.next
    rw [if_neg (by omega), if_neg (by omega), if_pos h2]
  rw [HN.out]
  clear HN h hi hj ok hij
  generalize z.glook = z' at *
  generalize z.x.n = N at *
  generalize z.x.o = O at *
  obtain ⟨sl, gn, sn, ⟨g0, g1⟩, ce, ⟨b0, b1⟩, st, va, er⟩ := r
  simp only at *
  subst h2
  have hF := gtField_n N O
  rcases even_cases N with ⟨e1, e2⟩ | ⟨e1, e2⟩
  · rw [if_pos e1, if_pos e1]
    have e1' : Hid (N % 2 = 0) := e1
    clear e1
    by_cases hs : N = sn
    · subst hs
      rw [if_pos rfl]
      have e3 : (N != N) = false := by simp
      go_enter Tryz.func294, Tryz.ntmps294
      go_wp2_with fail
      refine hg.mono ?_
      rintro e w1 ⟨rfl, rfl⟩
      go_wp2_with fail
      refine hq.mono ?_
      rintro e w2 ⟨rfl, v', HS⟩
      have d3 : w2.cell? ⟨k, 3, none⟩ = some (.int .i64 N) := rdCell HS.out j (HJ.out v') 3
      have f9 := rdFrozen HS.out j (HJ.out v') 9
      have c9 : w2.cell? ⟨k, 9, none⟩ = some (nextV k 2) := rdCell HS.out j (HJ.out v') 9
      have HT : Hid (St o ((its.set i (spI A c z' v' u)).set j (rdI k A.sp ⟨sl, gn, N, ⟨g0, g1⟩, ce, ⟨b0, b1⟩, 3, va, er⟩)) (w2.setCell ⟨k, 9, none⟩ (nextV k 3))) := HS.out.write j (HJ.out v') 9 (nextV k 3)
      generalize nextV k 2 = nv at c9
      clear HS HJ hq hg c0
      go_wp2
      go_ret
      exact ⟨rfl, v', HT.out⟩
    · rw [if_neg hs]
      have e3 : (N != sn) = true := by simpa using hs
      clear hs
      go_enter Tryz.func294, Tryz.ntmps294
      go_wp2_with fail
      refine hg.mono ?_
      rintro e w1 ⟨rfl, rfl⟩
      go_wp2_with fail
      refine hq.mono ?_
      rintro e w2 ⟨rfl, v', HS⟩
      have d3 : w2.cell? ⟨k, 3, none⟩ = some (.int .i64 sn) := rdCell HS.out j (HJ.out v') 3
      have f3 := rdFrozen HS.out j (HJ.out v') 3
      have h3 : St o ((its.set i (spI A c z' v' u)).set j (rdI k A.sp ⟨sl, gn, N, ⟨g0, g1⟩, ce, ⟨b0, b1⟩, 2, va, er⟩)) (w2.setCell ⟨k, 3, none⟩ (.int .i64 N)) := HS.out.write j (HJ.out v') 3 (.int .i64 N)
      have hj3 : ((its.set i (spI A c z' v' u)).set j (rdI k A.sp ⟨sl, gn, N, ⟨g0, g1⟩, ce, ⟨b0, b1⟩, 2, va, er⟩))[j]? = some (rdI k A.sp ⟨sl, gn, N, ⟨g0, g1⟩, ce, ⟨b0, b1⟩, 2, va, er⟩) := set_self (HJ.out v')
      have f9 := rdFrozen h3 j hj3 9
      have c9 : (w2.setCell ⟨k, 3, none⟩ (.int .i64 N)).cell? ⟨k, 9, none⟩ = some (nextV k 2) := rdCell h3 j hj3 9
      have HT : Hid (St o ((its.set i (spI A c z' v' u)).set j (rdI k A.sp ⟨sl, gn, N, ⟨g0, g1⟩, ce, ⟨b0, b1⟩, 1, va, er⟩)) ((w2.setCell ⟨k, 3, none⟩ (.int .i64 N)).setCell ⟨k, 9, none⟩ (nextV k 1))) := by
        have h4 := h3.write j hj3 9 (nextV k 1)
        rw [set_same] at h4
        exact h4
      generalize nextV k 2 = nv at c9
      clear HS HJ hq hg c0 h3 hj3
      go_wp2
      go_ret
      exact ⟨rfl, v', HT.out⟩
  · rw [if_neg e1, if_neg e1]
    have e1' : Hid (N % 2 ≠ 0) := e1
    clear e1
    go_enter Tryz.func294, Tryz.ntmps294
    go_wp2_with fail
    refine hg.mono ?_
    rintro e w1 ⟨rfl, rfl⟩
    go_wp2_with fail
    refine hq.mono ?_
    rintro e w2 ⟨rfl, v', HS⟩
    have HT : Hid (St o ((its.set i (spI A c z' v' u)).set j (rdI k A.sp ⟨sl, gn, sn, ⟨g0, g1⟩, ce, ⟨b0, b1⟩, 2, va, er⟩)) w2) := by
      show St _ _ _
      rw [set_back (HJ.out v')]
      exact HS.out
    clear HS HJ hq hg c0
    go_wp2
    go_ret
    exact ⟨rfl, v', HT.out⟩
end
end Go.Proofs.YthbcbjkgjgmegaaGreat
