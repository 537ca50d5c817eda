/- Package opaque: places put in order by the library's sort. -/
import Derived.Test.YtnmlnjljmikmpaaOc
import Derived.Test.YtnmlnjljmikmpaaOn
namespace Go.Proofs.Ytnmlnjljmikmpaa
open Go.RowKit Go.Shelf Go.Sort
set_option linter.unusedVariables false
set_option linter.unusedSimpArgs false
attribute [local go_sem ↓] Go.wp_at_zero Go.wp_at_succ

def fenc {n : Nat} (x : Fin n) : Value := .int .i64 (x.1 : Int)
def asN {n : Nat} (d : Array (Fin n)) : List Nat := d.toList.map fun x => x.1
theorem heap_growN {w : World} {os : Array Obj} {k : Nat} (h : k < w.heap.size) : (grow w os).heap[k]? = w.heap[k]? := by
  unfold grow
  exact Array.getElem?_append_left h
theorem sortWorld_far {α : Type} [Inhabited α] {enc : α → Value} {w : World} {g m : Nat} {d : Array α} {os : Array Obj} {k : Nat} (hk : k < w.heap.size) (hne : k ≠ g) : (sortWorld enc w g 0 m d os).heap[k]? = w.heap[k]? := by
  unfold sortWorld
  rw [heap_growN (by simp [putRow, mapBlock, Sort.ahead]; exact hk)]
  simp [putRow, mapBlock, Sort.ahead, Array.getElem?_modify, Ne.symm hne]
theorem sortWorld_st1 {o w : World} {R : List It} {g cap n : Nat} {xs : List Int} [Inhabited (Fin n)] (h : St o (ownI 3 1 (.slice (some ⟨g, 0, none⟩) n cap) n (fl iC xs) :: R) w) (hx : xs.length = n) (d : Array (Fin n)) (hd : d.size = n) (m : Nat) (os : Array Obj) :
    St o (ownI 3 1 (.slice (some ⟨g, 0, none⟩) n cap) n (fl iC (asI (asN d))) :: R) (sortWorld fenc w g 0 m d os) := by
  have p0 : w.ownsRow 0 3 1 (.slice (some ⟨g, 0, none⟩) n cap) n (fl iC xs) := h.get 0 rfl
  obtain ⟨h1, h2⟩ := p0
  rcases h2 with ⟨hv, _⟩ | ⟨g', cap', cur, hv, hb, hg, hn, hc, hs, ht⟩
  · cases hv
  simp only [Value.slice.injEq, Option.some.injEq, Addr.mk.injEq, true_and, and_true] at hv
  obtain ⟨rfl, rfl⟩ := hv
  have hlt := lt_of_heap hg
  have hsz : (putRow fenc (Sort.ahead w m) g 0 d).heap.size = w.heap.size := by simp [putRow, mapBlock, Sort.ahead]
  have hat : (sortWorld fenc w g 0 m d os).heap[g]? = some (.cells (putCells fenc 0 d cur) 3 (0, 0)) := by
    unfold sortWorld
    rw [heap_growN (by rw [hsz]; exact hlt)]
    simp [putRow, mapBlock, Sort.ahead, hg, onCells, Array.getElem?_modify]
  have hle : w.heap.size ≤ (sortWorld fenc w g 0 m d os).heap.size := by
    unfold sortWorld grow
    rw [Array.size_append, hsz]
    omega
  have hk : Kept (fun b => b ∈ (ownI 3 1 (.slice (some ⟨g, 0, none⟩) n cap) n (fl iC xs)).fp) w (sortWorld fenc w g 0 m d os) :=
    ⟨rfl, rfl, rfl, hle, fun k hk hne => sortWorld_far hk (fun e => hne (by rw [e]; simp [ownI, Value.ownBlock]))⟩
  refine h.set 0 rfl (A' := ownI 3 1 (.slice (some ⟨g, 0, none⟩) n cap) n (fl iC (asI (asN d)))) hk ?_ (own_nodup (.slice (some ⟨g, 0, none⟩) n cap)) (fun b hb => .inl hb)
  have hl : (asI (asN d)).length = n := by simp [asI, asN, hd]
  show World.ownsRow _ 0 3 1 (.slice (some ⟨g, 0, none⟩) n cap) n (fl iC (asI (asN d)))
  refine ⟨by rw [fl_length (k := 1) (fun _ => rfl), hl], .inr ⟨g, cap, _, rfl, Nat.zero_le _, hat, hn, hc, by simpa [putCells] using hs, ?_⟩⟩
  apply List.ext_getElem?
  intro t
  by_cases ht2 : t < n
  · have hcur : t < cur.size := by rw [hs]; omega
    rw [List.getElem?_take_of_lt (by omega)]
    have e2 := fl_at (f := iC) (k := 1) (fun _ => rfl) (asI (asN d)) t 0 ((d[t]'(by omega)).1 : Int) (by omega) (by simp [asI, asN, hd, ht2])
    rw [Nat.mul_one, Nat.add_zero] at e2
    rw [e2]
    simp only [putCells, Array.getElem?_toList, Array.getElem?_mapIdx, Array.getElem?_eq_getElem hcur, Option.map_some]
    rw [if_pos ⟨Nat.zero_le _, by omega⟩]
    have hdt : t < d.size := by omega
    simp [hdt, fenc, iC]
  · rw [List.getElem?_eq_none (by rw [List.length_take]; omega), List.getElem?_eq_none (by rw [fl_length (k := 1) (fun _ => rfl), hl]; omega)]
theorem ltF {n : Nat} (f : Nat → Pt) (x y : Fin n) : ltOf (fun x y : Fin n => ordC f x.1 y.1) x y = tlt f x.1 y.1 := by
  unfold ltOf
  cases h : tlt f x.1 y.1 with
  | true => simpa using (ordC_neg f _ _).2 h
  | false =>
    simp only [decide_eq_false_iff_not]
    intro hc
    rw [(ordC_neg f _ _).1 hc] at h
    cases h
theorem swoF {n : Nat} (f : Nat → Pt) : SWO (ltOf fun x y : Fin n => ordC f x.1 y.1) where
  irrefl x := by rw [ltF]; exact tlt_irrefl f _
  trans x y z h1 h2 := by rw [ltF] at *; exact tlt_trans h1 h2
  ntrans x y z h1 h2 := by
    rw [ltF] at *
    cases h : tlt f x.1 z.1 with
    | false => rfl
    | true =>
      have a : y.1 = x.1 ∨ tlt f y.1 x.1 = true := by
        cases hc : tlt f y.1 x.1 with
        | true => exact .inr rfl
        | false => exact .inl (tlt_total hc h1)
      have b : z.1 = y.1 ∨ tlt f z.1 y.1 = true := by
        cases hc : tlt f z.1 y.1 with
        | true => exact .inr rfl
        | false => exact .inl (tlt_total hc h2)
      have c : z.1 = x.1 ∨ tlt f z.1 x.1 = true := by
        rcases a with a | a <;> rcases b with b | b
        · exact .inl (b.trans a)
        · exact .inr (by rw [← a]; exact b)
        · exact .inr (by rw [b]; exact a)
        · exact .inr (tlt_trans b a)
      rcases c with c | c
      · rw [c, tlt_irrefl] at h; cases h
      · have := tlt_trans h c
        rw [tlt_irrefl] at this
        cases this
theorem sorted_srt {n : Nat} [Inhabited (Fin n)] {f : Nat → Pt} {d' : Array (Fin n)} (h1 : PermIn 0 (Array.ofFn fun i : Fin n => i).size (Array.ofFn fun i : Fin n => i) d') (h2 : SortedIn (ltOf fun x y : Fin n => ordC f x.1 y.1) 0 (Array.ofFn fun i : Fin n => i).size d') : d'.size = n ∧ Srt f 0 n (asN d') := by
  obtain ⟨hs, _, hp⟩ := h1
  have hs' : d'.size = n := by simpa using hs
  refine ⟨hs', ?_, ?_⟩
  · rw [show (Array.ofFn fun i : Fin n => i).size = d'.size from hs.symm] at hp
    have e1 : d'.extract 0 d'.size = d' := by simp
    have e2 : (Array.ofFn fun i : Fin n => i).extract 0 d'.size = Array.ofFn fun i : Fin n => i := by rw [hs]; simp
    rw [e1, e2] at hp
    have := hp.map (fun x : Fin n => x.1)
    refine this.trans (List.Perm.of_eq ?_)
    apply List.ext_getElem
    · simp
    · intro i a b
      simp
  · unfold asN
    rw [List.pairwise_map]
    have hap : d'.toList.Pairwise (fun x y => x.1 ≠ y.1) := by
      rw [show (Array.ofFn fun i : Fin n => i).size = d'.size from hs.symm] at hp
      have e1 : d'.extract 0 d'.size = d' := by simp
      have e2 : (Array.ofFn fun i : Fin n => i).extract 0 d'.size = Array.ofFn fun i : Fin n => i := by rw [hs]; simp
      rw [e1, e2] at hp
      refine (hp.pairwise_iff (fun {_ _} h => Ne.symm h)).2 ?_
      rw [List.pairwise_iff_getElem]
      intro i j a b hij
      simp
      omega
    rw [List.pairwise_iff_getElem] at hap ⊢
    intro i j a b hij
    have hj : j < d'.size := by simpa using b
    have hi : i < d'.size := by omega
    have := h2 i j (Nat.zero_le _) hij (by rw [← hs]; exact hj)
    rw [ltF] at this
    rw [getElem!_pos d' i hi, getElem!_pos d' j hj] at this
    cases hc : tlt f (d'[i]).1 (d'[j]).1 with
    | true => simpa using hc
    | false => exact absurd (tlt_total hc this) (by simpa using hap i j a b hij)
theorem ptCell {o w : World} {its : List It} {i pb n cap : Nat} {ps : List Pt} (h : St o its w) (hi : its[i]? = some (ownI 51 3 (.slice (some ⟨pb, 0, none⟩) n cap) n (fl ptC ps))) (hn : n = ps.length) {j : Nat} {p : Pt} (hp : ps[j]? = some p) :
    (w.cell? ⟨pb, j * 3, none⟩ = some (.int .i64 p.nu) ∧ w.cell? ⟨pb, j * 3 + 1, none⟩ = some (.int .i64 p.st) ∧ w.cell? ⟨pb, j * 3 + 2, none⟩ = some (.bool p.ch)) ∧ w.frozen? ⟨pb, j * 3, none⟩ = false ∧ w.frozen? ⟨pb, j * 3 + 1, none⟩ = false ∧ w.frozen? ⟨pb, j * 3 + 2, none⟩ = false := by
  have r := st_rin h i hi hn (f := ptC) (fun _ => rfl)
  have q := fun k u hu => r.at (k := 3) (fun _ => rfl) hp k u hu
  have q0 := q 0 _ rfl
  have q1 := q 1 _ rfl
  have q2 := q 2 _ rfl
  rw [Nat.zero_add] at q0 q1 q2
  exact ⟨⟨by simpa using q0, q1, q2⟩, h.ownFrozen i hi _, h.ownFrozen i hi _, h.ownFrozen i hi _⟩
set_option maxHeartbeats 1000000 in
theorem sort_any {o w : World} {R : List It} {g cap n V pb : Nat} {f : Nat → Pt} (hn0 : 0 < n) (hn : n ≤ 1466015503701)
    (h : St o (ownI 3 1 (.slice (some ⟨g, 0, none⟩) n cap) n (fl iC (asI (List.range n))) :: boxI V #[.slice (some ⟨pb, 0, none⟩) n n] 49 :: ownI 51 3 (.slice (some ⟨pb, 0, none⟩) n n) n (fl ptC ((List.range n).map f)) :: R) w) :
    Calls Try.prog 21 #[.slice (some ⟨g, 0, none⟩) n cap, .func (.func 22) #[] #[.pointer (some ⟨V, 0, none⟩)]] w fun e w' => e = .returned (.tuple #[]) ∧ ∃ L, Srt f 0 n L ∧ St o (ownI 3 1 (.slice (some ⟨g, 0, none⟩) n cap) n (fl iC (asI L)) :: boxI V #[.slice (some ⟨pb, 0, none⟩) n n] 49 :: ownI 51 3 (.slice (some ⟨pb, 0, none⟩) n n) n (fl ptC ((List.range n).map f)) :: R) w' := by
  haveI : Inhabited (Fin n) := ⟨⟨0, hn0⟩⟩
  have eg : ∀ args w, (callFunc 22 args).run Try.prog w = .ok (.enter 22 args) w := enters_of Try.func22 (by kernel_rfl) rfl
  have p0 : w.ownsRow 0 3 1 (.slice (some ⟨g, 0, none⟩) n cap) n (fl iC (asI (List.range n))) := h.get 0 rfl
  have hsz : (Array.ofFn fun i : Fin n => i).size = n := by simp
  have hH : Holds fenc w g 0 (Array.ofFn fun i : Fin n => i) := by
    intro j hj
    rw [hsz] at hj
    rw [Nat.zero_add]
    refine ⟨?_, p0.frozenAt j⟩
    rw [p0.cellAt j (by omega)]
    have e2 := fl_at (f := iC) (k := 1) (fun _ => rfl) (asI (List.range n)) j 0 (j : Int) (by omega) (by simp [asI, hj])
    rw [Nat.mul_one, Nat.add_zero] at e2
    rw [e2]
    simp [iC, fenc, hj]
  have hlt : g < w.heap.size := (p0.lt g (by simp [Value.ownBlock])).2
  have hVg : V ≠ g := h.ne 1 0 rfl rfl (by omega) (by simp [boxI]) (by simp [ownI, Value.ownBlock])
  have hpg : pb ≠ g := h.ne 2 0 rfl rfl (by omega) (by simp [ownI, Value.ownBlock]) (by simp [ownI, Value.ownBlock])
  have hVl : V < w.heap.size := (boxI V _ _).old w (h.get 1 rfl) V (by simp [boxI])
  have hcmp : CmpLays1 Try.prog 22 #[.pointer (some ⟨V, 0, none⟩)] fenc (fun x y : Fin n => ordC f x.1 y.1) g 0 (Array.ofFn fun i : Fin n => i).size w := by
    intro m os dk hdk x y
    have hcell : ∀ {A : Addr} {u : Value}, A.block ≠ g → w.cell? A = some u → (sortWorld fenc w g 0 m dk os).cell? A = some u := by
      intro A u hne hu
      rw [World.cell?_of_block (sortWorld_far (World.block_lt_of_cell? w _ hu) hne)]
      exact hu
    have hv := hcell (A := ⟨V, 0, none⟩) hVg (h.cell 1 rfl 0)
    refine order1_any (f := f) (pb := pb) (n := n) hv x.2 y.2 (fun i hi => ?_) (by omega)
    obtain ⟨⟨a, b, c⟩, _⟩ := ptCell h (i := 2) rfl (by simp) (j := i) (p := f i) (by simp [hi])
    exact ⟨hcell hpg a, hcell hpg b, hcell hpg c⟩
  have hcon := Any.slices_SortFunc Try.sortI fenc (fun x => rfl) (fun x y : Fin n => ordC f x.1 y.1) (swoF f) 22 #[.pointer (some ⟨V, 0, none⟩)] g 0 cap (Array.ofFn fun i : Fin n => i) w eg hcmp hH hlt (by rw [hsz]; omega)
  rw [hsz] at hcon
  refine Calls.mono (P := Try.prog) (f := 21) hcon ?_
  rintro e w' ⟨rfl, d', m, os, h1, h2, rfl⟩
  obtain ⟨hs, hd⟩ := sorted_srt (f := f) (by rw [hsz]; exact h1) (by rw [hsz]; exact h2)
  exact ⟨rfl, asN d', hd, sortWorld_st1 h (by simp [asI]) d' hs m os⟩
theorem sort_none {la : Option Addr} {cap : Nat} (fv : Value) (w : World) : Calls Try.prog 21 #[.slice la 0 cap, fv] w fun e w' => e = .returned (.tuple #[]) ∧ w' = w :=
  AnyF.slices_SortFunc_none (P := Try.prog) (ρ := Try.sortI_ren) (let L := Try.sortI; { L with }) la cap fv w
end Go.Proofs.Ytnmlnjljmikmpaa
