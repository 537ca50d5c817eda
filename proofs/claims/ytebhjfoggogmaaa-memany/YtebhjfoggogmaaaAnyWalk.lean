/- MemAny's walk. -/
import Derived.Test.YtebhjfoggogmaaaThingsC
import Derived.Test.YtebhjfoggogmaaaPlain
namespace Go.Proofs.Ytebhjfoggogmaaa
open Go.RowKit
set_option linter.unusedVariables false
set_option linter.unusedSimpArgs false
attribute [local go_sem ↓] Go.wp_at_zero Go.wp_at_succ

theorem and31 (n : Int) : bits .and .i64 n 31 = n % 32 := by
  have h31 : (BitVec.ofInt 64 31).toNat = 2 ^ 5 - 1 := by decide
  have key : (BitVec.ofInt 64 n &&& BitVec.ofInt 64 31).toNat = (n % ((2 ^ 64 : Nat) : Int)).toNat % 2 ^ 5 := by
    rw [BitVec.toNat_and, BitVec.toNat_ofInt, h31, Nat.and_two_pow_sub_one_eq_mod]
  show IntKind.i64.wrap ((BitVec.ofInt 64 n &&& BitVec.ofInt 64 31).toNat : Nat) = n % 32
  rw [key, IntKind.wrap_i64]
  omega

/-- A list of texts in memory, of n elements. -/
def StrsIn (w : World) (la : Option Addr) (n : Nat) (ss : List ByteArray) : Prop :=
  n = ss.length ∧ (0 < n → ∃ g o, la = some ⟨g, o, none⟩ ∧ ∀ j, j < n → w.cell? ⟨g, o + j, none⟩ = some (.string (ss.getD j { data := #[] })))

theorem Try.zero67 : (Try.prog.info? 67).map (fun i => i.zero) = some (some (.agg (thCells (List.replicate 32 Th.zero)).toArray)) := by kernel_rfl
theorem zeroHolds (w : World) : (zeroValue 67).run Try.prog w = .ok (.agg (thCells (List.replicate 32 Th.zero)).toArray) w := by
  have h := Try.zero67
  cases hi : Try.prog.info? 67 with
  | none => rw [hi] at h; simp at h
  | some i =>
    rw [hi] at h
    have hz : i.zero = some (.agg (thCells (List.replicate 32 Th.zero)).toArray) := by simpa using h
    simp [zeroValue, typeInfo, hi, hz]

/-- The document's array of what each cell holds. -/
def Holds (w : World) (b : Nat) (hs : List Th) : Prop := w.heap[b]? = some (.cells (thCells hs).toArray 67 (0, 0))
theorem Holds.cell {w : World} {b : Nat} {hs : List Th} (h : Holds w b hs) (k : Nat) (hk : k < hs.length) : w.cell? ⟨b, k * 3, none⟩ = some (.string hs[k].s) ∧ w.cell? ⟨b, k * 3 + 1, none⟩ = some (.int .i64 hs[k].a) ∧ w.cell? ⟨b, k * 3 + 2, none⟩ = some (.int .i64 hs[k].b) := by
  obtain ⟨a1, a2, a3⟩ := thCells_at hs k hk
  exact ⟨(cell_of_heap h).trans (by simpa using a1), (cell_of_heap h).trans (by simpa using a2), (cell_of_heap h).trans (by simpa using a3)⟩
theorem Holds.stored {w : World} {b : Nat} {hs : List Th} (h : Holds w b hs) (k : Nat) (hk : k < hs.length) (t : Th) :
    Holds (((w.setCell ⟨b, k * 3, none⟩ (.string t.s)).setCell ⟨b, k * 3 + 1, none⟩ (.int .i64 t.a)).setCell ⟨b, k * 3 + 2, none⟩ (.int .i64 t.b)) b (hs.set k t) := by
  unfold Holds
  rw [heap_setCell_at (heap_setCell_at (heap_setCell_at h _) _) _, ← thCells_set hs t k hk]
  simp
theorem Holds.kept {w w' : World} {b : Nat} {hs : List Th} {F : Nat → Prop} (h : Holds w b hs) (k : Kept F w w') (hf : ¬ F b) : Holds w' b hs := (k.block b (lt_of_heap h) hf).trans h

/-- What holds at each round's head. -/
structure AnyRel (w : World) (m K : Nat) (hs : List Th) (wr : World) : Prop where
  row : RowT wr (m + 1) m (hs.take K)
  holds : Holds wr (m + 2) hs
  len : hs.length = 32
  be : Below w.heap.size w wr
  top : m + 3 ≤ wr.heap.size
theorem AnyRel.calm {w : World} {m K : Nat} {hs : List Th} {wr w' : World} (h : AnyRel w m K hs wr) (c : Kept (fun _ => False) wr w') : AnyRel w m K hs w' :=
  ⟨h.row.kept c (fun f => f) (fun f => f), h.holds.kept c (fun f => f), h.len, h.be.trans (c.below h.be.size (fun _ _ f => f)), Nat.le_trans h.top c.size⟩
/-- Both the row's cell and the array's place are set. -/
theorem AnyRel.put {w : World} {m K p : Nat} {hs : List Th} {wr w1 w2 : World} {t : Th} (h : AnyRel w m K hs wr) (hm : w.heap.size ≤ m) (hp : p < K) (hr : RowT w1 (m + 1) m ((hs.take K).set p t)) (k1 : Kept (fun i => i = m) wr w1) (hh : Holds w2 (m + 2) (hs.set p t)) (k2 : Kept (fun i => i = m + 2) w1 w2) : AnyRel w m K (hs.set p t) w2 := by
  refine ⟨?_, hh, by simpa using h.len, (h.be.trans (k1.below h.be.size (fun i hi f => by omega))).trans (k2.below (Nat.le_trans h.be.size k1.size) (fun i hi f => by omega)), Nat.le_trans h.top (Nat.le_trans k1.size k2.size)⟩
  rw [List.take_set]
  exact hr.kept k2 (by omega) (by omega)

theorem Kept.drewM {F : Nat → Prop} {a w : World} (h : Kept F a w) (k : Nat) : Kept F a (w.drewN k) := ⟨h.os, h.tape, h.output, h.size, h.block⟩

/-- The list that All gave, in a block of its own. -/
def AllAt (w : World) (g : Nat) (hs : List Th) : Prop := ∀ k (hk : k < hs.length), w.cell? ⟨g, k * 3, none⟩ = some (.string hs[k].s) ∧ w.cell? ⟨g, k * 3 + 1, none⟩ = some (.int .i64 hs[k].a) ∧ w.cell? ⟨g, k * 3 + 2, none⟩ = some (.int .i64 hs[k].b)
theorem AllAt.of {w : World} {base n g ca : Nat} {hs : List Th} (h : w.ownsRow base 66 3 (.slice (some ⟨g, 0, none⟩) n ca) n (thCells hs)) (hn : hs.length = n) : AllAt w g hs := by
  intro k hk
  obtain ⟨a1, a2, a3⟩ := thCells_at hs k hk
  have hl := thCells_length hs
  refine ⟨?_, ?_, ?_⟩
  · rw [h.cellAt (k * 3) (by omega)]; exact a1
  · rw [h.cellAt (k * 3 + 1) (by omega)]; exact a2
  · rw [h.cellAt (k * 3 + 2) (by omega)]; exact a3
theorem AllAt.drewM {w : World} {g : Nat} {hs : List Th} (h : AllAt w g hs) (q : Nat) : AllAt (w.drewN q) g hs := h
theorem allShape {w : World} {base n : Nat} {v : Value} {e : TypeId} {size : Nat} {xs : List Value} (h : w.ownsRow base e size v n xs) (hn : 0 < n) : ∃ g ca, v = .slice (some ⟨g, 0, none⟩) n ca ∧ base ≤ g ∧ g < w.heap.size := by
  rcases h.2 with ⟨h1, h0⟩ | ⟨g, c3, _, h1, hb, hg, _⟩
  · omega
  · exact ⟨_, _, h1, hb, lt_of_heap hg⟩

set_option maxRecDepth 100000 in
set_option maxHeartbeats 1000000 in
theorem any_walk (n : Int) (aa ab : Option Addr) (la ca lb cb : Nat) (zs : List Int) (ss : List ByteArray) (old : ByteArray) (w : World) (hA : IntsIn w aa la zs) (hB : StrsIn w ab lb ss) (hla : la ≤ 17592186044416) (hlb : lb ≤ 17592186044416) :
    Calls Try.prog 6 #[.int .i64 n, .slice aa la ca, .slice ab lb cb, .string old] w fun e w' => e = .returned (.bool true) ∧ Below w.heap.size w w' := by
  have hn := and31 n
  have hn1 : 0 ≤ n % 32 ∧ n % 32 < 32 := by omega
  generalize n % 32 = q at hn hn1
  obtain ⟨K, hK⟩ : ∃ K : Nat, 1 + q = K := ⟨(1 + q).toNat, by omega⟩
  have hK1 : 1 ≤ K ∧ K ≤ 32 := by omega
  go_enter Try.func6, Try.ntmps6
  go_wp2_with fail
  refine (awake_any _).mono ?_
  rintro e wa ⟨rfl, hka⟩
  go_wp2_with fail
  refine (newRowT K _ (by omega) (by omega)).mono ?_
  rintro e w1 ⟨rfl, hR, hk1, hz1⟩
  have hzv := zeroHolds
  have hR' : ∀ W, Kept (fun _ => False) w1 W → RowT W (wa.heap.size + 1) wa.heap.size (List.replicate K Th.zero) := fun W c => hR.kept c (fun f => f) (fun f => f)
  have T0 : AnyRel w wa.heap.size K (List.replicate 32 Th.zero) (w1.alloc (.cells (thCells (List.replicate 32 Th.zero)).toArray 67)) := by
    have c := boxed0 w1 (.cells (thCells (List.replicate 32 Th.zero)).toArray 67)
    have hh := heap_alloc_new w1 (.cells (thCells (List.replicate 32 Th.zero)).toArray 67)
    rw [hz1] at hh
    refine ⟨?_, hh, by simp, ((hka.below (Nat.le_refl _) (fun _ _ f => f)).trans (hk1.below hka.size (fun _ _ f => f))).trans (c.below (Nat.le_trans hka.size hk1.size) (fun _ _ f => f)), by simp [hz1]⟩
    rw [List.take_replicate, Nat.min_eq_left (by omega)]
    exact hR' _ c
  have hwm : w.heap.size ≤ wa.heap.size := hka.size
  clear hR hR' hk1 hka
  generalize (thCells (List.replicate 32 Th.zero)).toArray = ZZ at *
  go_wp2_with fail
  generalize hm0 : wa.heap.size = m at *
  clear hm0 hzv hn
  have hN := eqN
  go_loopw [14] (fun i wr => ∃ (j : Nat) (hs : List Th), i = .int .i64 j ∧ j ≤ la ∧ AnyRel w m K hs wr) (fun i _ => la - (intOf i).toNat)
  case atStart => exact ⟨0, _, rfl, Nat.zero_le _, T0⟩
  case round =>
    obtain ⟨j, hs, rfl, hj, hT⟩ := hrel
    clear T0
    by_cases hj1 : j < la
    · by_cases hj2 : j < lb
      · obtain ⟨ga, oa, rfl, hca⟩ := hA.2 (by omega)
        obtain ⟨gb, ob, rfl, hcb⟩ := hB.2 (by omega)
        have ca0 := hca j hj1
        have cb0 := hcb j hj2
        have lga := World.block_lt_of_cell? w _ ca0
        have lgb := World.block_lt_of_cell? w _ cb0
        have HCB : Hid (∀ W, Below w.heap.size w W → W.cell? ⟨gb, ob + j, none⟩ = some (.string (ss.getD j { data := #[] }))) := fun W b => (b.cell lgb).trans cb0
        rw [← hT.be.cell (p := ⟨ga, oa + j, none⟩) lga] at ca0
        rw [← hT.be.cell (p := ⟨gb, ob + j, none⟩) lgb] at cb0
        generalize zs.getD j 0 = z at ca0
        generalize ss.getD j { data := #[] } = s at cb0 HCB
        obtain ⟨p, hp⟩ : ∃ p : Nat, bits .and .i64 z 31 = p := ⟨(z % 32).toNat, by rw [and31]; omega⟩
        have hp32 : p < 32 := by have := and31 z; omega
        have hj0 : (0 : Int) ≤ (j : Int) := Int.natCast_nonneg _
        have hji1 : (j : Int) < (la : Int) := by omega
        have hji2 : (j : Int) < (lb : Int) := by omega
        clear hca hcb
        have hlr : (hs.take K).length = K := by have := hT.len; simp; omega
        have HLR : Hid ((hs.take K).length = K) := hlr
        clear hlr
        have hN := eqN
        by_cases hpK : K ≤ p
        · have hX := boxed0 wr (.cells #[.string s, .int .i64 j, .int .i64 p] 66)
          have hTX := hT.calm hX
          have hD := tradeT_out (m + 1) m (hs.take K) p ⟨old, 0, 0⟩ ⟨s, j, p⟩ (wr.alloc (.cells #[.string s, .int .i64 j, .int .i64 p] 66)) hTX.row (by rw [HLR.out]; omega)
          simp only [Th.val] at hD
          have hg : ¬ (p : Int) < (K : Int) := by omega
          have hg2 : (K : Int) ≤ (p : Int) := by omega
          go_wp2_with fail
          refine hD.mono ?_
          rintro e w2 ⟨rfl, k2⟩
          have hT2 := hTX.calm k2
          clear hD hTX hX
          simp only [Th.zero]
          go_wp2_with fail
          go_roundw
          case rel => exact ⟨j + 1, hs, by go_num, by omega, hT2.calm (boxed0 _ _)⟩
          case measure => simp [intOf]; omega
        · have hX := boxed0 wr (.cells #[.string s, .int .i64 j, .int .i64 p] 66)
          have hXb := heap_alloc_new wr (.cells #[.string s, .int .i64 j, .int .i64 p] 66)
          have hTX := hT.calm hX
          have hg2 : ¬ (K : Int) ≤ (p : Int) := by omega
          have hpl : p < (hs.take K).length := by rw [HLR.out]; omega
          have hph : p < hs.length := by rw [hT.len]; exact hp32
          have hpi0 : (0 : Int) ≤ (p : Int) := Int.natCast_nonneg _
          have hpi1 : (p : Int) < 32 := by omega
          have htk : (hs.take K)[p] = hs[p] := by simp
          have htop := hT.top
          cases hteq : teq (hs.take K)[p].s old (hs.take K)[p].a (hs.take K)[p].b 0 0
          · have hD := tradeT_miss (m + 1) m (hs.take K) p ⟨old, 0, 0⟩ ⟨s, j, p⟩ (wr.alloc (.cells #[.string s, .int .i64 j, .int .i64 p] 66)) hTX.row hpl hteq
            rw [htk] at hteq hD
            generalize hth : hs[p] = th at hteq hD
            obtain ⟨s', a', b'⟩ := th
            simp only [Th.val] at hD hteq
            go_wp2_with fail
            refine hD.mono ?_
            rintro e w2 ⟨rfl, hr2, k2⟩
            have hT2 := hTX.calm k2
            have d := hT2.holds.cell p hph
            rw [hth] at d
            obtain ⟨d0, d1, d2⟩ := d
            simp only at d0 d1 d2
            have cb2 := HCB.out w2 hT2.be
            have lgb2 : gb < w2.heap.size := World.block_lt_of_cell? _ _ cb2
            have lgb3 : ¬ gb = w2.heap.size := by omega
            have l1 : m + 2 < w2.heap.size := lt_of_heap hT2.holds
            have l3 : ¬ m + 2 = w2.heap.size := by omega
            have hss : (s'.toList == s'.toList) = true := by simp
            have haa : (a' == a' && b' == b') = true := by simp
            have hpl2 : Hid (p < (hs.take K).length) := hpl
            have hph2 : Hid (p < hs.length) := hph
            clear hD hTX hX hXb hr2 k2 hth htk hpl hph hT
            obtain ⟨want, hwant, hw1, hw2⟩ : ∃ want : Bool, want = false ∧ ((s'.toList == old.toList) = true → (a' == 0 && b' == 0) = want) ∧ True := ⟨false, rfl, fun h => by simpa [teq, h] using hteq, trivial⟩
            cases hso : (s'.toList == old.toList)
            · go_wp2_with fail
              go_quiet (fail)
              go_wp2_with fail
              have hT3 := hT2.calm ((boxed0 w2 (.cells #[.string s', .int .i64 a', .int .i64 b'] 66)).drewM nq)
              generalize (w2.alloc (.cells #[.string s', .int .i64 a', .int .i64 b'] 66)).drewN nq = w3 at hT3 ⊢
              have hSt := storeT_in (m + 1) m (hs.take K) p ⟨s, 0, 0⟩ w3 hT3.row hpl2.out
              simp only [Th.val] at hSt
              refine hSt.mono ?_
              rintro e w4 ⟨rfl, hr4, k4⟩
              have hH4 := hT3.holds.kept k4 (by omega)
              have cb4 := HCB.out w4 (hT3.be.trans (k4.below hT3.be.size (fun i hi f => by omega)))
              have e4 := hH4.cell p hph2.out
              obtain ⟨e40, e41, e42⟩ := e4
              have f40 : w4.frozen? ⟨m + 2, p * 3, none⟩ = false := frozen_of_heap hH4
              have f41 : w4.frozen? ⟨m + 2, p * 3 + 1, none⟩ = false := frozen_of_heap hH4
              have f42 : w4.frozen? ⟨m + 2, p * 3 + 2, none⟩ = false := frozen_of_heap hH4
              have hT5 := hT3.put hwm (by omega) hr4 k4 (hH4.stored p hph2.out ⟨s, 0, 0⟩) ((((Kept.refl (fun i => i = m + 2) w4).setCell _ (.inl rfl)).setCell _ (.inl rfl)).setCell _ (.inl rfl))
              simp only at hT5
              clear hSt hr4 k4 hH4 d0 d1 d2 cb2 lgb2 lgb3 l1 l3 hT2 hT3
              go_wp2_with fail
              generalize ((w4.setCell ⟨m + 2, p * 3, none⟩ (.string s)).setCell ⟨m + 2, p * 3 + 1, none⟩ (.int .i64 0)).setCell ⟨m + 2, p * 3 + 2, none⟩ (.int .i64 0) = w5 at hT5 ⊢
              clear e40 e41 e42 f40 f41 f42 cb4
              have hpl5 : p < ((hs.set p ⟨s, 0, 0⟩).take K).length := by have := hpl2.out; simpa using this
              have hLd := loadT_in (m + 1) m ((hs.set p ⟨s, 0, 0⟩).take K) p w5 hT5.row hpl5
              have hval : ((hs.set p ⟨s, 0, 0⟩).take K)[p] = ⟨s, 0, 0⟩ := by simp
              rw [hval] at hLd
              simp only [Th.val] at hLd
              refine hLd.mono ?_
              rintro e w6 ⟨rfl, k6⟩
              have hT6 := hT5.calm k6
              have d := hT6.holds.cell p (by have := hph2.out; simpa using this)
              simp only [List.getElem_set_self] at d
              obtain ⟨d0, d1, d2⟩ := d
              have l1 : m + 2 < w6.heap.size := lt_of_heap hT6.holds
              have l3 : ¬ m + 2 = w6.heap.size := by omega
              have hst : (s.toList == s.toList) = true := by simp
              clear hLd hval hpl5 hT5 k6
              go_wp2_with fail
              go_quiet (fail)
              go_wp2
              go_roundw
              case rel => exact ⟨j + 1, _, by go_num, by omega, hT6.calm ((boxed0 w6 _).drewM _)⟩
              case measure => simp [intOf]; omega
            · have hab := hw1 hso
              rw [hwant] at hab
              go_wp2_with fail
              go_quiet (fail)
              go_wp2_with fail
              have hT3 := hT2.calm ((boxed0 w2 (.cells #[.string s', .int .i64 a', .int .i64 b'] 66)).drewM nq)
              generalize (w2.alloc (.cells #[.string s', .int .i64 a', .int .i64 b'] 66)).drewN nq = w3 at hT3 ⊢
              have hSt := storeT_in (m + 1) m (hs.take K) p ⟨s, 0, 0⟩ w3 hT3.row hpl2.out
              simp only [Th.val] at hSt
              refine hSt.mono ?_
              rintro e w4 ⟨rfl, hr4, k4⟩
              have hH4 := hT3.holds.kept k4 (by omega)
              have cb4 := HCB.out w4 (hT3.be.trans (k4.below hT3.be.size (fun i hi f => by omega)))
              have e4 := hH4.cell p hph2.out
              obtain ⟨e40, e41, e42⟩ := e4
              have f40 : w4.frozen? ⟨m + 2, p * 3, none⟩ = false := frozen_of_heap hH4
              have f41 : w4.frozen? ⟨m + 2, p * 3 + 1, none⟩ = false := frozen_of_heap hH4
              have f42 : w4.frozen? ⟨m + 2, p * 3 + 2, none⟩ = false := frozen_of_heap hH4
              have hT5 := hT3.put hwm (by omega) hr4 k4 (hH4.stored p hph2.out ⟨s, 0, 0⟩) ((((Kept.refl (fun i => i = m + 2) w4).setCell _ (.inl rfl)).setCell _ (.inl rfl)).setCell _ (.inl rfl))
              simp only at hT5
              clear hSt hr4 k4 hH4 d0 d1 d2 cb2 lgb2 lgb3 l1 l3 hT2 hT3
              go_wp2_with fail
              generalize ((w4.setCell ⟨m + 2, p * 3, none⟩ (.string s)).setCell ⟨m + 2, p * 3 + 1, none⟩ (.int .i64 0)).setCell ⟨m + 2, p * 3 + 2, none⟩ (.int .i64 0) = w5 at hT5 ⊢
              clear e40 e41 e42 f40 f41 f42 cb4
              have hpl5 : p < ((hs.set p ⟨s, 0, 0⟩).take K).length := by have := hpl2.out; simpa using this
              have hLd := loadT_in (m + 1) m ((hs.set p ⟨s, 0, 0⟩).take K) p w5 hT5.row hpl5
              have hval : ((hs.set p ⟨s, 0, 0⟩).take K)[p] = ⟨s, 0, 0⟩ := by simp
              rw [hval] at hLd
              simp only [Th.val] at hLd
              refine hLd.mono ?_
              rintro e w6 ⟨rfl, k6⟩
              have hT6 := hT5.calm k6
              have d := hT6.holds.cell p (by have := hph2.out; simpa using this)
              simp only [List.getElem_set_self] at d
              obtain ⟨d0, d1, d2⟩ := d
              have l1 : m + 2 < w6.heap.size := lt_of_heap hT6.holds
              have l3 : ¬ m + 2 = w6.heap.size := by omega
              have hst : (s.toList == s.toList) = true := by simp
              clear hLd hval hpl5 hT5 k6
              go_wp2_with fail
              go_quiet (fail)
              go_wp2
              go_roundw
              case rel => exact ⟨j + 1, _, by go_num, by omega, hT6.calm ((boxed0 w6 _).drewM _)⟩
              case measure => simp [intOf]; omega
          · have hD := tradeT_hit (m + 1) m (hs.take K) p ⟨old, 0, 0⟩ ⟨s, j, p⟩ (wr.alloc (.cells #[.string s, .int .i64 j, .int .i64 p] 66)) hTX.row hpl hteq
            rw [htk] at hteq hD
            generalize hth : hs[p] = th at hteq hD
            obtain ⟨s', a', b'⟩ := th
            simp only [Th.val] at hD hteq
            simp only [teq, Bool.and_eq_true] at hteq
            obtain ⟨t1, t2, t3⟩ := hteq
            go_wp2_with fail
            refine hD.mono ?_
            rintro e w2 ⟨rfl, hr2, k2⟩
            have hH2 := hTX.holds.kept k2 (by omega)
            have hXb2 := (k2.block _ (lt_of_heap hXb) (by omega)).trans hXb
            have d := hH2.cell p hph
            rw [hth] at d
            obtain ⟨d0, d1, d2⟩ := d
            simp only at d0 d1 d2
            have f0 : w2.frozen? ⟨m + 2, p * 3, none⟩ = false := frozen_of_heap hH2
            have f1 : w2.frozen? ⟨m + 2, p * 3 + 1, none⟩ = false := frozen_of_heap hH2
            have f2 : w2.frozen? ⟨m + 2, p * 3 + 2, none⟩ = false := frozen_of_heap hH2
            have x0 : w2.cell? ⟨wr.heap.size, 0, none⟩ = some (.string s) := cell_of_heap hXb2
            have x1 : w2.cell? ⟨wr.heap.size, 1, none⟩ = some (.int .i64 j) := cell_of_heap hXb2
            have x2 : w2.cell? ⟨wr.heap.size, 2, none⟩ = some (.int .i64 p) := cell_of_heap hXb2
            have l1 : m + 2 < w2.heap.size := lt_of_heap hH2
            have l2 : wr.heap.size < w2.heap.size := lt_of_heap hXb2
            have l3 : ¬ m + 2 = w2.heap.size := by omega
            have l4 : ¬ wr.heap.size = w2.heap.size := by omega
            have l5 : ¬ m + 2 = wr.heap.size := by omega
            have HP : Hid (∀ W, Kept (fun _ => False) w2 W → AnyRel w m K (hs.set p ⟨s, j, p⟩) (((W.setCell ⟨m + 2, p * 3, none⟩ (.string s)).setCell ⟨m + 2, p * 3 + 1, none⟩ (.int .i64 j)).setCell ⟨m + 2, p * 3 + 2, none⟩ (.int .i64 p))) :=
              fun W c => hTX.put hwm (by omega) (hr2.kept c (fun f => f) (fun f => f)) (k2.trans c (fun _ _ f => f.elim)) ((hH2.kept c (fun f => f)).stored p hph ⟨s, j, p⟩) ((((Kept.refl (fun i => i = m + 2) W).setCell _ (.inl rfl)).setCell _ (.inl rfl)).setCell _ (.inl rfl))
            have hss : (s'.toList == s'.toList) = true := by simp
            have haa : (a' == a' && b' == b') = true := by simp
            have t4 : (a' == 0 && b' == 0) = true := by simp only [t2, t3, Bool.and_true]
            clear hD hTX hX hXb hXb2 hr2 k2 hH2 hth htk hpl hph hT
            go_wp2_with fail
            go_quiet (fail)
            go_wp2
            go_roundw
            case rel => exact ⟨j + 1, _, by go_num, by omega, HP.out _ ((boxed0 w2 _).drewM _)⟩
            case measure => simp [intOf]; omega
      · have hji1 : (j : Int) < (la : Int) := by omega
        have hji2 : ¬ (j : Int) < (lb : Int) := by omega
        have hlr : (hs.take K).length = K := by have := hT.len; simp; omega
        have hAll := allT wr hT.row
        rw [hlr] at hAll
        have HLR : Hid ((hs.take K).length = K) := hlr
        clear hA hB hlr
        go_wp2_with fail
        refine hAll.mono ?_
        rintro e w2 ⟨v', rfl, ho, k2⟩
        have hT2 := hT.calm k2
        obtain ⟨g, ca2, rfl, hgb, hgl⟩ := allShape ho (by omega)
        have hA2 := AllAt.of ho HLR.out
        clear hAll ho k2 hT hj
        go_wp2_with fail
        go_loopw [25] (fun i w3 => ∃ (i2 : Nat), i = .int .i64 i2 ∧ i2 ≤ K ∧ AnyRel w m K hs w3 ∧ AllAt w3 g (hs.take K)) (fun i _ => K - (intOf i).toNat)
        case atStart => exact ⟨0, rfl, Nat.zero_le _, hT2, hA2⟩
        case round =>
          obtain ⟨i2, rfl, hi2, hT3, hA3⟩ := hrel
          clear hT2 hA2
          by_cases hi3 : i2 < K
          · have d := hT3.holds.cell i2 (by rw [hT3.len]; omega)
            have c := hA3 i2 (by rw [HLR.out]; omega)
            rw [List.getElem_take] at c
            generalize hs[i2]'(by rw [hT3.len]; omega) = th at c d
            obtain ⟨s, a, b⟩ := th
            simp only at c d
            obtain ⟨d0, d1, d2⟩ := d
            obtain ⟨c0, c1, c2⟩ := c
            have x0 : (0 : Int) ≤ (i2 : Int) := Int.natCast_nonneg _
            have x1 : (i2 : Int) < (K : Int) := by omega
            have x2 : (i2 : Int) < 32 := by omega
            have hss : (s.toList == s.toList) = true := by simp
            have haa : (a == a && b == b) = true := by simp
            have hN := eqN
            go_wp2_with fail
            go_quiet (fail)
            go_wp2
            go_roundw
            case rel => exact ⟨i2 + 1, by go_num, by omega, hT3.calm ((Kept.refl _ _).drewM _), hA3.drewM _⟩
            case measure => simp [intOf]; omega
          · have x1 : ¬ (i2 : Int) < (K : Int) := by omega
            go_wp2
            go_ret
            exact ⟨rfl, hT3.be⟩
    · have hji1 : ¬ (j : Int) < (la : Int) := by omega
      have hlr : (hs.take K).length = K := by have := hT.len; simp; omega
      have hAll := allT wr hT.row
      rw [hlr] at hAll
      have HLR : Hid ((hs.take K).length = K) := hlr
      clear hA hB hlr
      go_wp2_with fail
      refine hAll.mono ?_
      rintro e w2 ⟨v', rfl, ho, k2⟩
      have hT2 := hT.calm k2
      obtain ⟨g, ca2, rfl, hgb, hgl⟩ := allShape ho (by omega)
      have hA2 := AllAt.of ho HLR.out
      clear hAll ho k2 hT hj
      go_wp2_with fail
      go_loopw [25] (fun i w3 => ∃ (i2 : Nat), i = .int .i64 i2 ∧ i2 ≤ K ∧ AnyRel w m K hs w3 ∧ AllAt w3 g (hs.take K)) (fun i _ => K - (intOf i).toNat)
      case atStart => exact ⟨0, rfl, Nat.zero_le _, hT2, hA2⟩
      case round =>
        obtain ⟨i2, rfl, hi2, hT3, hA3⟩ := hrel
        clear hT2 hA2
        by_cases hi3 : i2 < K
        · have d := hT3.holds.cell i2 (by rw [hT3.len]; omega)
          have c := hA3 i2 (by rw [HLR.out]; omega)
          rw [List.getElem_take] at c
          generalize hs[i2]'(by rw [hT3.len]; omega) = th at c d
          obtain ⟨s, a, b⟩ := th
          simp only at c d
          obtain ⟨d0, d1, d2⟩ := d
          obtain ⟨c0, c1, c2⟩ := c
          have x0 : (0 : Int) ≤ (i2 : Int) := Int.natCast_nonneg _
          have x1 : (i2 : Int) < (K : Int) := by omega
          have x2 : (i2 : Int) < 32 := by omega
          have hss : (s.toList == s.toList) = true := by simp
          have haa : (a == a && b == b) = true := by simp
          have hN := eqN
          go_wp2_with fail
          go_quiet (fail)
          go_wp2
          go_roundw
          case rel => exact ⟨i2 + 1, by go_num, by omega, hT3.calm ((Kept.refl _ _).drewM _), hA3.drewM _⟩
          case measure => simp [intOf]; omega
        · have x1 : ¬ (i2 : Int) < (K : Int) := by omega
          go_wp2
          go_ret
          exact ⟨rfl, hT3.be⟩
end Go.Proofs.Ytebhjfoggogmaaa
