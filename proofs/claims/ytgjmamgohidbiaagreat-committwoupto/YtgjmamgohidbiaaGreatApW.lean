/- apart: do the stores of a thread never stand between those of another one? -/
import Derived.Test.YtgjmamgohidbiaaGreatTwA
namespace Go.Proofs.YtgjmamgohidbiaaGreat
open Go.RowKit
set_option linter.unusedVariables false
set_option linter.unusedSimpArgs false
attribute [local go_sem ↓] Go.wp_at_zero Go.wp_at_succ

def Acc.zero : Acc := ⟨0, 0, 0, 0, 0, false⟩
theorem logCells_at (l : List Acc) : ∀ k (hk : k < l.length), (logCells l)[k * 6 + 1]? = some (.int .i64 (l.getD k Acc.zero).th) ∧ (logCells l)[k * 6 + 2]? = some (.int .i64 (l.getD k Acc.zero).kind) ∧ (logCells l)[k * 6 + 4]? = some (.int .i64 (l.getD k Acc.zero).op) := by
  induction l with
  | nil => intro k hk; simp at hk
  | cons t l ih =>
    intro k hk
    cases k with
    | zero => simp [logCells, Acc.cells]
    | succ k =>
      have := ih k (by simpa using hk)
      rw [show (k + 1) * 6 + 1 = (k * 6 + 1) + 6 by omega, show (k + 1) * 6 + 2 = (k * 6 + 2) + 6 by omega, show (k + 1) * 6 + 4 = (k * 6 + 4) + 6 by omega]
      simpa [logCells, Acc.cells] using this
def Acc.isSt (a : Acc) : Bool := a.kind == 1 && a.op == 2
theorem sts_take_succ (l : List Acc) {k : Nat} (hk : k < l.length) : sts (l.take (k + 1)) = sts (l.take k) ++ (if (l.getD k Acc.zero).isSt then [(l.getD k Acc.zero).th] else []) := by
  have e : l.getD k Acc.zero = l[k] := by rw [List.getD_eq_getElem?_getD, List.getElem?_eq_getElem hk]; rfl
  rw [List.take_succ_eq_append_getElem hk, sts_append, e]
  congr 1
  simp only [sts, List.filter, Acc.isSt]
  split <;> simp_all
theorem sts_prefix (l : List Acc) (k : Nat) : sts (l.take k) <+: sts l := by
  refine ⟨sts (l.drop k), ?_⟩
  rw [← sts_append, List.take_append_drop]
/-- Where it stands behind so many stores: the last one's thread, and whose are over. -/
def ovL (a : Int) (b : Bool) : List Value := (List.range 9).map fun k => .bool (b && ((k : Nat) : Int) == a)
theorem ovL_at (a : Int) (b : Bool) {k : Nat} (hk : k < 9) : (ovL a b)[k]? = some (.bool (b && (k : Int) == a)) := by simp [ovL, hk]
theorem ovL_set {a : Nat} (ha : a < 9) : (ovL a false).set a (.bool true) = ovL a true := by
  apply List.ext_getElem?
  intro j
  rw [List.getElem?_set]
  by_cases hj : j < 9
  · by_cases e : a = j
    · subst e
      simp [ovL, ha]
    · have e' : ¬ ((j : Nat) : Int) = (a : Int) := by omega
      simp [ovL, hj, e, e']
  · by_cases e : a = j
    · omega
    · simp [ovL, hj, e]
def lastOf (a b : Int) (m q : Nat) : Int := if q = 0 then 0 else if q ≤ m then a else b
def ovOf (m q : Nat) : Bool := decide (0 < m) && decide (m < q)

set_option maxRecDepth 100000 in
set_option maxHeartbeats 4000000 in
theorem apart_st {o w : World} {its : List It} {A : Ad} {c : Cfg} {z : SSt} {v u : Value} (h : St o its w) (i : Nat) (hi : its[i]? = some (spI A c z v u)) {n : Nat} (ok : z.ok c n) (hn : n ≤ 4611686018427) {a b m k : Nat} (hab : a ≠ b) (ha : 1 ≤ a ∧ a ≤ 8) (hb : 1 ≤ b ∧ b ≤ 8) (hl : sts z.s.l = List.replicate m (a : Int) ++ List.replicate k (b : Int)) :
    Calls Tryz.prog 50 #[spp A] w fun e w' => e = .returned (.bool true) ∧ St o its w' := by
  have hc : w.cell? ⟨A.sp, 0, none⟩ = some (.pointer (some ⟨A.m, 0, none⟩)) := spCell h i hi 0
  have hq := spLog h i hi ok hn
  have HPRE : Hid (∀ j, sts (z.s.l.take j) <+: List.replicate m (a : Int) ++ List.replicate k (b : Int)) := fun j => by rw [← hl]; exact sts_prefix _ _
  have HSUC : Hid (∀ j, j < z.s.l.length → sts (z.s.l.take (j + 1)) = sts (z.s.l.take j) ++ (if (z.s.l.getD j Acc.zero).isSt then [(z.s.l.getD j Acc.zero).th] else [])) := fun j hj => sts_take_succ _ hj
  have hlen : z.s.l.length ≤ 4611686018427 := by have := ok.met.len; omega
  have HTH : Hid (∀ j, j < z.s.l.length → (z.s.l.getD j Acc.zero).isSt = true → ∀ q, q = (sts (z.s.l.take j)).length → (z.s.l.getD j Acc.zero).th = (if q < m then (a : Int) else (b : Int)) ∧ (sts (z.s.l.take (j + 1))).length = q + 1) := by
    intro j hj hst q hqq
    have h1 := HSUC.out j hj
    rw [hst, if_pos rfl] at h1
    obtain ⟨r, hr⟩ := HPRE.out (j + 1)
    rw [h1] at hr
    have h2 : (sts (z.s.l.take j) ++ [(z.s.l.getD j Acc.zero).th] ++ r)[q]? = some (z.s.l.getD j Acc.zero).th := by
      rw [hqq, List.append_assoc, List.getElem?_append_right (Nat.le_refl _)]
      simp
    refine ⟨?_, by rw [h1, hqq]; simp⟩
    rw [hr] at h2
    by_cases hm : q < m
    · rw [List.getElem?_append_left (by simpa using hm), List.getElem?_replicate, if_pos hm] at h2
      rw [if_pos hm]
      exact (Option.some.inj h2).symm
    · rw [List.getElem?_append_right (by simpa using hm), List.getElem?_replicate] at h2
      split at h2
      · rw [if_neg hm]
        exact (Option.some.inj h2).symm
      · cases h2
  have HNO : Hid (∀ j, j < z.s.l.length → (z.s.l.getD j Acc.zero).isSt = false → (sts (z.s.l.take (j + 1))).length = (sts (z.s.l.take j)).length) := by
    intro j hj hst
    rw [HSUC.out j hj, hst]
    simp
  have HAT : Hid (∀ j, j < z.s.l.length → (logCells z.s.l)[j * 6 + 1]? = some (.int .i64 (z.s.l.getD j Acc.zero).th) ∧ (logCells z.s.l)[j * 6 + 2]? = some (.int .i64 (z.s.l.getD j Acc.zero).kind) ∧ (logCells z.s.l)[j * 6 + 4]? = some (.int .i64 (z.s.l.getD j Acc.zero).op)) := fun j hj => logCells_at _ j hj
  have HQ0 : Hid ((sts (z.s.l.take 0)).length = 0) := rfl
  clear HSUC HPRE hl ok h hi
  unfold spp
  go_enter Tryz.func50, Tryz.ntmps50
  go_wp2_with fail
  refine hq.mono ?_
  rintro e w1 ⟨vl, rfl, s1⟩
  clear hq hc
  obtain ⟨la, lc, rfl⟩ := own_form (n := z.s.l.length) (s1.get 0 rfl)
  go_upto_region 4 with fail
  have hcs : (#[.bool false, .bool false, .bool false, .bool false, .bool false, .bool false, .bool false, .bool false, .bool false] : Array Value) = (ovL a false).toArray := by
    simp [ovL, List.range, List.range.loop]
  rw [hcs]
  clear hcs
  have s2 := s1.box (ovL a false).toArray 197
  clear s1
  generalize w1.alloc (.cells (ovL a false).toArray 197) = w2 at *
  generalize w1.heap.size = M at *
  have HNL : ∃ N, N = z.s.l.length := ⟨_, rfl⟩
  obtain ⟨N, hN⟩ := HNL
  have HN : Hid (N = z.s.l.length) := hN
  rw [← hN] at s2 hlen ⊢
  clear hN
  go_wp2_with fail
  go_loopw [4, 6] (fun lv iv wr => ∃ (j q : Nat), iv = .int .i64 j ∧ j ≤ N ∧ Hid (q = (sts (z.s.l.take j)).length) ∧ lv = .int .i64 (lastOf a b m q) ∧ St o (boxI M (ovL a (ovOf m q)).toArray 197 :: ownI 118 6 (.slice la N lc) N (logCells z.s.l) :: its) wr) (fun _ iv _ => N - (intOf iv).toNat)
  case atStart => exact ⟨0, 0, rfl, Nat.zero_le _, rfl, rfl, by simpa [ovOf] using s2⟩
  case round =>
    clear s2
    obtain ⟨j, q, rfl, hj, HQ, rfl, hS⟩ := hrel
    by_cases hlt : j < N
    · have h1 : (j : Int) < (N : Int) := by omega
      have h0 : (0 : Int) ≤ (j : Int) := by omega
      have hlt' : j < z.s.l.length := by have := HN.out; omega
      obtain ⟨g, cap, e1⟩ := hS.form 1 rfl (by omega)
      simp only [Value.slice.injEq] at e1
      obtain ⟨rfl, -, rfl⟩ := e1
      obtain ⟨x1, x2, x4⟩ := HAT.out j hlt'
      have hlg : (logCells z.s.l).length = N * 6 := by rw [logCells_length, ← HN.out]
      have c1 : wr.cell? ⟨g, j * 6 + 1, none⟩ = some (.int .i64 (z.s.l.getD j Acc.zero).th) := (hS.ownCell 1 rfl _ (by omega)).trans x1
      have c2 : wr.cell? ⟨g, j * 6 + 2, none⟩ = some (.int .i64 (z.s.l.getD j Acc.zero).kind) := (hS.ownCell 1 rfl _ (by omega)).trans x2
      have c4 : wr.cell? ⟨g, j * 6 + 4, none⟩ = some (.int .i64 (z.s.l.getD j Acc.zero).op) := (hS.ownCell 1 rfl _ (by omega)).trans x4
      have HT := HTH.out j hlt'
      have HNn := HNO.out j hlt'
      clear x1 x2 x4 hlg
      generalize z.s.l.getD j Acc.zero = ac at *
      obtain ⟨ast, ath, akind, aat, aop, aok⟩ := ac
      simp only [Acc.isSt] at c1 c2 c4 HT HNn
      cases hk1 : akind == 1 with
      | false =>
        have hk1n : (akind != 1) = true := by simp [bne, hk1]
        have HQ' : Hid (q = (sts (z.s.l.take (j + 1))).length) := by
          show q = _
          rw [HNn (by simp [hk1])]
          exact HQ.out
        have HS : Hid _ := hS
        clear hS HT HNn HQ c1 c4
        go_wp2_with fail
        go_roundw
        case rel => exact ⟨j + 1, q, by go_num, by omega, HQ'.out, rfl, HS.out⟩
        case measure => simp [intOf]; omega
      | true =>
        have hk1n : (akind != 1) = false := by simp [bne, hk1]
        cases ho2 : aop == 2 with
        | false =>
          have ho2n : (aop != 2) = true := by simp [bne, ho2]
          have HQ' : Hid (q = (sts (z.s.l.take (j + 1))).length) := by
            show q = _
            rw [HNn (by simp [hk1, ho2])]
            exact HQ.out
          have HS : Hid _ := hS
          clear hS HT HNn HQ c1
          go_wp2_with fail
          go_roundw
          case rel => exact ⟨j + 1, q, by go_num, by omega, HQ'.out, rfl, HS.out⟩
          case measure => simp [intOf]; omega
        | true =>
          have ho2n : (aop != 2) = false := by simp [bne, ho2]
          obtain ⟨t1, t2⟩ := HT (by simp [hk1, ho2]) q HQ.out
          have HQ' : Hid (q + 1 = (sts (z.s.l.take (j + 1))).length) := t2.symm
          clear HT HNn HQ t2
          obtain ⟨t, ht⟩ : ∃ t : Nat, t = (if q < m then a else b) := ⟨_, rfl⟩
          have hta : ath = (t : Int) := by rw [t1, ht]; split <;> rfl
          subst hta
          have htr : 1 ≤ t ∧ t ≤ 8 := by rw [ht]; split <;> omega
          clear t1
          have b0 : ¬ (t : Int) < 0 := by omega
          have b8 : ¬ (8 : Int) < (t : Int) := by omega
          have b9 : (t : Int) < 9 := by omega
          have b00 : (0 : Int) ≤ (t : Int) := by omega
          have hov : (ovOf m q && ((t : Int) == (a : Int))) = false := by
            by_cases hm : q < m
            · simp [ovOf]; omega
            · rw [if_neg hm] at ht
              have : ¬ (t : Int) = (a : Int) := by omega
              simp [this]
          have co : wr.cell? ⟨M, t, none⟩ = some (.bool false) := (hS.cell 0 rfl t).trans (by rw [List.getElem?_toArray, ovL_at a _ (by omega), hov])
          by_cases hz : q = 0
          · have hl0 : lastOf a b m q = 0 := by simp [lastOf, hz]
            have HL' : Hid (lastOf a b m (q + 1) = (t : Int)) := by
              show _ = _
              rw [ht]
              subst hz
              simp only [lastOf]
              by_cases hm : 0 < m
              · rw [if_pos hm, if_neg (by omega), if_pos (by omega)]
              · rw [if_neg hm, if_neg (by omega), if_neg (by omega)]
            have HS : Hid (St o (boxI M (ovL a (ovOf m (q + 1))).toArray 197 :: ownI 118 6 (.slice (some ⟨g, 0, none⟩) N lc) N (logCells z.s.l) :: its) wr) := by
              have e : ovOf m (q + 1) = ovOf m q := by subst hz; simp [ovOf]; omega
              show St _ _ _
              rw [e]; exact hS
            rw [hl0]
            clear hS hl0 ht
            go_wp2_with fail
            go_roundw
            case rel => exact ⟨j + 1, q + 1, by go_num, by omega, HQ'.out, by rw [HL'.out], HS.out⟩
            case measure => simp [intOf]; omega
          · by_cases hsw : q = m
            · have hl0 : lastOf a b m q = (a : Int) := by simp [lastOf, hz, hsw]; omega
              have htb : t = b := by rw [ht, if_neg (by omega)]
              have hne : ((a : Int) != (t : Int)) = true := by simp [bne]; omega
              have hnz : ((a : Int) != 0) = true := by simp [bne]; omega
              have HL' : Hid (lastOf a b m (q + 1) = (t : Int)) := by
                show _ = _
                rw [htb]
                simp [lastOf]
                omega
              have a00 : (0 : Int) ≤ (a : Int) := by omega
              have a9 : (a : Int) < 9 := by omega
              have fo : wr.frozen? ⟨M, a, none⟩ = false := hS.frozen 0 rfl a
              have ca : wr.cell? ⟨M, a, none⟩ = some (.bool false) := (hS.cell 0 rfl a).trans (by rw [List.getElem?_toArray, ovL_at a _ (by omega)]; simp [ovOf, hsw])
              have HS : Hid (St o (boxI M (ovL a (ovOf m (q + 1))).toArray 197 :: ownI 118 6 (.slice (some ⟨g, 0, none⟩) N lc) N (logCells z.s.l) :: its) (wr.setCell ⟨M, a, none⟩ (.bool true))) := by
                have e : ovOf m q = false := by simp [ovOf, hsw]
                have e2 : ovOf m (q + 1) = true := by simp [ovOf]; omega
                have s3 := hS.write 0 rfl a (.bool true)
                show St _ _ _
                rw [e2, ← ovL_set (by omega)]
                rw [e] at s3
                simpa using s3
              rw [hl0]
              clear hS hl0 ht htb
              go_wp2_with fail
              go_roundw
              case rel => exact ⟨j + 1, q + 1, by go_num, by omega, HQ'.out, by rw [HL'.out], HS.out⟩
              case measure => simp [intOf]; omega
            · have hl0 : lastOf a b m q = (t : Int) := by
                rw [ht]
                simp only [lastOf, if_neg hz]
                by_cases hm : q < m
                · rw [if_pos hm, if_pos (by omega)]
                · rw [if_neg hm, if_neg (by omega)]
              have HL' : Hid (lastOf a b m (q + 1) = (t : Int)) := by
                show _ = _
                rw [ht]
                simp only [lastOf, if_neg (Nat.succ_ne_zero q)]
                by_cases hm : q < m
                · rw [if_pos hm, if_pos (by omega)]
                · rw [if_neg hm, if_neg (by omega)]
              have hne : ((t : Int) != (t : Int)) = false := by simp
              have hnz : ((t : Int) != 0) = true := by simp [bne]; omega
              have HS : Hid (St o (boxI M (ovL a (ovOf m (q + 1))).toArray 197 :: ownI 118 6 (.slice (some ⟨g, 0, none⟩) N lc) N (logCells z.s.l) :: its) wr) := by
                have e : ovOf m (q + 1) = ovOf m q := by
                  by_cases hm : q < m
                  · have e1 : decide (m < q + 1) = false := by simp; omega
                    have e2 : decide (m < q) = false := by simp; omega
                    simp only [ovOf, e1, e2]
                  · have e1 : decide (m < q + 1) = true := by simp; omega
                    have e2 : decide (m < q) = true := by simp; omega
                    simp only [ovOf, e1, e2]
                show St _ _ _
                rw [e]; exact hS
              rw [hl0]
              clear hS hl0 ht
              go_wp2_with fail
              go_roundw
              case rel => exact ⟨j + 1, q + 1, by go_num, by omega, HQ'.out, by rw [HL'.out], HS.out⟩
              case measure => simp [intOf]; omega
    · obtain rfl : j = N := by omega
      have h1 : ¬ (j : Int) < (j : Int) := by omega
      have HS : Hid (St o its wr) := hS.pop.pop
      clear hS
      go_wp2
      go_ret
      exact ⟨rfl, HS.out⟩
end Go.Proofs.YtgjmamgohidbiaaGreat
