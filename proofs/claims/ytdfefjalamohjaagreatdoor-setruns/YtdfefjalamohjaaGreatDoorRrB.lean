/- The document's list of nodes. The document's Read. -/
import Derived.Test.YtdfefjalamohjaaGreatDoorLyM
import Derived.Test.YtdfefjalamohjaaGreatDoorCpD
import Derived.Test.YtdfefjalamohjaaGreatDoorLyA
namespace Go.Proofs.YtdfefjalamohjaaGreatDoor
open Go.RowKit
set_option linter.unusedVariables false
set_option linter.unusedSimpArgs false
attribute [local go_sem ↓] Go.wp_at_zero Go.wp_at_succ

abbrev lstN (v : Value) (zs : List Int) : It := ownI 3 1 v zs.length (xC zs)
theorem buildN1 (W : World) (x : Int) : (Instr.buildSlice 62 1 #[(0, .int .i64 x)]).run Tryz.prog W = .ok (.slice (some ⟨W.heap.size, 0, none⟩) 1 1) (W.alloc (.cells #[.int .i64 x] 3)) := by kernel_rfl
theorem lstN_nil {o0 w : World} {its : List It} (h : St o0 its w) : St o0 (lstN (.slice none 0 0) [] :: its) w := h.own (Kept.refl _ _) (World.ownsRow_nil _ _ _ _)
def lenV : Value → Nat
  | .slice _ k _ => k
  | _ => 0
/-- append(v, z) at ints, z laid in a new block first. -/
theorem wpList_app1_n {o0 w : World} {R : List It} {v : Value} {xs : List Int} {ops : Array Oper} {rest : List Oper} {o : Oper} {a : Act} {Q : Exit → Act → World → Prop} (h : St o0 (lstN v xs :: R) w) (hgd : o.guard = none) (s x : Operand)
    (ho : o.op = .call { callee := .builtin .append, args := #[s, x], argTypes := #[62, 62] }) (hs : a.eval s = v) (z : Int) (hx : a.eval x = .slice (some ⟨w.heap.size, 0, none⟩) 1 1)
    (hsm : (xs.length + 1) * 8 ≤ 140737488355328)
    (hk : ∀ la lc w', St o0 (lstN (.slice la (xs.length + 1) lc) (xs ++ [z]) :: R) w' → wpList Tryz.prog ops Q rest (a.put o.dst (.slice la (xs.length + 1) lc)) w') :
    wpList Tryz.prog ops Q (o :: rest) a (w.alloc (.cells #[.int .i64 z] 3)) := by
  obtain ⟨i0, hi0, hz0, hz1, hz2⟩ := info_parts Tryz.infoN
  have p0 : (w.alloc (.cells #[.int .i64 z] 3)).ownsRow 0 3 1 v xs.length (xC xs) := World.ownsRow.alloc (show w.ownsRow 0 3 1 v xs.length (xC xs) from h.get 0 rfl) _
  refine wpList_append_lies _ hgd s x 62 ho 0 3 i0 _ 1 8 Tryz.underlying62 hi0 hz0 hz1 hz2 rfl (by omega) v xs.length (xC xs) hs p0 ⟨w.heap.size, 0, none⟩ 1 1 [.int .i64 z] hx rfl (World.news_of_block (cs := #[.int .i64 z]) (t := 3) (fr := (0, 0)) (heap_alloc_new w _)) (by simp [Value.oneCell']) (by omega) (by unfold maxLen; omega) (by omega) (Nat.zero_le _) (w.heap.size + 1) (by simp) ?_
  intro g cap w' h1 h2 h3 h4
  refine hk (some ⟨g, 0, none⟩) cap w' ?_
  have s1 := h.ownGrow 0 rfl h1 (((Kept.refl _ w).alloc (.cells #[.int .i64 z] 3)).grown h2 (fun k e => .inl e)) (by
    rcases h3 with e | e
    · exact .inl e.symm
    · exact .inr ⟨g, rfl, by omega⟩)
  have e1 : (xs ++ [z]).length = xs.length + 1 := by simp
  have e2 : xC (xs ++ [z]) = xC xs ++ [.int .i64 z] := by simp [xC]
  show St o0 (ownI 3 1 _ (xs ++ [z]).length (xC (xs ++ [z])) :: _) _
  rw [e1, e2]
  exact s1
/-- How the document's list ends. -/
def ListE (P : List Int) (n : Nat) (f : Int) (w : World) (la : Option Addr) (m lc : Nat) (b : Bool) (w' : World) : Prop :=
  (b = true ∧ ∃ xs, m = xs.length ∧ LsOk P n f xs ∧ St w [lstN (.slice la m lc) xs] w') ∨ (b = false ∧ (∀ xs, ¬ LsOk P n f xs) ∧ Kept (fun _ => False) w w')
set_option maxRecDepth 100000 in
set_option maxHeartbeats 4000000 in
theorem list_any {w : World} {g o n lc : Nat} {P : List Int} (f : Int) (hP : XIn w (some ⟨g, o, none⟩) (3 + 2 * n) P) (hn : n ≤ 60) :
    Calls Tryz.prog 36 #[.slice (some ⟨g, o, none⟩) (3 + 2 * n) lc, .int .i64 n, .int .i64 f] w fun e w' => ∃ la m c b, e = .returned (.tuple #[.slice la m c, .bool b]) ∧ Hid (ListE P n f w la m c b w') := by
  have HP := hid hP
  have HS0 := hid (lstN_nil (St.nil w))
  have hb := fun W x => buildN1 W x
  have HN := hid hn
  clear hP
  go_enter Tryz.func36, Tryz.ntmps36
  go_wp2
  go_loopw [2, 8] (fun hv ov wr => ∃ (x : Int) (pre : List Int) (la : Option Addr) (m c : Nat), hv = .int .i64 x ∧ ov = .slice la m c ∧ m = pre.length ∧ Tr P n f pre x ∧ (∀ k ∈ pre, isN n k = true) ∧ pre.length ≤ n ∧ St w [lstN (.slice la m c) pre] wr) (fun _ ov _ => n - lenV ov)
  case atStart => exact ⟨f, [], none, 0, 0, rfl, rfl, rfl, rfl, fun k hk => by simp at hk, Nat.zero_le _, HS0.out⟩
  case round =>
    clear HS0
    obtain ⟨x, pre, la, m, c, rfl, rfl, rfl, hT, hI, hle, hs⟩ := hrel
    have hn6 := HN.out
    by_cases h0 : x = 0
    · have t0 : (x != 0) = false := by simp [h0]
      have HF : Hid (ListE P n f w la pre.length c true wr) := .inl ⟨rfl, pre, rfl, ⟨by rw [h0] at hT; exact hT, hI, hle⟩, hs⟩
      clear hT hI hle hs h0
      go_wp2
      go_ret2
      exact ⟨la, pre.length, c, true, rfl, HF.out⟩
    · have t0 : (x != 0) = true := by simp [h0]
      by_cases hbad : x < 0 ∨ (n : Int) < x ∨ pre.length = n
      · have HF : Hid (ListE P n f w none 0 0 false wr) := .inr ⟨rfl, LsOk.no hT h0 (fun hi => by have := isN_iff.1 hi; omega), hs.same⟩
        have hcase : (decide (x < 0) = true) ∨ (decide (x < 0) = false ∧ decide ((n : Int) < x) = true) ∨ (decide (x < 0) = false ∧ decide ((n : Int) < x) = false ∧ ((pre.length : Int) == (n : Int)) = true) := by
          by_cases a1 : x < 0
          · exact .inl (decide_eq_true a1)
          · by_cases a2 : (n : Int) < x
            · exact .inr (.inl ⟨decide_eq_false a1, decide_eq_true a2⟩)
            · exact .inr (.inr ⟨decide_eq_false a1, decide_eq_false a2, by simp; omega⟩)
        clear hT hI hle hs hbad
        rcases hcase with t1 | ⟨t1, t2⟩ | ⟨t1, t2, t3⟩
        all_goals
          go_wp2
          go_ret2
          exact ⟨none, 0, 0, false, rfl, HF.out⟩
      · obtain ⟨k, rfl⟩ : ∃ k : Nat, x = (k : Int) := ⟨x.toNat, by omega⟩
        have hk1 : 1 ≤ k := by omega
        have hk2 : k ≤ n := by omega
        have t1 : decide ((k : Int) < 0) = false := decide_eq_false (by omega)
        have t2 : decide ((n : Int) < (k : Int)) = false := decide_eq_false (by omega)
        have t2' : decide (n < k) = false := decide_eq_false (by omega)
        have t3 : ((pre.length : Int) == (n : Int)) = false := by simp; omega
        have hsN : isN n (k : Int) = true := isN_iff.2 (by omega)
        have hT2 := hT.snoc h0
        have hnx : nxtM P n (k : Int) = P.getD (2 + 2 * k) 0 := by unfold nxtM lnkM; rw [if_pos hsN, Int.toNat_natCast]
        rw [hnx] at hT2
        have HT2 := hid hT2
        have HI2 : Hid (∀ q ∈ pre ++ [(k : Int)], isN n q = true) := hid (fun q hq => by
          rcases List.mem_append.1 hq with hq | hq
          · exact hI q hq
          · rw [List.mem_singleton.1 hq]; exact hsN)
        have HC : Hid (∀ W, Kept (fun _ => False) w W → W.cell? ⟨g, o + (2 + 2 * k), none⟩ = some (.int .i64 (P.getD (2 + 2 * k) 0))) := hid (fun W kk => (HP.out.kept kk).cell (j := 2 + 2 * k) (by omega))
        have hlp : pre.length < n := by omega
        have HLP := hid hlp
        have HS := hid hs
        have e1 : ((2 : Int) + 2 * (k : Int)).toNat = 2 + 2 * k := by omega
        have e2 : (0 : Int) ≤ 2 + 2 * (k : Int) := by omega
        have e3 : (2 : Int) + 2 * (k : Int) < ((3 + 2 * n : Nat) : Int) := by omega
        have e4 : (k : Int) ≤ 60 := by omega
        generalize P.getD (2 + 2 * k) 0 = y at *
        clear hT hI hle hs hbad hsN hT2 hnx h0
        go_wp2_with (first | simp only [hb] | (at_builtin; refine wpList_app1_n HS.out rfl (.tmp 24) (.tmp 26) rfl rfl (k : Int) rfl (by omega) ?_; intro la2 c2 w2 s2; have HS2 := hid s2; have hcc := HC.out w2 s2.same; clear s2))
        go_roundw
        case rel => exact ⟨y, pre ++ [(k : Int)], la2, pre.length + 1, c2, rfl, rfl, by simp, HT2.out, HI2.out, by have := HLP.out; simp; omega, HS2.out⟩
        case measure =>
          have := HLP.out
          simp [lenV]
          omega
end Go.Proofs.YtdfefjalamohjaaGreatDoor

namespace Go.Proofs.YtdfefjalamohjaaGreatDoor
open Go.RowKit
set_option linter.unusedVariables false
set_option linter.unusedSimpArgs false
attribute [local go_sem ↓] Go.wp_at_zero Go.wp_at_succ

theorem ListE.kept {P : List Int} {n : Nat} {f : Int} {w w' : World} {la : Option Addr} {m lc : Nat} {b : Bool} (h : ListE P n f w la m lc b w') : Kept (fun _ => False) w w' := by
  rcases h with ⟨_, xs, _, _, s⟩ | ⟨_, _, k⟩
  · exact s.same
  · exact k
theorem take_snocI (L : List Int) {i : Nat} (hi : i < L.length) : L.take (i + 1) = L.take i ++ [L.getD i 0] := by
  rw [List.take_succ_eq_append_getElem hi, List.getD_eq_getElem?_getD, List.getElem?_eq_getElem hi]
  rfl
theorem nodup_bad {L : List Int} {i : Nat} (hi : i < L.length) (h : L.getD i 0 ∈ L.take i) : ¬ L.Nodup := fun hn => by
  have h2 : (L.take (i + 1)).Nodup := (List.take_sublist _ _).nodup hn
  rw [take_snocI L hi] at h2
  exact (List.nodup_append.1 h2).2.2 _ h _ (by simp) rfl
theorem nodup_more {L : List Int} {i : Nat} (hi : i < L.length) (hn : (L.take i).Nodup) (h : ¬ L.getD i 0 ∈ L.take i) : (L.take (i + 1)).Nodup := by
  rw [take_snocI L hi]
  exact List.nodup_append.2 ⟨hn, by simp, fun a ha b hb e => by
    rw [List.mem_singleton] at hb
    subst hb e
    exact h ha⟩
theorem rises_bad {L : List Int} {i : Nat} (hi : i < L.length) (h0 : 0 < i) (h : ¬ L.getD (i - 1) 0 < L.getD i 0) : ¬ risesB L = true := fun hr => by
  have := List.pairwise_iff_getElem.1 (rises_pairwise hr) (i - 1) i (by omega) hi (by omega)
  rw [List.getD_eq_getElem?_getD, List.getElem?_eq_getElem (by omega), List.getD_eq_getElem?_getD, List.getElem?_eq_getElem hi] at h
  exact h this
theorem rises_more {L : List Int} {i : Nat} (hi : i < L.length) (hr : risesB (L.take i) = true) (h : i = 0 ∨ L.getD (i - 1) 0 < L.getD i 0) : risesB (L.take (i + 1)) = true := by
  rw [take_snocI L hi, rises_snoc _ _ hr]
  rcases h with rfl | h
  · simp
  · by_cases h0 : i = 0
    · subst h0; simp
    · have hl : (L.take i).length = i := by rw [List.length_take]; omega
      have e : (L.take i).getD ((L.take i).length - 1) 0 = L.getD (i - 1) 0 := by
        rw [hl]
        simp only [List.getD_eq_getElem?_getD]
        rw [List.getElem?_take_of_lt (by omega)]
      rw [e, decide_eq_true h, Bool.or_true]
theorem getD_mapK (f : Int → Int) (L : List Int) {i : Nat} (hi : i < L.length) : (L.map f).getD i 0 = f (L.getD i 0) := by
  rw [List.getD_eq_getElem?_getD, List.getElem?_map, List.getD_eq_getElem?_getD, List.getElem?_eq_getElem hi]
  rfl
theorem node_nat {n : Nat} {L : List Int} (h : ∀ k ∈ L, isN n k = true) {i : Nat} (hi : i < L.length) : ∃ p : Nat, L.getD i 0 = (p : Int) ∧ 1 ≤ p ∧ p ≤ n := by
  have hm : L.getD i 0 ∈ L := by
    rw [List.getD_eq_getElem?_getD, List.getElem?_eq_getElem hi]
    exact List.getElem_mem _
  have := isN_iff.1 (h _ hm)
  exact ⟨(L.getD i 0).toNat, by omega, by omega, by omega⟩
theorem rowL_cell {o0 w : World} {its : List It} {ga c n : Nat} {xs : List Int} {t : Nat} (h : St o0 its w) (q : Nat) (hi : its[q]? = some (ownI t 1 (.slice (some ⟨ga, 0, none⟩) n c) xs.length (xC xs))) (hn : n = xs.length) {j : Nat} (hj : j < xs.length) : w.cell? ⟨ga, j, none⟩ = some (.int .i64 (xs.getD j 0)) := by
  subst hn
  rw [h.ownCell q hi j (by omega)]
  exact xC_at xs j hj
set_option maxRecDepth 100000 in
set_option maxHeartbeats 16000000 in
theorem rRead_any (la : Option Addr) (m lc : Nat) (zs : List Int) (base n : Int) (w : World) (hX : XIn w la m zs) (hc : m ≤ lc) (hm : m ≤ 4611686018427387904) :
    Calls Tryz.prog 18 #[.slice la m lc, .int .i64 base, .int .i64 n] w (ReadE zs base n w) := by
  have hml := hX.1
  have hQ := fun W => rRoom_any n W
  by_cases h : fitsS base n m = true
  · have hfz : fitsS base n zs.length = true := by rw [← hml]; exact h
    unfold fitsS at h
    simp only [Bool.and_eq_true, decide_eq_true_eq] at h
    obtain ⟨h0, hb0, hb1⟩ := h
    obtain ⟨h1, h2, h3⟩ := roomS_pos h0
    rw [h3] at hb1 hQ
    obtain ⟨k, rfl⟩ : ∃ k : Nat, n = (k : Int) := ⟨n.toNat, by omega⟩
    obtain ⟨i0, rfl⟩ : ∃ i : Nat, base = (i : Int) := ⟨base.toNat, by omega⟩
    obtain ⟨g, o, rfl⟩ := hX.addr (by omega)
    have hsl := slicePart g o m lc i0 (3 + 2 * k) (by omega) (by omega) hc (i0 : Int) ((i0 : Int) + (3 + 2 * (k : Int))) rfl (by push_cast; rfl)
    have hP := hX.part i0 (3 + 2 * k) (by omega)
    have HQ : Hid (∀ e w', (match readM ((zs.drop i0).take (3 + 2 * k)) k with
        | some ks => ∃ v, e = .returned (.tuple #[v, .int .i64 0]) ∧ St w [ownI 2 1 v ks.length (xC ks)] w'
        | none => e = .returned (.tuple #[.slice none 0 0, .int .i64 181]) ∧ Kept (fun _ => False) w w') → ReadE zs (i0 : Int) (k : Int) w e w') := fun e w' hh => by
      unfold ReadE
      rw [if_pos hfz]
      simp only [Int.toNat_natCast]
      exact hh
    generalize ReadE zs (i0 : Int) (k : Int) w = Q at *
    generalize (zs.drop i0).take (3 + 2 * k) = P at *
    have HNo : Hid (readM P k = none → ∀ W, Kept (fun _ => False) w W → Q (.returned (.tuple #[.slice none 0 0, .int .i64 181])) W) := hid (fun h W kw => HQ.out _ _ (by rw [h]; exact ⟨rfl, kw⟩))
    have HYes : Hid (∀ ks v W, readM P k = some ks → St w [lstI v ks] W → Q (.returned (.tuple #[v, .int .i64 0])) W) := hid (fun ks v W h s => HQ.out _ _ (by rw [h]; exact ⟨v, rfl, s⟩))
    have c0 : w.cell? ⟨g, o + i0, none⟩ = some (.int .i64 (P.getD 0 0)) := hP.cell (j := 0) (by omega)
    have tz : ((3 + 2 * (k : Int)) == 0) = false := by simp; omega
    have tb : decide ((i0 : Int) < 0) = false := by simp
    have tc : decide ((m : Int) < (i0 : Int)) = false := decide_eq_false (by omega)
    have td : decide ((m : Int) - (i0 : Int) < 3 + 2 * (k : Int)) = false := decide_eq_false (by omega)
    have te : decide (m < i0) = false := decide_eq_false (by omega)
    have p2 : (0 : Int) ≤ (i0 : Int) := by omega
    have p3 : (i0 : Int) + (3 + 2 * (k : Int)) ≤ 9223372036854775807 := by omega
    have p4 : (0 : Int) < ((3 + 2 * k : Nat) : Int) := by omega
    have p5 : (1 : Int) < ((3 + 2 * k : Nat) : Int) := by omega
    have p6 : (2 : Int) < ((3 + 2 * k : Nat) : Int) := by omega
    have p7 : (m : Int) ≤ 4611686018427387904 := by omega
    have hk : k ≤ 60 := by omega
    have hl0 := list_any (lc := lc - i0) (P.getD 0 0) hP hk
    have HP := hid hP
    have HK := hid hk
    clear hX hfz h0 h3 hml hb0 hb1 hP HQ
    go_enter Tryz.func18, Tryz.ntmps18
    go_upto_region 6 with (first | (go_at_call 12; refine (hQ _).mono ?_; rintro e wq ⟨rfl, hwq⟩; obtain rfl : w = wq := hwq.symm; clear hwq) | simp only [hsl] | (go_at_call 36; refine hl0.mono ?_; rintro e w1 ⟨la, m1, ca, b1, rfl, HL1⟩))
    have k1 := ListE.kept HL1.out
    have c1 : w1.cell? ⟨g, o + i0 + 1, none⟩ = some (.int .i64 (P.getD 1 0)) := (HP.out.kept k1).cell (j := 1) (by omega)
    have hl1 := list_any (lc := lc - i0) (P.getD 1 0) (HP.out.kept k1) hk
    have HK1 := hid k1
    clear hl0 k1 c0 tz tb tc td te hsl hQ
    go_upto_region 7 with (go_at_call 36; refine hl1.mono ?_; rintro e w2 ⟨lb, m2, cb, b2, rfl, HL2⟩)
    have HK2 := hid (HK1.out.trans (ListE.kept HL2.out) (fun _ _ f => f))
    have c2 : w2.cell? ⟨g, o + i0 + 2, none⟩ = some (.int .i64 (P.getD 2 0)) := (HP.out.kept HK2.out).cell (j := 2) (by omega)
    clear hl1 c1 p3 p4 p5
    rcases HL1.out with ⟨rfl, xs, hm1, hls1, s1⟩ | ⟨rfl, hno, -⟩
    case inr =>
      have HF := hid (HNo.out (read_no fun a b h1 _ _ _ _ _ => hno a h1) w2 HK2.out)
      clear HL1 HL2 hno
      go_wp2
      exact HF.out
    rcases HL2.out with ⟨rfl, ys, hm2, hls2, s2⟩ | ⟨rfl, hno, -⟩
    case inr =>
      have HF := hid (HNo.out (read_no fun a b _ h2 _ _ _ _ => hno b h2) w2 HK2.out)
      clear HL1 HL2 hno hls1 s1 hm1
      go_wp2
      exact HF.out
    have s3 : St w [lstN (.slice lb m2 cb) ys, lstN (.slice la m1 ca) xs] w2 := s1.join s2
    have hx1 := hls1.2.2
    have hx2 := hls2.2.2
    have q1 : (m1 : Int) ≤ 60 := by omega
    have q2 : (m2 : Int) ≤ 60 := by omega
    have HE1 := hid hls1
    have HE2 := hid hls2
    have HM1 := hid hm1
    have HM2 := hid hm2
    have HS3 := hid s3
    generalize hz : P.getD 2 0 = z at *
    have HZ := hid hz
    clear HL1 HL2 s1 s2 s3 hls1 hls2 hx1 hx2 hz hm1 hm2
    by_cases hlen : m1 + m2 = k
    case neg =>
      have HF := hid (HNo.out (read_no2 HE1.out HE2.out (fun hh => hlen (by rw [HM1.out, HM2.out]; exact hh.1))) w2 HK2.out)
      have t1 : ((m1 : Int) + (m2 : Int) != (k : Int)) = true := by simp; omega
      clear hlen HS3
      go_wp2
      exact HF.out
    have t1 : ((m1 : Int) + (m2 : Int) != (k : Int)) = false := by simp; omega
    by_cases hzz : z = (m1 : Int)
    case neg =>
      have HF := hid (HNo.out (read_no2 HE1.out HE2.out (fun hh => hzz (by rw [← HZ.out, HM1.out]; exact hh.2.2.1))) w2 HK2.out)
      have t2 : (z != (m1 : Int)) = true := by simpa using hzz
      clear hlen HS3 hzz
      go_wp2
      exact HF.out
    subst hzz
    have t2 : ((m1 : Int) != (m1 : Int)) = false := by simp
    have hmk := makeB (k + 1) ((k : Int) + 1) (by push_cast; rfl) (by omega) w2
    have s4 := HS3.out.box (bCells (List.replicate (k + 1) false)) 4
    rw [show bCells (List.replicate (k + 1) false) = beC k [] from (beC_nil k).symm] at s4 hmk
    obtain ⟨all, hall⟩ : ∃ all, all = xs ++ ys := ⟨_, rfl⟩
    have HLen := hid hlen
    have hal : all.length = k := by rw [hall, List.length_append, ← HM1.out, ← HM2.out]; exact hlen
    have HBad : Hid (¬ all.Nodup → readM P k = none) := hid (fun hh => read_no2 HE1.out HE2.out (fun h9 => hh (by rw [hall]; exact h9.2.1)))
    have hnode : ∀ q ∈ all, isN k q = true := fun q hq => by
      rw [hall] at hq
      rcases List.mem_append.1 hq with hq | hq
      · exact HE1.out.2.1 q hq
      · exact HE2.out.2.1 q hq
    have hga : ∀ j, j < m1 → xs.getD j 0 = all.getD j 0 := fun j hj => by
      rw [hall]
      simp only [List.getD_eq_getElem?_getD]
      rw [List.getElem?_append_left (by have := HM1.out; omega)]
    have hgb : ∀ j, ¬ j < m1 → j < k → ys.getD (j - m1) 0 = all.getD j 0 := fun j hj _ => by
      rw [hall]
      simp only [List.getD_eq_getElem?_getD]
      rw [List.getElem?_append_right (by have := HM1.out; omega), ← HM1.out]
    have HND := hid (And.intro hnode (And.intro hga (And.intro hgb hal)))
    have HAll := hid hall
    have hk1 : (k : Int) + 1 ≤ 61 := by omega
    clear hnode hga hgb HS3 hall hal hlen
    generalize hw3 : w2.alloc (.cells (beC k []) 4) = w3 at *
    generalize hG : w2.heap.size = G at *
    have HS4 : Hid (St w [boxI G (beC k (all.take 0)) 4, lstN (.slice lb m2 cb) ys, lstN (.slice la m1 ca) xs] w3) := hid s4
    clear s4
    go_wp2_with (simp only [hmk, hw3, hG])
    clear hmk hw3 hG c2
    go_loopw [15] (fun v wr => ∃ j : Nat, v = .int .i64 j ∧ j ≤ k ∧ (all.take j).Nodup ∧ St w [boxI G (beC k (all.take j)) 4, lstN (.slice lb m2 cb) ys, lstN (.slice la m1 ca) xs] wr) (fun v _ => k - (intOf v).toNat)
    case atStart => exact ⟨0, rfl, Nat.zero_le _, List.nodup_nil, HS4.out⟩
    case round =>
      clear HS4
      obtain ⟨j, rfl, hj, hnd, hst⟩ := hrel
      obtain ⟨hnode, hga, hgb, hal⟩ := HND.out
      have b1 := HK.out
      by_cases hlt : j < k
      · obtain ⟨p, hp, hp1, hp2⟩ := node_nat hnode (i := j) (by omega)
        have z1 : (j : Int) < (k : Int) := by omega
        have z2 : (0 : Int) ≤ (j : Int) := by omega
        have z3 : (j : Int) + 1 ≤ 61 := by omega
        have z4 : (0 : Int) ≤ (p : Int) := by omega
        have z5 : (p : Int) < ((k + 1 : Nat) : Int) := by omega
        have z5' : (p : Int) < (k : Int) + 1 := by omega
        have b0 : wr.cell? ⟨G, p, none⟩ = some (.bool (decide ((p : Int) ∈ all.take j))) := by rw [hst.cell 0 rfl p]; exact beC_at k _ hp2
        have f0 : wr.frozen? ⟨G, p, none⟩ = false := hst.frozen 0 rfl p
        have HW : Hid (St w [boxI G ((beC k (all.take j)).setIfInBounds p (.bool true)) 4, lstN (.slice lb m2 cb) ys, lstN (.slice la m1 ca) xs] (wr.setCell ⟨G, p, none⟩ (.bool true))) := hid (hst.write 0 rfl p (.bool true))
        have HSt := hid hst
        have HJ := hid hlt
        have HBd : Hid (decide ((p : Int) ∈ all.take j) = true → Q (.returned (.tuple #[.slice none 0 0, .int .i64 181])) wr) := hid (fun h9 => HNo.out (HBad.out (nodup_bad (i := j) (by omega) (by rw [hp]; exact of_decide_eq_true h9))) wr HSt.out.same)
        have HGd : Hid (decide ((p : Int) ∈ all.take j) = false → (all.take (j + 1)).Nodup ∧ St w [boxI G (beC k (all.take (j + 1))) 4, lstN (.slice lb m2 cb) ys, lstN (.slice la m1 ca) xs] (wr.setCell ⟨G, p, none⟩ (.bool true))) := hid (fun h9 => by
          refine ⟨nodup_more (by omega) hnd (by rw [hp]; exact of_decide_eq_false h9), ?_⟩
          have := HW.out
          rw [beC_set k _ hp2, ← hp, ← take_snocI all (by omega)] at this
          exact this)
        cases hbb : decide ((p : Int) ∈ all.take j) with
        | true =>
          rw [hbb] at b0 HBd
          have HF := hid (HBd.out rfl)
          by_cases him : j < m1
          · obtain ⟨ga, ca', e⟩ := hst.form 2 rfl (by have := HM1.out; omega)
            simp only [Value.slice.injEq] at e
            obtain ⟨rfl, -, rfl⟩ := e
            have x0 := rowL_cell hst 2 (by rfl) HM1.out (j := j) (by have := HM1.out; omega)
            rw [hga j him, hp] at x0
            have z6 : (j : Int) < (m1 : Int) := by omega
            clear hst hnd hga hgb hal hnode hlt hp HW HGd HBd him
            go_wp2
            exact HF.out
          · obtain ⟨gb, cb', e⟩ := hst.form 1 rfl (by have := HM1.out; have := HM2.out; have := HLen.out; omega)
            simp only [Value.slice.injEq] at e
            obtain ⟨rfl, -, rfl⟩ := e
            have x0 := rowL_cell hst 1 (by rfl) HM2.out (j := j - m1) (by have := HM2.out; have := HLen.out; omega)
            rw [hgb j him hlt, hp] at x0
            have z6 : ¬ (j : Int) < (m1 : Int) := by omega
            have z7 : (0 : Int) ≤ (j : Int) - (m1 : Int) := by omega
            have z8 : (j : Int) - (m1 : Int) < (m2 : Int) := by have := HLen.out; omega
            have z9 : ((j : Int) - (m1 : Int)).toNat = j - m1 := by omega
            clear hst hnd hga hgb hal hnode hlt hp HW HGd HBd him
            go_wp2
            exact HF.out
        | false =>
          rw [hbb] at b0 HGd
          have HF := hid (HGd.out rfl)
          by_cases him : j < m1
          · obtain ⟨ga, ca', e⟩ := hst.form 2 rfl (by have := HM1.out; omega)
            simp only [Value.slice.injEq] at e
            obtain ⟨rfl, -, rfl⟩ := e
            have x0 := rowL_cell hst 2 (by rfl) HM1.out (j := j) (by have := HM1.out; omega)
            rw [hga j him, hp] at x0
            have z6 : (j : Int) < (m1 : Int) := by omega
            clear hst hnd hga hgb hal hnode hlt hp HW HGd HBd him
            go_wp2
            go_roundw
            case rel => exact ⟨j + 1, by push_cast; rfl, by have := HJ.out; omega, HF.out⟩
            case measure =>
              have := HJ.out
              simp [intOf]
              omega
          · obtain ⟨gb, cb', e⟩ := hst.form 1 rfl (by have := HM1.out; have := HM2.out; have := HLen.out; omega)
            simp only [Value.slice.injEq] at e
            obtain ⟨rfl, -, rfl⟩ := e
            have x0 := rowL_cell hst 1 (by rfl) HM2.out (j := j - m1) (by have := HM2.out; have := HLen.out; omega)
            rw [hgb j him hlt, hp] at x0
            have z6 : ¬ (j : Int) < (m1 : Int) := by omega
            have z7 : (0 : Int) ≤ (j : Int) - (m1 : Int) := by omega
            have z8 : (j : Int) - (m1 : Int) < (m2 : Int) := by have := HLen.out; omega
            have z9 : ((j : Int) - (m1 : Int)).toNat = j - m1 := by omega
            clear hst hnd hga hgb hal hnode hlt hp HW HGd HBd him
            go_wp2
            go_roundw
            case rel => exact ⟨j + 1, by push_cast; rfl, by have := HJ.out; omega, HF.out⟩
            case measure =>
              have := HJ.out
              simp [intOf]
              omega
      · obtain rfl : j = k := by omega
        have hjj : ¬ (j : Int) < (j : Int) := by omega
        rw [List.take_of_length_le (by omega)] at hnd
        have HKs : Hid (risesB (xs.map (keyM P)) = true → readM P j = some (xs.map (keyM P))) := hid (fun hr => read_yes HE1.out HE2.out (by rw [← HM1.out, ← HM2.out]; exact HLen.out) (by rw [← HAll.out]; exact hnd) (by rw [HZ.out, HM1.out]) hr)
        have HKn : Hid (¬ risesB (xs.map (keyM P)) = true → readM P j = none) := hid (fun hr => read_no2 HE1.out HE2.out (fun h9 => hr h9.2.2.2))
        have HS5 : Hid (St w (lstI (.slice none 0 0) ((xs.map (keyM P)).take 0) :: [lstN (.slice la m1 ca) xs]) wr) := hid (lst_nil (hst.pop.pop))
        have hb1 := fun W x => buildX1 W x
        clear hst hnd hga hgb hal hnode hlt hj
        go_wp2
        clear hjj
        go_loopw [17, 18] (fun kv v wr => ∃ (i : Nat) (ka : Option Addr) (kc : Nat), v = .int .i64 i ∧ kv = .slice ka i kc ∧ i ≤ m1 ∧ risesB ((xs.map (keyM P)).take i) = true ∧ St w [lstI (.slice ka i kc) ((xs.map (keyM P)).take i), lstN (.slice la m1 ca) xs] wr) (fun _ v _ => m1 - (intOf v).toNat)
        case atStart => exact ⟨0, none, 0, rfl, rfl, Nat.zero_le _, rfl, HS5.out⟩
        case round =>
          clear HS5
          obtain ⟨i, ka, kc, rfl, rfl, hi, hri, hst⟩ := hrel
          by_cases hlt : i < m1
          · obtain ⟨p, hp, hp1, hp2⟩ := node_nat HE1.out.2.1 (i := i) (by have := HM1.out; omega)
            obtain ⟨ga, ca', e⟩ := hst.form 1 rfl (by have := HM1.out; have := HM2.out; have := HLen.out; omega)
            simp only [Value.slice.injEq] at e
            obtain ⟨rfl, -, rfl⟩ := e
            have x0 := rowL_cell hst 1 (by rfl) HM1.out (j := i) (by have := HM1.out; omega)
            rw [hp] at x0
            have x1 : wr.cell? ⟨g, o + i0 + (1 + 2 * p), none⟩ = some (.int .i64 (P.getD (1 + 2 * p) 0)) := (HP.out.kept hst.same).cell (j := 1 + 2 * p) (by omega)
            have hkey : (xs.map (keyM P)).getD i 0 = P.getD (1 + 2 * p) 0 := by rw [getD_mapK _ _ (by have := HM1.out; omega), hp]; unfold keyM; rw [Int.toNat_natCast]
            have hkl : (xs.map (keyM P)).length = m1 := by rw [List.length_map]; exact HM1.out.symm
            have htl : ((xs.map (keyM P)).take i).length = i := by rw [List.length_take]; omega
            have z1 : (i : Int) < (m1 : Int) := by omega
            have z2 : (0 : Int) ≤ (i : Int) := by omega
            have z3 : (i : Int) + 1 ≤ 61 := by omega
            have z4 : (0 : Int) ≤ 1 + 2 * (p : Int) := by omega
            have z5 : (1 : Int) + 2 * (p : Int) < ((3 + 2 * j : Nat) : Int) := by omega
            have z6 : ((1 : Int) + 2 * (p : Int)).toNat = 1 + 2 * p := by omega
            have z7 : (p : Int) ≤ 60 := by omega
            have z8 : (1 : Int) ≤ (p : Int) := by omega
            have HJ := hid hlt
            have HTL := hid htl
            have HKL := hid hkl
            have HKey := hid hkey
            have HRi := hid hri
            have HSt := hid hst
            generalize P.getD (1 + 2 * p) 0 = y at *
            by_cases hi0 : i = 0
            · have t3 : decide ((0 : Int) < (i : Int)) = false := decide_eq_false (by omega)
              have t3' : decide (0 < i) = false := decide_eq_false (by omega)
              have HR2 := hid (rises_more (L := xs.map (keyM P)) (i := i) (by omega) hri (.inl hi0))
              clear hst hri hkey hkl htl hlt hi hp hi0
              go_wp2_with (first | simp only [hb1] | (at_builtin; refine wpList_app1_st HSt.out rfl (.tmp 145) (.tmp 147) rfl rfl y rfl (by have := HTL.out; omega) ?_; intro v4 w4 h4; rw [← HKey.out, ← take_snocI (xs.map (keyM P)) (by have := HKL.out; have := HJ.out; omega)] at h4; have e4 : ((xs.map (keyM P)).take (i + 1)).length = i + 1 := (by have := HKL.out; have := HJ.out; rw [List.length_take]; omega); obtain ⟨va2, vc2, rfl, -⟩ := own_xin (show w4.ownsRow 0 2 1 v4 ((xs.map (keyM P)).take (i + 1)).length (xC ((xs.map (keyM P)).take (i + 1))) from h4.get 0 rfl); rw [e4] at h4 ⊢; have HS4 := hid h4; clear h4 e4))
              go_roundw
              case rel => exact ⟨i + 1, va2, vc2, by push_cast; rfl, rfl, by have := HJ.out; omega, HR2.out, by have := HS4.out; exact this⟩
              case measure =>
                have := HJ.out
                simp [intOf]
                omega
            · have t3 : decide ((0 : Int) < (i : Int)) = true := decide_eq_true (by omega)
              have t3' : decide (0 < i) = true := decide_eq_true (by omega)
              obtain ⟨gk, kc', e⟩ := hst.form 0 rfl (by rw [htl]; omega)
              simp only [Value.slice.injEq] at e
              obtain ⟨rfl, -, rfl⟩ := e
              have x2 := rowL_cell hst 0 (by rfl) htl.symm (j := i - 1) (by omega)
              have e5 : ((xs.map (keyM P)).take i).getD (i - 1) 0 = (xs.map (keyM P)).getD (i - 1) 0 := by
                simp only [List.getD_eq_getElem?_getD]
                rw [List.getElem?_take_of_lt (by omega)]
              rw [e5] at x2
              have y1 : (0 : Int) ≤ (i : Int) - 1 := by omega
              have y2 : (i : Int) - 1 < (i : Int) := by omega
              have y3 : ((i : Int) - 1).toNat = i - 1 := by omega
              have y4 : (1 : Int) ≤ (i : Int) := by omega
              have HBr : Hid (¬ (xs.map (keyM P)).getD (i - 1) 0 < y → Q (.returned (.tuple #[.slice none 0 0, .int .i64 181])) wr) := hid (fun h9 => HNo.out (HKn.out (rises_bad (i := i) (by omega) (by omega) (by rw [hkey]; exact h9))) wr hst.same)
              have HGr : Hid ((xs.map (keyM P)).getD (i - 1) 0 < y → risesB ((xs.map (keyM P)).take (i + 1)) = true) := hid (fun h9 => rises_more (by omega) hri (.inr (by rw [hkey]; exact h9)))
              generalize hyy : (xs.map (keyM P)).getD (i - 1) 0 = yy at *
              by_cases hxy : yy < y
              · have t4 : decide (y ≤ yy) = false := decide_eq_false (by omega)
                have HR2 := hid (HGr.out hxy)
                clear hst hri hkey hkl htl hlt hi hp hi0 e5 hyy HBr HGr hxy
                go_wp2_with (first | simp only [hb1] | (at_builtin; refine wpList_app1_st HSt.out rfl (.tmp 145) (.tmp 147) rfl rfl y rfl (by have := HTL.out; omega) ?_; intro v4 w4 h4; rw [← HKey.out, ← take_snocI (xs.map (keyM P)) (by have := HKL.out; have := HJ.out; omega)] at h4; have e4 : ((xs.map (keyM P)).take (i + 1)).length = i + 1 := (by have := HKL.out; have := HJ.out; rw [List.length_take]; omega); obtain ⟨va2, vc2, rfl, -⟩ := own_xin (show w4.ownsRow 0 2 1 v4 ((xs.map (keyM P)).take (i + 1)).length (xC ((xs.map (keyM P)).take (i + 1))) from h4.get 0 rfl); rw [e4] at h4 ⊢; have HS4 := hid h4; clear h4 e4))
                go_roundw
                case rel => exact ⟨i + 1, va2, vc2, by push_cast; rfl, rfl, by have := HJ.out; omega, HR2.out, by have := HS4.out; exact this⟩
                case measure =>
                  have := HJ.out
                  simp [intOf]
                  omega
              · have t4 : decide (y ≤ yy) = true := decide_eq_true (by omega)
                have HF := hid (HBr.out hxy)
                clear hst hri hkey hkl htl hlt hi hp hi0 e5 hyy HBr HGr hxy
                go_wp2
                exact HF.out
          · obtain rfl : i = m1 := by omega
            have hjj : ¬ (i : Int) < (i : Int) := by omega
            have hall2 : (xs.map (keyM P)).take i = xs.map (keyM P) := List.take_of_length_le (by rw [List.length_map, ← HM1.out]; omega)
            rw [hall2] at hri hst
            have HF := hid (HYes.out _ _ _ (HKs.out hri) (St.one hst))
            clear hst hri hall2 hlt hi
            go_wp2
            exact HF.out
  · have HQ : Hid (∀ e w', e = .returned (.tuple #[.slice none 0 0, .int .i64 180]) → Kept (fun _ => False) w w' → ReadE zs base n w e w') := fun e w' h1 h2 => by
      unfold ReadE
      rw [if_neg (by rw [← hml]; exact h)]
      exact ⟨h1, h2⟩
    generalize ReadE zs base n w = Q at *
    have hr0 := (roomS_le n).1
    have hr1 := (roomS_le n).2
    unfold fitsS at h
    clear hml hX
    generalize roomS n = r at *
    by_cases a0 : 0 < r
    · have tz : (r == 0) = false := by simp; omega
      by_cases a1 : base < 0
      · have t1 : decide (base < 0) = true := decide_eq_true a1
        clear h a0
        go_enter Tryz.func18, Tryz.ntmps18
        go_wp2_with (go_at_call 12; refine (hQ _).mono ?_; rintro e w' ⟨rfl, rfl⟩)
        exact HQ.out _ _ rfl (Kept.refl _ _)
      · have t1 : decide (base < 0) = false := decide_eq_false a1
        by_cases a2 : (m : Int) < base
        · have t2 : decide ((m : Int) < base) = true := decide_eq_true a2
          clear h a0 a1
          go_enter Tryz.func18, Tryz.ntmps18
          go_wp2_with (go_at_call 12; refine (hQ _).mono ?_; rintro e w' ⟨rfl, rfl⟩)
          exact HQ.out _ _ rfl (Kept.refl _ _)
        · have t2 : decide ((m : Int) < base) = false := decide_eq_false a2
          have a3 : (m : Int) - base < r := by
            by_cases a3 : (m : Int) - base < r
            · exact a3
            · exfalso
              apply h
              simp only [Bool.and_eq_true, decide_eq_true_eq]
              omega
          have t3 : decide ((m : Int) - base < r) = true := decide_eq_true a3
          have b0 : 0 ≤ base := by omega
          have b1 : base ≤ (m : Int) := by omega
          clear h a0 a1 a2
          go_enter Tryz.func18, Tryz.ntmps18
          go_wp2_with (go_at_call 12; refine (hQ _).mono ?_; rintro e w' ⟨rfl, rfl⟩)
          exact HQ.out _ _ rfl (Kept.refl _ _)
    · have tz : (r == 0) = true := by simp; omega
      clear h a0
      go_enter Tryz.func18, Tryz.ntmps18
      go_wp2_with (go_at_call 12; refine (hQ _).mono ?_; rintro e w' ⟨rfl, rfl⟩)
      exact HQ.out _ _ rfl (Kept.refl _ _)
end Go.Proofs.YtdfefjalamohjaaGreatDoor
