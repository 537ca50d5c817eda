/- The law StartAll, step by step. -/
import Derived.Test.YtpjhljfcoejndaaAllRel
namespace Go.Proofs.Ytpjhljfcoejndaa
open Go.RowKit
set_option linter.unusedVariables false
set_option linter.unusedSimpArgs false
attribute [local go_sem ↓] Go.wp_at_zero Go.wp_at_succ

theorem get8 {bs : List Bg} (h : bs.length = 8) (i : Nat) (hi : i < 8) : ∃ b, bs[i]? = some b := ⟨_, List.getElem?_eq_getElem (by omega)⟩
theorem AllRel.len {w wr : World} {n : Nat} {A : Ad} {X : Nat} {ks : List Nat} {bs : List Bg} (h : AllRel w n A X ks bs wr) : bs.length = ks.length := by
  obtain ⟨z, v, kk, h1, _⟩ := h
  exact h1
theorem AllRel.same {w wr : World} {n : Nat} {A : Ad} {X : Nat} {ks : List Nat} {bs : List Bg} (h : AllRel w n A X ks bs wr) : Kept (fun _ => False) w wr := by
  obtain ⟨z, v, kk, h1, h2, h3, h4, h5⟩ := h
  exact h5.same
theorem AllRel.left_le {w wr : World} {n : Nat} {A : Ad} {X : Nat} {ks : List Nat} {bs : List Bg} (h : AllRel w n A X ks bs wr) {i : Nat} {b : Bg} (hb : bs[i]? = some b) : left n b ≤ 11 := by
  obtain ⟨z, v, kk, h1, h2, h3, h4, h5⟩ := h
  exact (h2.each i b hb).left_le h2.n8
theorem left_zero {n : Nat} {hs : List Hd} {i : Nat} {b : Bg} (h : BgOk n hs i b) (h0 : left n b = 0) : b.st = 3 := by
  obtain ⟨_, _, hw⟩ := h
  rcases hw with ⟨a, _⟩ | ⟨a, b0, _⟩ | ⟨a, _⟩ | ⟨a, _⟩ | ⟨a, _⟩
  · simp [left, a] at h0
  · rcases b0 with b0 | b0 <;> simp [left, a, b0] at h0
  · simp [left, a] at h0
  · exact a
  · exact a

theorem buildHd (a b c : Int) (W : World) : (Instr.build 42 #[(0, .int .i64 a), (1, .int .i64 2), (2, .int .i64 b), (3, .int .i64 c)]).run Try.prog W = .ok (.agg #[.int .i64 a, .int .i64 2, .int .i64 b, .int .i64 c, .bool false, .int .i64 0]) W := by kernel_rfl
theorem buildSl (a b c d : Int) (e : Bool) (f : Int) (W : World) : (Instr.build 46 #[(0, .agg #[.int .i64 a, .int .i64 b, .int .i64 c, .int .i64 d, .bool e, .int .i64 f])]).run Try.prog W = .ok (.agg #[.int .i64 a, .int .i64 b, .int .i64 c, .int .i64 d, .bool e, .int .i64 f, .int .u64 0, .int .u64 0]) W := by kernel_rfl
theorem guardSl (x y : Operand) (xs ys : Array Value) (w : World) : (eqGuard .neq 46 x y (.agg xs) (.agg ys)).run Try.prog w = .ok () w := by kernel_rfl
/-- Operations on whole slots and heads as one, that the walk need not open them. -/
def neSlOp (x y : Operand) (a b : Value) : Sem Next := do pure (.value (← (do eqGuard .neq 46 x y a b; binOp .neq 46 a b)))
theorem exec_neSl (ρ : Operand → Value) (dst : Option Tmp) (x y : Operand) (ty : TypeId) (pos : String) (after : Array Edge) (guard : Option (Nat × Bool)) :
    execOp ρ { dst, op := .binOp .neq 46 x y 46, type := ty, pos, after, guard } = neSlOp x y (ρ x) (ρ y) := rfl
set_option maxRecDepth 100000 in
theorem run_neSl (x y : Operand) (a b c e : Int) (f : Bool) (g u v : Int) (w : World) : (neSlOp x y (.agg #[.int .i64 a, .int .i64 b, .int .i64 c, .int .i64 e, .bool f, .int .i64 g, .int .u64 u, .int .u64 v]) (.agg #[.int .i64 a, .int .i64 b, .int .i64 c, .int .i64 e, .bool f, .int .i64 g, .int .u64 u, .int .u64 v])).run Try.prog w = .ok (.value (.bool false)) w := by
  simp only [neSlOp, Sem.run_bind, Sem.run_pure, guardSl, eqSlot, Result.andThen_ok]
def buildOp (t : TypeId) (ps : Array (Nat × Value)) : Sem Next := do pure (.value (← Instr.build t ps))
theorem exec_buildHd (ρ : Operand → Value) (dst : Option Tmp) (x c y z : Operand) (ty : TypeId) (pos : String) (after : Array Edge) (guard : Option (Nat × Bool)) :
    execOp ρ { dst, op := .build 42 #[(0, x), (1, c), (2, y), (3, z)], type := ty, pos, after, guard } = buildOp 42 #[(0, ρ x), (1, ρ c), (2, ρ y), (3, ρ z)] := by simp [execOp, buildOp]
theorem exec_buildSl (ρ : Operand → Value) (dst : Option Tmp) (x : Operand) (ty : TypeId) (pos : String) (after : Array Edge) (guard : Option (Nat × Bool)) :
    execOp ρ { dst, op := .build 46 #[(0, x)], type := ty, pos, after, guard } = buildOp 46 #[(0, ρ x)] := by simp [execOp, buildOp]
theorem run_buildHd (a b c : Int) (w : World) : (buildOp 42 #[(0, .int .i64 a), (1, .int .i64 2), (2, .int .i64 b), (3, .int .i64 c)]).run Try.prog w = .ok (.value (.agg #[.int .i64 a, .int .i64 2, .int .i64 b, .int .i64 c, .bool false, .int .i64 0])) w := by
  simp only [buildOp, Sem.run_bind, Sem.run_pure, buildHd, Result.andThen_ok]
theorem run_buildSl (a b c d : Int) (e : Bool) (f : Int) (w : World) : (buildOp 46 #[(0, .agg #[.int .i64 a, .int .i64 b, .int .i64 c, .int .i64 d, .bool e, .int .i64 f])]).run Try.prog w = .ok (.value (.agg #[.int .i64 a, .int .i64 b, .int .i64 c, .int .i64 d, .bool e, .int .i64 f, .int .u64 0, .int .u64 0])) w := by
  simp only [buildOp, Sem.run_bind, Sem.run_pure, buildSl, Result.andThen_ok]
attribute [local go_sem ↓] exec_neSl run_neSl exec_buildHd exec_buildSl run_buildHd run_buildSl

def boolA (tk : List Bool) : Array Value := (tk.map Value.bool).toArray
theorem boolA_at {tk : List Bool} {s : Nat} {b : Bool} (h : tk[s]? = some b) : (boolA tk)[s]? = some (.bool b) := by simp [boolA, h]
theorem boolA_set (tk : List Bool) (s : Nat) (b : Bool) : (boolA tk).setIfInBounds s (.bool b) = boolA (tk.set s b) := by simp [boolA, List.setIfInBounds_toArray, List.map_set]

set_option maxRecDepth 100000 in
set_option maxHeartbeats 8000000 in
theorem all_walk (size : Int) (la : Option Addr) (ll lc : Nat) (zs : List Int) (w : World) (hL : IntsIn w la ll zs) (hll : ll ≤ 17592186044416) :
    Calls Try.prog 5 #[.int .i64 size, .slice la ll lc] w fun e w' => e = .returned (.bool true) ∧ Kept (fun _ => False) w w' := by
  obtain ⟨n, hn, n1, n8⟩ : ∃ n : Nat, 1 + bits .and .i64 size 7 = (n : Int) ∧ 1 ≤ n ∧ n ≤ 8 := ⟨(1 + size % 8).toNat, by rw [and7]; omega, by omega, by omega⟩
  have HL : Hid (IntsIn w la ll zs) := hL
  have hll' : (ll : Int) ≤ 17592186044416 := by omega
  clear hL
  go_enter Try.func5, Try.ntmps5
  go_wp2_with fail
  refine (up_any _).mono ?_
  rintro e w1 ⟨rfl, k1⟩
  have h1 := (St.nil w).calm k1
  clear k1
  have hn' : (n : Int) ≤ 8 := by omega
  go_wp2_with (simp only [hn])
  refine (small_any n _).mono ?_
  rintro e w2 ⟨rfl, k2⟩
  have h2 := h1.calm k2
  clear k2 h1
  have hq : Calls Try.prog 7 #[.agg #[.int .i64 1, .int .i64 n, .int .i64 8, .int .i64 1, .int .i64 0, .int .i64 0]] w2 _ := spNew_st h2 (smallC n) (small_fits n n1 n8)
  clear h2
  go_wp2_with fail
  refine hq.mono ?_
  rintro e w3 ⟨A, rfl, h3⟩
  clear hq
  unfold spp
  have hR0 : AllRel w n A w3.heap.size [] [] (w3.alloc (.cells #[.pointer none, .pointer none, .pointer none, .pointer none, .pointer none, .pointer none, .pointer none, .pointer none] 71)) := ⟨SSt.zero (smallC n), .slice none 0 0, 0, rfl, AllInv.zero n1 n8, SSt.ok_zero _ (small_fits n n1 n8) 0, Nat.le_refl _, h3.box (arr8 []) 71⟩
  clear h3
  go_upto_region 7 with fail
  generalize w3.alloc (.cells #[.pointer none, .pointer none, .pointer none, .pointer none, .pointer none, .pointer none, .pointer none, .pointer none] 71) = w4 at *
  generalize w3.heap.size = X at *
  go_wp2_with fail
  go_loopw [10, 11, 12] (fun a _ _ wr => ∃ (ks : List Nat) (bs : List Bg), a = .int .i64 (ks.length : Nat) ∧ ks.length ≤ 8 ∧ AllRel w n A X ks bs wr) (fun a _ _ _ => 8 - (intOf a).toNat)
  case atStart => exact ⟨[], [], rfl, by simp, hR0⟩
  case round =>
    clear hR0
    obtain ⟨ks, bs, rfl, hk8, hR⟩ := hrel
    by_cases hlt : ks.length < 8
    · as_aux_lemma =>
        have hq := all_new hR hlt
        have HM : Hid (∀ k, (ks ++ [k]).length = ks.length + 1) := fun k => by simp
        have hk0 : (0 : Int) ≤ (ks.length : Int) := by omega
        have hk1 : (ks.length : Int) < 8 := by omega
        clear hR
        generalize hm : ks.length = m at *
        clear hm
        go_wp2_with fail
        refine hq.mono ?_
        rintro e w5 ⟨k, rfl, c0, f0, HS⟩
        clear hq
        go_wp2
        go_roundw
        case rel =>
          obtain ⟨bs', h'⟩ := HS.out
          exact ⟨ks ++ [k], bs', by rw [HM.out k]; go_num, by rw [HM.out k]; omega, h'⟩
        case measure => simp [intOf]; omega
    · have hks : ks.length = 8 := by omega
      have HKS : Hid (ks.length = 8) := hks
      have hlt1 : ¬ (ks.length : Int) < 8 := by omega
      rw [hks] at hlt1
      rw [hks]
      clear hks hk8 hlt
      go_wp2_with fail
      obtain ⟨y, hy⟩ : ∃ y, y = wr := ⟨_, rfl⟩
      subst hy
      go_loopw [13] (fun a wr => ∃ (j : Nat) (bs : List Bg), a = .int .i64 j ∧ j ≤ ll ∧ AllRel w n A X ks bs wr) (fun a _ => ll - (intOf a).toNat)
      case atStart => exact ⟨0, bs, rfl, Nat.zero_le _, hR⟩
      case round =>
        clear hR
        obtain ⟨j, bs, rfl, hj, hR⟩ := hrel
        by_cases hlt : j < ll
        · as_aux_lemma =>
            obtain ⟨g, o, hla, hc⟩ := HL.out.2 (by omega)
            subst hla
            have hcj := hR.same.cell (hc j hlt) (fun f => f)
            clear hc
            generalize zs.getD j 0 = x at hcj
            obtain ⟨m, hm, hm8⟩ : ∃ m : Nat, bits .and .i64 x 7 = (m : Int) ∧ m < 8 := ⟨(x % 8).toNat, by rw [and7]; omega, by omega⟩
            have hm0 : (0 : Int) ≤ (m : Int) := by omega
            have hm9 : (m : Int) < 8 := by omega
            have hj0 : (0 : Int) ≤ (j : Int) := by omega
            have hj1 : (j : Int) < (ll : Int) := by omega
            have hp := all_ptr hR m (by rw [HKS.out]; exact hm8)
            obtain ⟨b, hb⟩ := get8 (hR.len.trans HKS.out) m hm8
            have hq := all_step hR HKS.out m hm8 hb
            generalize ks.getD m 0 = K at *
            clear hR
            go_wp2_with fail
            refine hq.mono ?_
            rintro e w6 ⟨b', rfl, h6, -⟩
            have HS : Hid (AllRel w n A X ks (bs.set m b') w6) := h6
            clear hq h6 hcj hp hb
            go_wp2
            go_roundw
            case rel => exact ⟨j + 1, _, by go_num, by omega, HS.out⟩
            case measure => simp [intOf]; omega
        · have hj1 : ¬ (j : Int) < (ll : Int) := by omega
          go_wp2_with fail
          clear HL hj hlt hj1
          obtain ⟨y, hy⟩ : ∃ y, y = wr := ⟨_, rfl⟩
          subst hy
          go_loopw [14, 15] (fun a _ wr => ∃ (i : Nat) (bs : List Bg), a = .int .i64 i ∧ i ≤ 8 ∧ AllRel w n A X ks bs wr ∧ ∀ (q : Nat) (b : Bg), q < i → bs[q]? = some b → b.st = 3) (fun a _ _ => 8 - (intOf a).toNat)
          case atStart => exact ⟨0, bs, rfl, by omega, hR, fun q b hq => by omega⟩
          case round =>
            clear hR
            obtain ⟨i, bs, rfl, hi, hR, h3⟩ := hrel
            have H3 : Hid (∀ (q : Nat) (b : Bg), q < i → bs[q]? = some b → b.st = 3) := h3
            clear h3
            have hi0 : (0 : Int) ≤ (i : Int) := by omega
            by_cases hlt : i < 8
            · have hi1 : (i : Int) < 8 := by omega
              go_wp2_with fail
              obtain ⟨y, hy⟩ : ∃ y, y = wr := ⟨_, rfl⟩
              subst hy
              obtain ⟨b0, hb0⟩ := get8 (hR.len.trans HKS.out) i hlt
              go_loopw [15] (fun a wr => ∃ (k : Nat) (bs : List Bg) (b : Bg), a = .int .i64 k ∧ k + left n b ≤ 11 ∧ bs[i]? = some b ∧ AllRel w n A X ks bs wr ∧ ∀ (q : Nat) (b : Bg), q < i → bs[q]? = some b → b.st = 3) (fun a _ => 20 - (intOf a).toNat)
              case atStart => exact ⟨0, bs, b0, rfl, by have := hR.left_le hb0; omega, hb0, hR, H3.out⟩
              case round =>
                clear hR H3 hb0
                obtain ⟨k, bs, b, rfl, hk, hb, hR, h3⟩ := hrel
                have H3 : Hid (∀ (q : Nat) (b : Bg), q < i → bs[q]? = some b → b.st = 3) := h3
                clear h3
                have hk0 : (0 : Int) ≤ (k : Int) := by omega
                have hk1 : (k : Int) < 20 := by omega
                have hp := all_ptr hR i (by rw [HKS.out]; exact hlt)
                have hd := all_done hR i (by rw [HKS.out]; exact hlt) hb
                by_cases hst : b.st = 3
                · as_aux_lemma =>
                    rw [show (b.st == 3) = true from by simpa using hst] at hd
                    have HS : Hid (AllRel w n A X ks bs wr ∧ ∀ (q : Nat) (b : Bg), q < i + 1 → bs[q]? = some b → b.st = 3) := by
                      refine ⟨hR, fun q c hq hc => ?_⟩
                      by_cases hqi : q = i
                      · subst hqi
                        rw [hb] at hc
                        obtain rfl : b = c := by simpa using hc
                        exact hst
                      · exact H3.out q c (by omega) hc
                    generalize ks.getD i 0 = K at *
                    clear hR H3 hst hb
                    go_wp2_with (go_at_call 12; refine hd.mono ?_; rintro e wq ⟨rfl, rfl⟩)
                    go_roundw
                    case rel => exact ⟨i + 1, bs, by go_num, by omega, HS.out.1, HS.out.2⟩
                    case measure => simp [intOf]; omega
                · as_aux_lemma =>
                    rw [show (b.st == 3) = false from by simpa using hst] at hd
                    have hq : Calls Try.prog 16 #[.pointer (some ⟨ks.getD i 0, 0, none⟩)] wr fun e w' => ∃ r, e = .returned (.int .i64 r) ∧ Hid (∃ b' : Bg, k + 1 + left n b' ≤ 11 ∧ (bs.set i b')[i]? = some b' ∧ AllRel w n A X ks (bs.set i b') w' ∧ ∀ (q : Nat) (c : Bg), q < i → (bs.set i b')[q]? = some c → c.st = 3) := by
                      refine (all_step hR HKS.out i hlt hb).mono ?_
                      rintro e w' ⟨b', he, h', hl⟩
                      refine ⟨_, he, b', by have := hl hst; omega, set_at_self hb, h', fun q c hq hc => ?_⟩
                      rcases set_cases hc with ⟨h1, _⟩ | ⟨_, h2⟩
                      · omega
                      · exact H3.out q c hq h2
                    generalize ks.getD i 0 = K at *
                    clear hR H3 hst hb
                    go_wp2_with (go_at_call 12; refine hd.mono ?_; rintro e wq ⟨rfl, rfl⟩)
                    refine hq.mono ?_
                    rintro e w6 ⟨r, rfl, HS⟩
                    clear hq hd hp
                    go_wp2
                    go_roundw
                    case rel =>
                      obtain ⟨b', x1, x2, x3, x4⟩ := HS.out
                      exact ⟨k + 1, _, b', by go_num, x1, x2, x3, x4⟩
                    case measure => simp [intOf]; omega
            · have hi1 : ¬ (i : Int) < 8 := by omega
              obtain rfl : i = 8 := by omega
              obtain ⟨z, v, kk, l1, inv, ok, hkk, hS⟩ := hR
              have l8 : bs.length = 8 := l1.trans HKS.out
              have h3 : ∀ (q : Nat) (b : Bg), bs[q]? = some b → b.st = 3 := fun q b hb => H3.out q b (by have := (List.getElem?_eq_some_iff.1 hb).1; omega) hb
              clear H3 hi hi0 hlt
              have h4 := hS.box #[.bool false, .bool false, .bool false, .bool false, .bool false, .bool false, .bool false, .bool false] 38
              clear hS
              go_upto_region 27 with fail
              generalize wr.alloc (.cells #[.bool false, .bool false, .bool false, .bool false, .bool false, .bool false, .bool false, .bool false] 38) = w5 at *
              generalize wr.heap.size = T at *
              have hq := spView h4 2 rfl ok.wl ok.h1 ok.h8
              unfold spp at hq
              clear h4
              go_wp2_with fail
              refine hq.mono ?_
              rintro e w6 ⟨va, vs, rfl, h6⟩
              clear hq
              have hhn := inv.hn
              rw [hhn] at h6
              obtain ⟨pa, ca, rfl⟩ := own_form (h6.get 0 rfl)
              obtain ⟨ps, cs, rfl⟩ := h6.form 1 rfl (by omega)
              have h7 := h6.box #[.slice pa z.xs.length ca, .int .i64 z.x.n, .int .i64 z.x.o, .slice (some ⟨ps, 0, none⟩) n cs] 76
              have HI : Hid (AllInv n bs z) := inv
              clear h6 inv hhn ok hkk l1
              have H3 : Hid (∀ (q : Nat) (b : Bg), bs[q]? = some b → b.st = 3) := h3
              clear h3
              have HL8 : Hid (bs.length = 8) := l8
              clear l8
              go_upto_region 28 with fail
              generalize w6.alloc (.cells #[.slice pa z.xs.length ca, .int .i64 z.x.n, .int .i64 z.x.o, .slice (some ⟨ps, 0, none⟩) n cs] 76) = w7 at *
              generalize w6.heap.size = V at *
              have v3 : w7.cell? ⟨V, 3, none⟩ = some (.slice (some ⟨ps, 0, none⟩) n cs) := h7.cell 0 rfl 3
              have hnn : ((n : Int) != (n : Int)) = false := by simp
              have n0 : (0 : Int) ≤ (n : Int) := by omega
              go_wp2_with fail
              obtain ⟨y, hy⟩ : ∃ y, y = w7 := ⟨_, rfl⟩
              subst hy
              go_loopw [16, 19, 20, 21, 22] (fun a b _ _ _ wr => ∃ (g i : Nat) (tk : List Bool), a = .int .i64 g ∧ b = .int .i64 i ∧ i ≤ 8 ∧ g ≤ 8 ∧ Fin8 bs i g tk ∧ St w (boxI V #[.slice pa z.xs.length ca, .int .i64 z.x.n, .int .i64 z.x.o, .slice (some ⟨ps, 0, none⟩) n cs] 76 :: ownI 2 1 (.slice pa z.xs.length ca) z.xs.length (clCells z.xs) :: ownI 46 8 (.slice (some ⟨ps, 0, none⟩) n cs) n (slCells (slots z.hs z.ws)) :: boxI T (boolA tk) 38 :: boxI X (arr8 ks) 71 :: spI A (smallC n) z v (.slice none 0 0) :: bgsL A.t ks bs) wr) (fun _ b _ _ _ _ => 8 - (intOf b).toNat)
              case atStart => exact ⟨0, 0, List.replicate 8 false, rfl, rfl, by omega, by omega, ⟨rfl, rfl, fun q hq => by rw [List.getElem?_replicate] at hq; split at hq <;> simp at hq, fun j b q hj => by omega, .inr rfl⟩, h7⟩
              case round =>
                clear h7 v3
                obtain ⟨g, i, tk, rfl, rfl, hi, hg, hf, hS⟩ := hrel
                have HF : Hid (Fin8 bs i g tk) := hf
                clear hf
                have hi0 : (0 : Int) ≤ (i : Int) := by omega
                have hg0 : (0 : Int) ≤ (g : Int) := by omega
                have hg8 : (g : Int) ≤ 8 := by omega
                by_cases hlt : i < 8
                · have hi1 : (i : Int) < 8 := by omega
                  obtain ⟨b, hb⟩ := get8 HL8.out i hlt
                  have hj : (boxI V #[.slice pa z.xs.length ca, .int .i64 z.x.n, .int .i64 z.x.o, .slice (some ⟨ps, 0, none⟩) n cs] 76 :: ownI 2 1 (.slice pa z.xs.length ca) z.xs.length (clCells z.xs) :: ownI 46 8 (.slice (some ⟨ps, 0, none⟩) n cs) n (slCells (slots z.hs z.ws)) :: boxI T (boolA tk) 38 :: boxI X (arr8 ks) 71 :: spI A (smallC n) z v (.slice none 0 0) :: bgsL A.t ks bs)[i + 6]? = some (bgI (ks.getD i 0) A.t b) := bgsL_at A.t ks bs i (by rw [HKS.out]; exact hlt) hb
                  have hp : wr.cell? ⟨X, i, none⟩ = some (.pointer (some ⟨ks.getD i 0, 0, none⟩)) := (hS.cell 4 rfl i).trans (arr8_at ks i (by rw [HKS.out]; exact hlt))
                  have hq := bgSlot hS (i + 6) hj
                  have hd : ∀ q, Calls Try.prog 12 #[.pointer (some ⟨ks.getD i 0, 0, none⟩)] (wr.drewN q) fun e w' => e = .returned (.bool true) ∧ w' = wr.drewN q := by
                    intro q
                    have := bgDone (hS.calm ((Kept.refl _ wr).drewN q)) (i + 6) hj
                    rw [show (b.st == 3) = true from by simpa using H3.out i b hb] at this
                    exact this
                  have hp' : ∀ q, (wr.drewN q).cell? ⟨X, i, none⟩ = some (.pointer (some ⟨ks.getD i 0, 0, none⟩)) := fun q => hp
                  generalize ks.getD i 0 = K at hp hq hd hp'
                  clear hj
                  rcases all_end HI.out hb (H3.out i b hb) with ⟨e6, f6⟩ | ⟨e0, f0, s, hs, fa, fb, hsn, hh⟩
                  · as_aux_lemma =>
                      rw [f6] at hq
                      have HE : Hid (Fin8 bs (i + 1) g tk) := HF.out.miss hb e6
                      generalize b.slotA = x1 at hq
                      generalize b.slotB = x2 at hq
                      clear hb e6 f6
                      go_wp2_with fail
                      refine hq.mono ?_
                      rintro e w8 ⟨rfl, q, rfl⟩
                      have HS : Hid (St w _ _) := hS.calm ((Kept.refl _ wr).drewN q)
                      have hd1 := hd q
                      have hp1 := hp' q
                      clear hS hd hq hp hp'
                      generalize wr.drewN q = w8 at *
                      go_wp2_with (go_at_call 12; refine hd1.mono ?_; rintro e wq ⟨rfl, rfl⟩)
                      go_roundw
                      case rel => exact ⟨g, i + 1, tk, rfl, by go_num, by omega, by omega, HE.out, HS.out⟩
                      case measure => simp [intOf]; omega
                  · as_aux_lemma =>
                      rw [f0, fa, fb] at hq
                      have hfalse := fin_new HI.out H3.out HF.out hb hs e0 n8
                      have HE : Hid (Fin8 bs (i + 1) (g + 1) (tk.set s true)) := HF.out.hit hb hs e0 hfalse
                      clear hb e0 f0 fa fb hs HF
                      have s0 : (0 : Int) ≤ (s : Int) := by omega
                      have s1 : (s : Int) < (n : Int) := by omega
                      have s8 : (s : Int) < 8 := by omega
                      have s3 : ¬ (s : Int) < 0 := by omega
                      have s4 : ¬ (n : Int) ≤ (s : Int) := by omega
                      go_wp2_with fail
                      refine hq.mono ?_
                      rintro e w8 ⟨rfl, q, rfl⟩
                      have h8 := hS.calm ((Kept.refl _ wr).drewN q)
                      have hd1 := hd q
                      have hp1 := hp' q
                      clear hS hd hq hp hp'
                      generalize wr.drewN q = w8 at *
                      have HN : z.hs.length = n := HI.out.hn
                      have hwl : z.ws.length = z.hs.length * 2 := by rw [HI.out.ws, HN]; simp
                      have hsl : s < z.hs.length := by omega
                      have hat := slots_at z.hs z.ws hwl s hsl
                      have hx : z.hs[s] = ⟨1, 2, 10 + i, i + 1, false, 0⟩ := by
                        rw [List.getElem?_eq_getElem hsl] at hh
                        simpa using hh
                      rw [hx, HI.out.ws] at hat
                      have hz0 : (List.replicate (n * 2) (0 : Int)).getD (s * 2) 0 = 0 := by simp [List.getElem?_replicate]; split <;> simp
                      have hz1 : (List.replicate (n * 2) (0 : Int)).getD (s * 2 + 1) 0 = 0 := by simp [List.getElem?_replicate]; split <;> simp
                      rw [hz0, hz1] at hat
                      have hsl2 : s < (slots z.hs (List.replicate (n * 2) 0)).length := (List.getElem?_eq_some_iff.1 hat).1
                      have hc := slCells_at (slots z.hs (List.replicate (n * 2) 0)) s hsl2
                      rw [List.getElem?_eq_getElem hsl2] at hat
                      simp only [Option.some.injEq] at hat
                      rw [hat, ← HI.out.ws] at hc
                      obtain ⟨l0, l1, l2, l3, l4, l5, l6, l7⟩ := hc
                      have a0 := (h8.ownCell 2 rfl (s * 8) (by omega)).trans l0
                      have a1 := (h8.ownCell 2 rfl (s * 8 + 1) (by omega)).trans l1
                      have a2 := (h8.ownCell 2 rfl (s * 8 + 2) (by omega)).trans l2
                      have a3 := (h8.ownCell 2 rfl (s * 8 + 3) (by omega)).trans l3
                      have a4 := (h8.ownCell 2 rfl (s * 8 + 4) (by omega)).trans l4
                      have a5 := (h8.ownCell 2 rfl (s * 8 + 5) (by omega)).trans l5
                      have a6 := (h8.ownCell 2 rfl (s * 8 + 6) (by omega)).trans l6
                      have a7 := (h8.ownCell 2 rfl (s * 8 + 7) (by omega)).trans l7
                      simp only [mkSl] at a0 a1 a2 a3 a4 a5 a6 a7
                      have v3 : w8.cell? ⟨V, 3, none⟩ = some (.slice (some ⟨ps, 0, none⟩) n cs) := h8.cell 0 rfl 3
                      have t0 : w8.cell? ⟨T, s, none⟩ = some (.bool false) := (h8.cell 3 rfl s).trans (boolA_at hfalse)
                      have t1 : w8.frozen? ⟨T, s, none⟩ = false := h8.frozen 3 rfl s
                      have HS : Hid (St w (boxI V #[.slice pa z.xs.length ca, .int .i64 z.x.n, .int .i64 z.x.o, .slice (some ⟨ps, 0, none⟩) n cs] 76 :: ownI 2 1 (.slice pa z.xs.length ca) z.xs.length (clCells z.xs) :: ownI 46 8 (.slice (some ⟨ps, 0, none⟩) n cs) n (slCells (slots z.hs z.ws)) :: boxI T (boolA (tk.set s true)) 38 :: boxI X (arr8 ks) 71 :: spI A (smallC n) z v (.slice none 0 0) :: bgsL A.t ks bs) (w8.setCell ⟨T, s, none⟩ (.bool true))) := by
                        have := h8.write 3 rfl s (.bool true)
                        rw [boolA_set] at this
                        exact this
                      clear h8 HN hwl hat hx hz0 hz1 hsl2 l0 l1 l2 l3 l4 l5 l6 l7 hfalse hh hsl
                      go_wp2_with (go_at_call 12; refine hd1.mono ?_; rintro e wq ⟨rfl, rfl⟩)
                      go_roundw
                      case rel => exact ⟨g + 1, i + 1, _, by go_num, by go_num, by omega, by have := HE.out; have := HE.out.got; have := HE.out.len; have := count_le (tk.set s true) 8 (fun q hq hx => by have := (List.getElem?_eq_some_iff.1 hx).1; omega); omega, HE.out, HS.out⟩
                      case measure => simp [intOf]; omega
                · have hi1 : ¬ (i : Int) < 8 := by omega
                  obtain rfl : i = 8 := by omega
                  have hgn : g = n := Fin8.all HI.out HL8.out H3.out HF.out
                  subst hgn
                  have HK : Hid (Kept (fun _ => False) w wr) := hS.same
                  clear hS HF HI H3
                  have hee : ((g : Int) == (g : Int)) = true := by simp
                  go_wp2
                  go_ret
                  exact ⟨rfl, HK.out⟩
end Go.Proofs.Ytpjhljfcoejndaa
