/- The law StartFinds, step by step. -/
import Derived.Test.YtpjhljfcoejndaaFinds
import Derived.Test.YtpjhljfcoejndaaAllWalk
import Derived.Test.YtpjhljfcoejndaaOps
namespace Go.Proofs.Ytpjhljfcoejndaa
open Go.RowKit
set_option linter.unusedVariables false
set_option linter.unusedSimpArgs false
attribute [local go_sem ↓] Go.wp_at_zero Go.wp_at_succ

def SSt.look (z : SSt) (i : Int) : SSt := ⟨lookS z.s z.hs i, z.xs, z.x, z.hs, z.ws, z.ev⟩
theorem spLook {o w : World} {its : List It} {A : Ad} {c : Cfg} {z : SSt} {v u : Value} (h : St o its w) (i : Nat) (hi : its[i]? = some (spI A c z v u)) {n : Nat} (ok : z.ok c n) (hn : n ≤ 4611686018427) (j : Int) : Calls Try.prog 18 #[.pointer (some ⟨A.t, 0, none⟩), .int .i64 j] w fun e w' => e = .returned (.tuple #[(nowAt z.hs j).val, .int .i64 (lookE z.hs j)]) ∧ ∃ v', St o (its.set i (spI A c (z.look j) v' u)) w' := by
  refine (tabLook_st (h.open i hi) 7 3 5 spAt7 spAt3 spAt5 (by omega) ok.met hn j).mono ?_
  rintro e w' ⟨he, v', h'⟩
  exact ⟨he, v', St.shut (l := spL A c (z.look j) v' u) hi h'⟩
theorem SSt.ok.look {z : SSt} {c : Cfg} {k : Nat} (h : z.ok c k) (i : Int) : (z.look i).ok c (k + 1) :=
  let g := h.more (Nat.le_succ k); ⟨lookS_within h.met _ _, g.hd, g.g0, g.g1, g.gk, g.wl, g.el, g.cl, g.hl, g.c1, g.c2, g.h1, g.h8⟩

theorem buildB8 (W : World) : (Instr.build 38 #[(0, .bool true), (1, .bool true), (2, .bool true), (3, .bool true), (4, .bool true), (5, .bool true), (6, .bool true), (7, .bool true)]).run Try.prog W = .ok (.agg #[.bool true, .bool true, .bool true, .bool true, .bool true, .bool true, .bool true, .bool true]) W := by kernel_rfl
theorem guardHd (x y : Operand) (xs ys : Array Value) (w : World) : (eqGuard .eql 42 x y (.agg xs) (.agg ys)).run Try.prog w = .ok () w := by kernel_rfl
def eqHdOp (x y : Operand) (a b : Value) : Sem Next := do pure (.value (← (do eqGuard .eql 42 x y a b; binOp .eql 42 a b)))
theorem exec_eqHd (ρ : Operand → Value) (dst : Option Tmp) (x y : Operand) (ty : TypeId) (pos : String) (after : Array Edge) (guard : Option (Nat × Bool)) :
    execOp ρ { dst, op := .binOp .eql 42 x y 42, type := ty, pos, after, guard } = eqHdOp x y (ρ x) (ρ y) := rfl
set_option maxRecDepth 100000 in
theorem eqHdB (a b c e : Int) (f : Bool) (g : Int) (w : World) : (binOp .eql 42 (.agg #[.int .i64 a, .int .i64 b, .int .i64 c, .int .i64 e, .bool f, .int .i64 g]) (.agg #[.int .i64 a, .int .i64 b, .int .i64 c, .int .i64 e, .bool f, .int .i64 g])).run Try.prog w = .ok (.bool true) w := by
  rw [run_eql_struct]
  have h0 := eqHead 9998 a b c e f g w
  rw [show (9998 + 2 : Nat) = 10000 from rfl] at h0
  rw [h0]
  rfl
set_option maxRecDepth 100000 in
theorem run_eqHd (x y : Operand) (a b c e : Int) (f : Bool) (g : Int) (w : World) : (eqHdOp x y (.agg #[.int .i64 a, .int .i64 b, .int .i64 c, .int .i64 e, .bool f, .int .i64 g]) (.agg #[.int .i64 a, .int .i64 b, .int .i64 c, .int .i64 e, .bool f, .int .i64 g])).run Try.prog w = .ok (.value (.bool true)) w := by
  simp only [eqHdOp, Sem.run_bind, Sem.run_pure, guardHd, eqHdB, Result.andThen_ok]
attribute [local go_sem ↓] exec_eqHd run_eqHd exec_buildHd run_buildHd

/-- What a list of slots tells of a head. -/
theorem now_cells {o w : World} {its : List It} {g n cap : Nat} {hs : List Hd} {ws : List Int} (h : St o its w) (i : Nat) (hi : its[i]? = some (ownI 46 8 (.slice (some ⟨g, 0, none⟩) n cap) n (slCells (slots hs ws)))) (hn : hs.length = n) (hw : ws.length = hs.length * 2) (j : Nat) (x : Hd) (hx : hs[j]? = some x) :
    w.cell? ⟨g, j * 8, none⟩ = some (.int .i64 x.gn) ∧ w.cell? ⟨g, j * 8 + 1, none⟩ = some (.int .i64 x.sa) ∧ w.cell? ⟨g, j * 8 + 2, none⟩ = some (.int .i64 x.sp) ∧ w.cell? ⟨g, j * 8 + 3, none⟩ = some (.int .i64 x.th) ∧ w.cell? ⟨g, j * 8 + 4, none⟩ = some (.bool x.dm) ∧ w.cell? ⟨g, j * 8 + 5, none⟩ = some (.int .i64 x.wy) := by
  obtain ⟨hj, hxe⟩ := List.getElem?_eq_some_iff.1 hx
  have hat := slots_at hs ws hw j hj
  have hl : j < (slots hs ws).length := (List.getElem?_eq_some_iff.1 hat).1
  have hc := slCells_at (slots hs ws) j hl
  rw [List.getElem?_eq_getElem hl] at hat
  simp only [Option.some.injEq] at hat
  rw [hat, hxe] at hc
  obtain ⟨l0, l1, l2, l3, l4, l5, -, -⟩ := hc
  exact ⟨(h.ownCell i hi (j * 8) (by omega)).trans l0, (h.ownCell i hi (j * 8 + 1) (by omega)).trans l1, (h.ownCell i hi (j * 8 + 2) (by omega)).trans l2, (h.ownCell i hi (j * 8 + 3) (by omega)).trans l3, (h.ownCell i hi (j * 8 + 4) (by omega)).trans l4, (h.ownCell i hi (j * 8 + 5) (by omega)).trans l5⟩
/-- Those that were looked at so far. -/
def mix (al : List Bool) (hs : List Hd) (j : Nat) : List Bool := (alNow al hs).take j ++ al.drop j
theorem mix_zero (al : List Bool) (hs : List Hd) : mix al hs 0 = al := by simp [mix]
theorem mix_all {al : List Bool} {hs : List Hd} {n : Nat} (h : hs.length = n) : mix al hs n = alNow al hs := by
  refine List.ext_getElem? fun i => ?_
  unfold mix
  have hl := alNow_length al hs
  by_cases hi : i < n
  · by_cases h2 : i < al.length
    · rw [List.getElem?_append_left (by simp; omega), List.getElem?_take, if_pos hi]
    · rw [List.getElem?_eq_none (by simp; omega), List.getElem?_eq_none (by omega)]
  · rw [alNow_at, List.getElem?_eq_none (l := hs) (by omega)]
    by_cases h2 : n ≤ al.length
    · rw [List.getElem?_append_right (by simp; omega), List.getElem?_drop]
      simp only [List.length_take, hl, Nat.min_eq_left h2]
      rw [show n + (i - n) = i by omega]
      cases al[i]? <;> simp
    · rw [List.getElem?_eq_none (by simp; omega), List.getElem?_eq_none (l := al) (by omega)]
      rfl
theorem mix_at {al : List Bool} {hs : List Hd} {j : Nat} (h : j < al.length) : (mix al hs j)[j]? = al[j]? := by
  unfold mix
  have hl := alNow_length al hs
  rw [List.getElem?_append_right (by simp; omega), List.getElem?_drop]
  simp only [List.length_take, hl]
  congr 1
  omega
theorem mix_next {al : List Bool} {hs : List Hd} {j : Nat} {a : Bool} {x : Hd} (ha : al[j]? = some a) (hx : hs[j]? = some x) : (mix al hs j).set j (a && (x.sa == 0)) = mix al hs (j + 1) := by
  have hl := alNow_length al hs
  have hj := (List.getElem?_eq_some_iff.1 ha).1
  refine List.ext_getElem? fun i => ?_
  have hb : (alNow al hs)[j]? = some (a && (x.sa == 0)) := by
    rw [alNow_at, ha, hx]; rfl
  have hm : (mix al hs j).length = al.length := by simp [mix]; omega
  rw [List.getElem?_set, hm]
  unfold mix
  by_cases hi : j = i
  · subst hi
    rw [if_pos rfl, if_pos hj, List.getElem?_append_left (by simp; omega), List.getElem?_take, if_pos (by omega), hb]
  · rw [if_neg hi]
    by_cases h2 : i < j
    · rw [List.getElem?_append_left (by simp; omega), List.getElem?_append_left (by simp; omega), List.getElem?_take, List.getElem?_take, if_pos h2, if_pos (by omega)]
    · rw [List.getElem?_append_right (by simp; omega), List.getElem?_append_right (by simp; omega), List.getElem?_drop, List.getElem?_drop]
      simp only [List.length_take, hl]
      congr 1
      omega
theorem alNow_hal {al : List Bool} {hs : List Hd} {t : Nat} (h : t < al.length) (x : Hd) (hx : hs[t]? = some x) (h0 : x.sa ≠ 0) : (alNow al hs)[t]? = some false := by
  rw [alNow_at, List.getElem?_eq_getElem h, hx]
  simp [h0]
theorem FInv.left3 {n : Nat} {k : Int} {steps tried : Nat} {own : Int} {al : List Bool} {b : Bg} {z : SSt} (h : FInv n k steps tried own al b z) (h0 : left n b = 0) : b.st = 3 := by
  have n8 := h.n8
  rcases h.ways with ⟨a, _, _, _, c, d, _⟩ | ⟨a, _⟩ | ⟨a, _, _, _, _, _, c⟩ | ⟨a, _⟩ | ⟨a, _⟩
  · simp [left, a] at h0
  · exact a
  · rcases c with ⟨c, _⟩ | ⟨c, _⟩ <;> simp [left, a, c] at h0
  · simp [left, a] at h0
  · exact a

/-- What stands between two rounds of the law. -/
def FRel (w : World) (n : Nat) (k : Int) (A : Ad) (X K : Nat) (steps tried : Nat) (own : Int) (al : List Bool) (b : Bg) (m : Nat) (wr : World) : Prop :=
  ∃ z v, FInv n k steps tried own al b z ∧ z.ok (smallC n) m ∧ St w [boxI X (boolA al) 38, bgI K A.t b, spI A (smallC n) z v (.slice none 0 0)] wr

set_option maxRecDepth 100000 in
set_option maxHeartbeats 8000000 in
theorem finds_walk (size stamp : Int) (sa : Option Addr) (sl sc : Nat) (f : Nat → OpD) (w : World) (hS : ScriptAt w sa sl f) (hsl : sl * 40 ≤ 140737488351232) :
    Calls Try.prog 3 #[.int .i64 size, .int .i64 stamp, .slice sa sl sc] w fun e w' => e = .returned (.bool true) ∧ Kept (fun _ => False) w w' := by
  obtain ⟨n, hn, n1, n8⟩ : ∃ n : Nat, 1 + bits .and .i64 size 7 = (n : Int) ∧ 1 ≤ n ∧ n ≤ 8 := ⟨(1 + size % 8).toNat, by rw [and7]; omega, by omega, by omega⟩
  obtain ⟨k, hk, k1, k8⟩ : ∃ k : Int, 1 + bits .and .i64 stamp 1048575 = k ∧ 1 ≤ k ∧ k ≤ 1048576 := ⟨1 + stamp % 1048576, by rw [and20], by omega, by omega⟩
  have HSC : Hid (ScriptAt w sa sl f) := hS
  have hsl' : (sl : Int) ≤ 3518437208780 := by omega
  clear hS
  go_enter Try.func3, Try.ntmps3
  go_wp2_with fail
  refine (up_any _).mono ?_
  rintro e w1 ⟨rfl, h⟩
  have h1 := (St.nil w).calm h
  clear h
  have hn' : (n : Int) ≤ 8 := by omega
  go_wp2_with (first | simp only [hn] | simp only [hk])
  refine (small_any n _).mono ?_
  rintro e w2 ⟨rfl, h⟩
  have h2 := h1.calm h
  clear h h1
  have hq : Calls Try.prog 7 #[.agg #[.int .i64 1, .int .i64 n, .int .i64 8, .int .i64 1, .int .i64 0, .int .i64 0]] w2 _ := spNew_st h2 (smallC n) (small_fits n n1 n8)
  clear h2
  go_wp2_with fail
  refine hq.mono ?_
  rintro e w3 ⟨A, rfl, h3⟩
  clear hq
  have hs := spSlots h3 0 rfl
  have hq := bgNew_st h3 0 rfl 1 k ⟨by omega, by omega, k1⟩
  unfold spp at *
  clear h3
  go_wp2_with (go_at_call 9; refine hs.mono ?_; rintro e wq ⟨rfl, rfl⟩)
  refine hq.mono ?_
  rintro e w4 ⟨K, rfl, h4⟩
  have hs := spSlots h4 1 rfl
  unfold spp at hs
  clear hq
  have H4 : Hid (∃ z v, z.hs = List.replicate n Hd.zero ∧ z.ok (smallC n) (2 * 0) ∧ St w [bgI K A.t (Bg.new 1 k), spI A (smallC n) z v (.slice none 0 0)] w4) := ⟨SSt.zero (smallC n), _, by simp [SSt.zero, smallC], SSt.ok_zero _ (small_fits n n1 n8) 0, h4⟩
  clear h4
  go_wp2_with (go_at_call 9; refine hs.mono ?_; rintro e wq ⟨rfl, rfl⟩)
  clear hs
  go_loopw [15] (fun a wr => ∃ i : Nat, a = .int .i64 i ∧ i ≤ n ∧ Hid (∃ z v, z.hs = List.replicate n Hd.zero ∧ z.ok (smallC n) (2 * i) ∧ St w [bgI K A.t (Bg.new 1 k), spI A (smallC n) z v (.slice none 0 0)] wr)) (fun a _ => n - (intOf a).toNat)
  case atStart => exact ⟨0, rfl, Nat.zero_le _, H4⟩
  case round =>
    clear H4
    obtain ⟨i, rfl, hi, HZ⟩ := hrel
    by_cases hlt : i < n
    · as_aux_lemma =>
        obtain ⟨z, v, zh, ok, hSt⟩ := HZ.out
        have hi0 : (0 : Int) ≤ (i : Int) := by omega
        have hi1 : (i : Int) < (n : Int) := by omega
        have hp := spPut hSt 1 rfl ok (by omega) i 0 7
        clear HZ hSt
        go_wp2_with fail
        refine hp.mono ?_
        rintro e w5 ⟨rfl, v', h5⟩
        have hp2 := spPut h5 1 rfl (ok.put i 0 7) (by omega) i 1 9
        clear hp h5
        go_wp2_with fail
        refine hp2.mono ?_
        rintro e w6 ⟨rfl, v'', h6⟩
        have H6 : Hid (∃ z v, z.hs = List.replicate n Hd.zero ∧ z.ok (smallC n) (2 * (i + 1)) ∧ St w [bgI K A.t (Bg.new 1 k), spI A (smallC n) z v (.slice none 0 0)] w6) := ⟨(z.put i 0 7).put i 1 9, v'', zh, (ok.put i 0 7).put i 1 9, h6⟩
        clear hp2 h6 ok
        go_wp2
        go_roundw
        case rel => exact ⟨i + 1, by go_num, by omega, H6⟩
        case measure => simp [intOf]; omega
    · obtain rfl : i = n := by omega
      have hi1 : ¬ (i : Int) < (i : Int) := by omega
      have hb8 := buildB8
      obtain ⟨y, hy⟩ : ∃ y, y = wr := ⟨_, rfl⟩
      subst hy
      obtain ⟨z, v, zh, ok, hSt⟩ := HZ.out
      have H5 : Hid (FRel w i k A y.heap.size K 0 0 (-1) (List.replicate 8 true) (Bg.new 1 k) (2 * i + 0) (y.alloc (.cells #[.bool true, .bool true, .bool true, .bool true, .bool true, .bool true, .bool true, .bool true] 38))) := by
        refine ⟨z, v, ⟨n8, by simp [zh], by rw [ok.wl, zh]; simp, by simp, rfl, rfl, k1, .inl ⟨rfl, rfl, rfl, rfl, rfl, by omega, rfl, fun j hj => by omega⟩⟩, ok, hSt.box _ _⟩
      clear hSt ok zh HZ
      go_upto_region 20 with fail
      generalize y.alloc (.cells #[.bool true, .bool true, .bool true, .bool true, .bool true, .bool true, .bool true, .bool true] 38) = w5 at *
      generalize y.heap.size = X at *
      go_wp2_with fail
      obtain ⟨n, hnn⟩ : ∃ n, n = i := ⟨_, rfl⟩
      subst hnn
      clear hi1 hlt hi hb8
      go_loopw [16, 17, 18, 20, 21, 22, 23, 24, 25] (fun a b c d _ _ _ _ _ wr => ∃ (steps tried : Nat) (own : Int) (i : Nat) (al : List Bool) (bg : Bg), a = .int .i64 steps ∧ b = .int .i64 tried ∧ c = .int .i64 own ∧ d = .int .i64 i ∧ (i ≤ sl ∨ i + left n bg ≤ sl + 11) ∧ FRel w n k A X K steps tried own al bg (2 * n + i) wr) (fun _ _ _ d _ _ _ _ _ _ => sl + 20 - (intOf d).toNat)
      case atStart => exact ⟨0, 0, -1, 0, _, _, rfl, rfl, rfl, rfl, .inl (Nat.zero_le _), H5.out⟩
      case round =>
        clear H5
        obtain ⟨steps, tried, own, i, al, bg, rfl, rfl, rfl, rfl, hi, z, v, inv, ok, hSt⟩ := hrel
        have hleft := inv.left_le
        have hi12 : i ≤ sl + 11 := by omega
        have hi0 : (0 : Int) ≤ (i : Int) := by omega
        have hi1 : (i : Int) < (sl : Int) + 20 := by omega
        have hd := bgDone hSt 1 rfl
        obtain ⟨y, hy⟩ : ∃ y, y = wr := ⟨_, rfl⟩
        subst hy
        by_cases hst : bg.st = 3
        · rw [show (bg.st == 3) = true from by simpa using hst] at hd
          have hd3 : ∀ W, St w [boxI X (boolA al) 38, bgI K A.t bg, spI A (smallC n) z v (.slice none 0 0)] W → True := fun _ _ => trivial
          have hD : ∀ (i : Nat) (its : List It) (W : World), its[i]? = some (bgI K A.t bg) → St w its W → Calls Try.prog 12 #[.pointer (some ⟨K, 0, none⟩)] W fun e w' => e = .returned (.bool true) ∧ w' = W := by
            intro i its W hi hW
            have := bgDone hW i hi
            rw [show (bg.st == 3) = true from by simpa using hst] at this
            exact this
          have HD : Hid _ := hD
          have hq := bgSlot hSt 1 rfl
          have hne : ¬ (0 : Int) ≤ -1 := by omega
          rcases inv.ways with h | ⟨a, wd0, e6, rfl, hsl3, htn, hss, hall⟩ | h | h | ⟨a, wd2, e0, rfl, hsl3, htn, rfl, hh, hw0, hw1⟩
          · exact absurd (h.1.symm.trans hst) (by decide)
          · as_aux_lemma =>
              have eE : bg.slotE = 6 := by simp [Bg.slotE, a, e6]
              rw [eE] at hq
              generalize bg.slotA = sA at hq
              generalize bg.slotB = sB at hq
              have hzn : nowAt z.hs (-1) = Hd.zero := by simp [nowAt, headAt]
              have hzl : lookE z.hs (-1) = 2 := by simp [lookE, headAt]
              have HALL : Hid (∀ j : Nat, j < n → al[j]? = some false) := hall
              have htn1 : ((tried : Int) == (n : Int)) = true := by simp [htn]
              have hss1 : ((steps : Int) == (n : Int)) = true := by simp [hss]
              clear hall inv htn hss
              go_wp2_with (go_at_call 12; refine hd.mono ?_; rintro e wq ⟨rfl, rfl⟩)
              refine hq.mono ?_
              rintro e w6 ⟨rfl, q, rfl⟩
              have h6 := hSt.calm ((Kept.refl _ wq).drewN q)
              have hl := spLook h6 2 rfl ok (by omega) (-1)
              rw [hzn, hzl] at hl
              generalize wq.drewN q = w6 at *
              clear hSt h6 hq hd ok
              go_wp2_with fail
              refine hl.mono ?_
              rintro e w7 ⟨rfl, v7, h7⟩
              have h8 := h7.box #[.int .i64 0, .int .i64 0, .int .i64 0, .int .i64 0, .bool false, .int .i64 0] 42
              clear hl h7
              unfold Hd.val Hd.zero
              go_upto_region 46 with fail
              generalize w7.alloc (.cells #[.int .i64 0, .int .i64 0, .int .i64 0, .int .i64 0, .bool false, .int .i64 0] 42) = w8 at *
              generalize w7.heap.size = T at *
              have hd8 := HD.out 2 _ _ rfl h8
              have HC : Hid (∀ j : Nat, j < n → w8.cell? ⟨X, j, none⟩ = some (.bool false)) := fun j hj => (h8.cell 1 rfl j).trans (boolA_at (HALL.out j hj))
              have HK : Hid (Kept (fun _ => False) w w8) := h8.same
              clear h8 HALL HD hD
              go_wp2_with fail
              go_loopw [31] (fun a wr => ∃ j : Nat, a = .int .i64 j ∧ j ≤ n ∧ wr = w8) (fun a _ => n - (intOf a).toNat)
              case atStart => exact ⟨0, rfl, Nat.zero_le _, rfl⟩
              case round =>
                obtain ⟨j, rfl, hj, rfl⟩ := hrel
                have hj0 : (0 : Int) ≤ (j : Int) := by omega
                by_cases hlt : j < n
                · have hj1 : (j : Int) < (n : Int) := by omega
                  have hj8 : (j : Int) < 8 := by omega
                  have hc := HC.out j hlt
                  go_wp2_with fail
                  go_roundw
                  case rel => exact ⟨j + 1, by go_num, by omega, by first | rfl | trivial⟩
                  case measure => simp [intOf]; omega
                · have hj1 : ¬ (j : Int) < (n : Int) := by omega
                  go_wp2_with (go_at_call 12; refine hd8.mono ?_; rintro e wq ⟨rfl, rfl⟩)
                  go_ret
                  exact ⟨rfl, HK.out⟩
          · exact absurd (h.1.symm.trans hst) (by decide)
          · exact absurd (h.1.symm.trans hst) (by decide)
          · as_aux_lemma =>
              have eE : bg.slotE = 0 := by simp [Bg.slotE, a, e0]
              have eA : bg.slotA = tried := by simp [Bg.slotA, a, e0, hsl3]
              have eB : bg.slotB = bg.gn := by simp [Bg.slotB, a, e0]
              rw [eE, eA, eB] at hq
              have hzn : nowAt z.hs (tried : Int) = ⟨bg.gn, 2, k, 1, false, 0⟩ := by simp [nowAt, headAt_nat hh]
              have hzl : lookE z.hs (tried : Int) = 0 := by simp [lookE, headAt_nat hh]
              have hhn := inv.hn
              have x0 : wordR z.ws z.hs.length (tried : Int) 0 = 0 := by
                unfold wordR
                rw [hhn, show wordAt n (tried : Int) 0 = some (tried * 2 + 0) from wordAt_nat (j := 0) htn (by omega)]
                simp [hw0]
              have x1 : wordR z.ws z.hs.length (tried : Int) 1 = 0 := by
                unfold wordR
                rw [hhn, show wordAt n (tried : Int) 1 = some (tried * 2 + 1) from wordAt_nat (j := 1) htn (by omega)]
                simp [hw1]
              have y0 : wordE z.hs.length (tried : Int) 0 = 0 := by
                unfold wordE
                rw [hhn, show wordAt n (tried : Int) 0 = some (tried * 2 + 0) from wordAt_nat (j := 0) htn (by omega)]
              have y1 : wordE z.hs.length (tried : Int) 1 = 0 := by
                unfold wordE
                rw [hhn, show wordAt n (tried : Int) 1 = some (tried * 2 + 1) from wordAt_nat (j := 1) htn (by omega)]
              have ht0 : (0 : Int) ≤ (tried : Int) := by omega
              have ht1 : ¬ (tried : Int) < 0 := by omega
              have ht8 : (tried : Int) ≤ 8 := by omega
              clear inv hh hw0 hw1 a e0 hsl3 wd2 eE eA eB
              generalize bg.gn = gn at *
              go_wp2_with (go_at_call 12; refine hd.mono ?_; rintro e wq ⟨rfl, rfl⟩)
              refine hq.mono ?_
              rintro e w6 ⟨rfl, q, rfl⟩
              have h6 := hSt.calm ((Kept.refl _ wq).drewN q)
              have hl := spLook h6 2 rfl ok (by omega) tried
              rw [hzn, hzl] at hl
              unfold Hd.val at hl
              generalize wq.drewN q = w6 at *
              clear hSt h6 hq hd
              go_wp2_with fail
              refine hl.mono ?_
              rintro e w7 ⟨rfl, v7, h7⟩
              have h8 := h7.box #[.int .i64 gn, .int .i64 2, .int .i64 k, .int .i64 1, .bool false, .int .i64 0] 42
              clear hl h7
              go_upto_region 46 with fail
              generalize w7.alloc (.cells #[.int .i64 gn, .int .i64 2, .int .i64 k, .int .i64 1, .bool false, .int .i64 0] 42) = w8 at *
              generalize w7.heap.size = T at *
              have hwd := spWord h8 3 rfl (ok.look tried) (by omega) tried 0
              rw [show (z.look tried).hs = z.hs from rfl, show (z.look tried).ws = z.ws from rfl, x0, y0] at hwd
              clear h8
              go_wp2_with fail
              refine hwd.mono ?_
              rintro e w9 ⟨rfl, v9, h9⟩
              have hwd2 := spWord h9 3 rfl ((ok.look tried).word tried 0) (by omega) tried 1
              rw [show ((z.look tried).word tried 0).hs = z.hs from rfl, show ((z.look tried).word tried 0).ws = z.ws from rfl, x1, y1] at hwd2
              clear hwd h9
              go_wp2_with fail
              refine hwd2.mono ?_
              rintro e w10 ⟨rfl, v10, h10⟩
              have hd10 := HD.out 2 _ _ rfl h10
              have d0 : w10.cell? ⟨T, 0, none⟩ = some (.int .i64 gn) := h10.cell 0 rfl 0
              have d1 : w10.cell? ⟨T, 1, none⟩ = some (.int .i64 2) := h10.cell 0 rfl 1
              have d2 : w10.cell? ⟨T, 2, none⟩ = some (.int .i64 k) := h10.cell 0 rfl 2
              have d3 : w10.cell? ⟨T, 3, none⟩ = some (.int .i64 1) := h10.cell 0 rfl 3
              have d4 : w10.cell? ⟨T, 4, none⟩ = some (.bool false) := h10.cell 0 rfl 4
              have d5 : w10.cell? ⟨T, 5, none⟩ = some (.int .i64 0) := h10.cell 0 rfl 5
              have HK : Hid (Kept (fun _ => False) w w10) := h10.same
              have htt : ((tried : Int) == (tried : Int)) = true := by simp
              have hts : ((tried : Int) + 4 == (tried : Int) + 2 + 2) = true := by simp; omega
              clear hwd2 h10 HD hD ok
              go_wp2_with (go_at_call 12; refine hd10.mono ?_; rintro e wq ⟨rfl, rfl⟩)
              go_ret
              exact ⟨rfl, HK.out⟩
        · rw [show (bg.st == 3) = false from by simpa using hst] at hd
          have HST : Hid (bg.st ≠ 3) := hst
          have HNN : Hid (z.hs.length = n ∧ z.ws.length = z.hs.length * 2 ∧ al.length = 8) := ⟨inv.hn, ok.wl, inv.la⟩
          have hq := spTabAll hSt 2 rfl ok.wl ok.h1 ok.h8
          rw [HNN.out.1] at hq
          have HI : Hid (FInv n k steps tried own al bg z) := inv
          have HOK : Hid (z.ok (smallC n) (2 * n + i)) := ok
          have HIB : Hid (i ≤ sl ∨ i + left n bg ≤ sl + 11) := hi
          clear inv ok hSt hst hi hleft
          go_wp2_with (go_at_call 12; refine hd.mono ?_; rintro e wq ⟨rfl, rfl⟩)
          refine hq.mono ?_
          rintro e w6 ⟨v6, rfl, h6⟩
          obtain ⟨g, cap, rfl⟩ := h6.form 0 rfl (by omega)
          clear hq hd
          have hnn : ((n : Int) != (n : Int)) = false := by simp
          go_wp2_with fail
          obtain ⟨y, hy⟩ : ∃ y, y = w6 := ⟨_, rfl⟩
          subst hy
          go_loopw [22] (fun a wr => ∃ j : Nat, a = .int .i64 j ∧ j ≤ n ∧ Hid (St w (ownI 46 8 (.slice (some ⟨g, 0, none⟩) n cap) n (slCells (slots z.hs z.ws)) :: [boxI X (boolA (mix al z.hs j)) 38, bgI K A.t bg, spI A (smallC n) z v (.slice none 0 0)]) wr)) (fun a _ => n - (intOf a).toNat)
          case atStart => exact ⟨0, rfl, Nat.zero_le _, by rw [mix_zero]; exact h6⟩
          case round =>
            clear h6
            obtain ⟨j, rfl, hj, hS⟩ := hrel
            have hj0 : (0 : Int) ≤ (j : Int) := by omega
            have hj8 : (j : Int) ≤ 8 := by omega
            by_cases hlt : j < n
            · as_aux_lemma =>
                have hj1 : (j : Int) < (n : Int) := by omega
                have hj9 : (j : Int) < 8 := by omega
                obtain ⟨x, hx⟩ : ∃ x, z.hs[j]? = some x := ⟨_, List.getElem?_eq_getElem (by rw [HNN.out.1]; exact hlt)⟩
                obtain ⟨a, ha⟩ : ∃ a, al[j]? = some a := ⟨_, List.getElem?_eq_getElem (by rw [HNN.out.2.2]; omega)⟩
                obtain ⟨-, c1, -⟩ := now_cells hS.out 0 rfl HNN.out.1 HNN.out.2.1 j x hx
                have c0 : wr.cell? ⟨X, j, none⟩ = some (.bool a) := (hS.out.cell 1 rfl j).trans (boolA_at ((mix_at (by rw [HNN.out.2.2]; omega)).trans ha))
                have f0 : wr.frozen? ⟨X, j, none⟩ = false := hS.out.frozen 1 rfl j
                have HT : Hid (St w (ownI 46 8 (.slice (some ⟨g, 0, none⟩) n cap) n (slCells (slots z.hs z.ws)) :: [boxI X (boolA (mix al z.hs (j + 1))) 38, bgI K A.t bg, spI A (smallC n) z v (.slice none 0 0)]) (wr.setCell ⟨X, j, none⟩ (.bool (a && (x.sa == 0))))) := by
                  have := hS.out.write 1 rfl j (.bool (a && (x.sa == 0)))
                  rw [boolA_set, mix_next ha hx] at this
                  exact this
                clear hS ha hx
                generalize x.sa = sa' at *
                cases a with
                | false =>
                  go_wp2_with fail
                  go_roundw
                  case rel => exact ⟨j + 1, by go_num, by omega, HT⟩
                  case measure => simp [intOf]; omega
                | true =>
                  rw [Bool.true_and] at HT
                  go_wp2_with fail
                  go_roundw
                  case rel => exact ⟨j + 1, by go_num, by omega, HT⟩
                  case measure => simp [intOf]; omega
            · have hj1 : ¬ (j : Int) < (n : Int) := by omega
              have hjn : j = n := by omega
              have hS2 : St w (ownI 46 8 (.slice (some ⟨g, 0, none⟩) n cap) n (slCells (slots z.hs z.ws)) :: [boxI X (boolA (alNow al z.hs)) 38, bgI K A.t bg, spI A (smallC n) z v (.slice none 0 0)]) wr := by
                have := hS.out
                rw [hjn, mix_all HNN.out.1] at this
                exact this
              have HI2 : Hid (FInv n k steps tried own (alNow al z.hs) bg z) := HI.out.now
              have HAL : Hid (∀ x, z.hs[tried]? = some x → x.sa ≠ 0 → (alNow al z.hs)[tried]? = some false) := fun x hx h0 => alNow_hal (by rw [HNN.out.2.2]; have := (List.getElem?_eq_some_iff.1 hx).1; rw [HNN.out.1] at this; omega) x hx h0
              generalize alNow al z.hs = al2 at *
              clear hS HI hlt hj hjn
              by_cases his : i < sl ∧ (f i).kind ≠ 21
              · obtain ⟨his, hk21⟩ := his
                have HIS : Hid (i < sl) := his
                have his1 : (i : Int) < (sl : Int) := by omega
                have hk21' : ((f i).kind != 21) = true := by simpa using hk21
                obtain ⟨sb, so, rfl, hops⟩ := HSC.out.resolve_left (by omega)
                have hop := (hops i his).kept hS2.same
                obtain ⟨q, hq7, hq8⟩ : ∃ q : Nat, bits .and .i64 (f i).i 7 = (q : Int) ∧ q < 8 := ⟨((f i).i % 8).toNat, by rw [and7]; omega, by omega⟩
                obtain ⟨m3, hm3, hm4⟩ : ∃ q : Nat, bits .and .i64 (f i).n 3 = (q : Int) ∧ q < 4 := ⟨((f i).n % 4).toNat, by rw [and3]; omega, by omega⟩
                obtain ⟨a, ha, han⟩ : ∃ a : Nat, (q : Int) % (n : Int) = (a : Int) ∧ a < n := ⟨q % n, (Int.natCast_emod q n).symm, Nat.mod_lt _ (by omega)⟩
                have ha0 : (0 : Int) ≤ (a : Int) := by omega
                have ha1 : (a : Int) < (n : Int) := by omega
                have hq0 : (0 : Int) ≤ (q : Int) := by omega
                have hn0 : ¬ (n : Int) = 0 := by omega
                have hn00 : (0 : Int) ≤ (n : Int) := by omega
                have hm40 : (m3 : Int) < 4 := by omega
                have hm41 : (0 : Int) ≤ (m3 : Int) := by omega
                obtain ⟨x, hx⟩ : ∃ x, z.hs[a]? = some x := ⟨_, List.getElem?_eq_getElem (by rw [HNN.out.1]; exact han)⟩
                obtain ⟨c0, c1, c2, c3, c4, c5⟩ := now_cells hS2 0 rfl HNN.out.1 HNN.out.2.1 a x hx
                have o0 := hop.c0
                have o2 := hop.c2
                have o3 := hop.c3
                have h8 := hS2.box #[.int .i64 x.gn, .int .i64 x.sa, .int .i64 x.sp, .int .i64 x.th, .bool x.dm, .int .i64 x.wy] 42
                have HX : Hid (z.hs[a]? = some x) := hx
                have HOP : Hid (∀ W, Kept (fun _ => False) w W → OpAt W sb (so + i * 5) (f i)) := fun W hk => (hops i his).kept hk
                clear hS2 hops hop hx his hk21 HNN HAL
                go_upto_region 33 with (simp only [ha])
                have d0 : (wr.alloc (.cells #[.int .i64 x.gn, .int .i64 x.sa, .int .i64 x.sp, .int .i64 x.th, .bool x.dm, .int .i64 x.wy] 42)).cell? ⟨wr.heap.size, 0, none⟩ = some (.int .i64 x.gn) := h8.cell 0 rfl 0
                have d3 : (wr.alloc (.cells #[.int .i64 x.gn, .int .i64 x.sa, .int .i64 x.sp, .int .i64 x.th, .bool x.dm, .int .i64 x.wy] 42)).cell? ⟨wr.heap.size, 3, none⟩ = some (.int .i64 x.th) := h8.cell 0 rfl 3
                have oo := HOP.out _ h8.same
                have o0' := oo.c0
                have o3' := oo.c3
                clear o0 o2 o3 c0 c1 c2 c3 c4 c5 oo HOP
                generalize wr.alloc (.cells #[.int .i64 x.gn, .int .i64 x.sa, .int .i64 x.sp, .int .i64 x.th, .bool x.dm, .int .i64 x.wy] 42) = w8 at *
                generalize wr.heap.size = T at *
                by_cases hk10 : (f i).kind = 10
                · have hk10' : ((f i).kind == 10) = true := by simpa using hk10
                  by_cases hth : x.th = 1
                  · have hth' : (x.th != 1) = false := by simp [hth]
                    clear hth hk10
                    as_aux_lemma =>
                      have hcl := spClaim h8 4 rfl HOK.out (by omega) a (2 + m3)
                      have HF : Hid (∀ v9 w9, St w (boxI T #[.int .i64 x.gn, .int .i64 x.sa, .int .i64 x.sp, .int .i64 x.th, .bool x.dm, .int .i64 x.wy] 42 :: ownI 46 8 (.slice (some ⟨g, 0, none⟩) n cap) n (slCells (slots z.hs z.ws)) :: [boxI X (boolA al2) 38, bgI K A.t bg, spI A (smallC n) (z.op (claimOp (2 + m3)) a) v9 (.slice none 0 0)]) w9 → FRel w n k A X K steps tried own al2 bg (2 * n + (i + 1)) w9) := fun v9 w9 h9 => ⟨_, v9, HI2.out.claim HOK.out.hd (2 + m3) a, (HOK.out.op _ _ (claim_keeps HOK.out.hd _ _)), h9.pop.pop⟩
                      clear h8 HX HI2 HOK
                      generalize z.op (claimOp (2 + m3)) a = z9 at *
                      go_wp2_with (first | simp only [ha] | fail)
                      refine hcl.mono ?_
                      rintro e w9 ⟨rfl, v9, h9⟩
                      have HR : Hid (FRel w n k A X K steps tried own al2 bg (2 * n + (i + 1)) w9) := HF.out v9 w9 h9
                      clear hcl h9 HF
                      go_wp2
                      go_roundw
                      case rel => exact ⟨steps, tried, own, i + 1, al2, bg, rfl, rfl, rfl, by go_num, .inl (by have := HIS.out; omega), HR.out⟩
                      case measure => simp [intOf]; have := HIS.out; omega
                  · have hth' : (x.th != 1) = true := by simpa using hth
                    have HTH : Hid (x.th ≠ 1) := hth
                    clear hth hk10
                    as_aux_lemma =>
                      have hcl := spFree h8 4 rfl HOK.out (by omega) a x.gn
                      have HF : Hid (∀ v9 w9, St w (boxI T #[.int .i64 x.gn, .int .i64 x.sa, .int .i64 x.sp, .int .i64 x.th, .bool x.dm, .int .i64 x.wy] 42 :: ownI 46 8 (.slice (some ⟨g, 0, none⟩) n cap) n (slCells (slots z.hs z.ws)) :: [boxI X (boolA al2) 38, bgI K A.t bg, spI A (smallC n) (z.op (freeOp x.gn) a) v9 (.slice none 0 0)]) w9 → FRel w n k A X K steps tried own al2 bg (2 * n + (i + 1)) w9) := fun v9 w9 h9 => ⟨_, v9, HI2.out.free x.gn a HX.out HTH.out, (HOK.out.op _ _ (free_keeps HOK.out.hd _ _)), h9.pop.pop⟩
                      clear h8 HX HI2 HOK
                      generalize z.op (freeOp x.gn) a = z9 at *
                      go_wp2_with (first | simp only [ha] | fail)
                      refine hcl.mono ?_
                      rintro e w9 ⟨rfl, v9, h9⟩
                      have HR : Hid (FRel w n k A X K steps tried own al2 bg (2 * n + (i + 1)) w9) := HF.out v9 w9 h9
                      clear hcl h9 HF
                      go_wp2
                      go_roundw
                      case rel => exact ⟨steps, tried, own, i + 1, al2, bg, rfl, rfl, rfl, by go_num, .inl (by have := HIS.out; omega), HR.out⟩
                      case measure => simp [intOf]; have := HIS.out; omega
                · have hk10' : ((f i).kind == 10) = false := by simpa using hk10
                  clear hk10
                  as_aux_lemma =>
                    have hcl := spClaim h8 4 rfl HOK.out (by omega) a (2 + m3)
                    have HF : Hid (∀ v9 w9, St w (boxI T #[.int .i64 x.gn, .int .i64 x.sa, .int .i64 x.sp, .int .i64 x.th, .bool x.dm, .int .i64 x.wy] 42 :: ownI 46 8 (.slice (some ⟨g, 0, none⟩) n cap) n (slCells (slots z.hs z.ws)) :: [boxI X (boolA al2) 38, bgI K A.t bg, spI A (smallC n) (z.op (claimOp (2 + m3)) a) v9 (.slice none 0 0)]) w9 → FRel w n k A X K steps tried own al2 bg (2 * n + (i + 1)) w9) := fun v9 w9 h9 => ⟨_, v9, HI2.out.claim HOK.out.hd (2 + m3) a, (HOK.out.op _ _ (claim_keeps HOK.out.hd _ _)), h9.pop.pop⟩
                    clear h8 HX HI2 HOK
                    generalize z.op (claimOp (2 + m3)) a = z9 at *
                    go_wp2_with (first | simp only [ha] | fail)
                    refine hcl.mono ?_
                    rintro e w9 ⟨rfl, v9, h9⟩
                    have HR : Hid (FRel w n k A X K steps tried own al2 bg (2 * n + (i + 1)) w9) := HF.out v9 w9 h9
                    clear hcl h9 HF
                    go_wp2
                    go_roundw
                    case rel => exact ⟨steps, tried, own, i + 1, al2, bg, rfl, rfl, rfl, by go_num, .inl (by have := HIS.out; omega), HR.out⟩
                    case measure => simp [intOf]; have := HIS.out; omega
              · have HI20 : Hid (i < sl + 20) := (by omega : i < sl + 20)
                have hstep := HI2.out.step HST.out HAL.out
                have hq := bgStep hS2 3 2 (by omega) rfl rfl HOK.out (by omega) HI2.out.fine
                rw [hstep.1] at hq
                have HLE : Hid (i + 1 ≤ sl ∨ i + 1 + left n (bg.next z) ≤ sl + 11) := by
                  show i + 1 ≤ sl ∨ i + 1 + left n (bg.next z) ≤ sl + 11
                  have h1 := hstep.2.1
                  have h2 := HIB.out
                  have h3 := HI2.out.left_le
                  omega
                have HF : Hid (∀ (st' tr' : Nat) (ow' : Int), FInv n k st' tr' ow' al2 (bg.next z) (z.goes bg) → ∀ v9 w9, St w (ownI 46 8 (.slice (some ⟨g, 0, none⟩) n cap) n (slCells (slots z.hs z.ws)) :: [boxI X (boolA al2) 38, bgI K A.t (bg.next z), spI A (smallC n) (z.goes bg) v9 (.slice none 0 0)]) w9 → FRel w n k A X K st' tr' ow' al2 (bg.next z) (2 * n + (i + 1)) w9) := fun st' tr' ow' hf v9 w9 h9 => ⟨_, v9, hf, HOK.out.goes bg, h9.pop⟩
                have hst0 : (0 : Int) ≤ (steps : Int) := by omega
                have hst1 : (steps : Int) ≤ 20 := by
                  have := HI2.out.n8
                  rcases HI2.out.ways with h | h | h | h | h <;> omega
                have htr0 : (0 : Int) ≤ (tried : Int) := by omega
                have htr1 : (tried : Int) ≤ 8 := by
                  have := HI2.out.n8
                  rcases HI2.out.ways with h | h | h | h | h <;> omega
                have hnot : (¬ (i : Int) < (sl : Int)) ∨ ((i : Int) < (sl : Int) ∧ ((f i).kind != 21) = false ∧ ∃ sb so, sa = some ⟨sb, so, none⟩ ∧ wr.cell? ⟨sb, so + i * 5, none⟩ = some (.int .i64 (f i).kind)) := by
                  by_cases h : i < sl
                  · refine .inr ⟨by omega, ?_, ?_⟩
                    · have : (f i).kind = 21 := by
                        by_cases h2 : (f i).kind = 21
                        · exact h2
                        · exact absurd ⟨h, h2⟩ his
                      simp [this]
                    · obtain ⟨sb, so, e, hops⟩ := HSC.out.resolve_left (by omega)
                      exact ⟨sb, so, e, ((hops i h).kept hS2.same).c0⟩
                  · exact .inl (by omega)
                rcases hstep.2.2 with ⟨hown, hf⟩ | ⟨hown, htn, x, hx, hw⟩
                · have hown1 : ¬ own < 0 := by omega
                  have htn1 : (tried : Int) < (n : Int) := by
                    rcases HI2.out.ways with h | h | h | h | h <;> omega
                  obtain ⟨x, hx⟩ : ∃ x, z.hs[tried]? = some x := ⟨_, List.getElem?_eq_getElem (by rw [HNN.out.1]; omega)⟩
                  obtain ⟨-, c1, -⟩ := now_cells hS2 0 rfl HNN.out.1 HNN.out.2.1 tried x hx
                  have HG : Hid (∀ v9 w9, St w (ownI 46 8 (.slice (some ⟨g, 0, none⟩) n cap) n (slCells (slots z.hs z.ws)) :: [boxI X (boolA al2) 38, bgI K A.t (bg.next z), spI A (smallC n) (z.goes bg) v9 (.slice none 0 0)]) w9 → FRel w n k A X K (steps + 1) tried own al2 (bg.next z) (2 * n + (i + 1)) w9) := HF.out _ _ _ hf
                  clear hS2 hx hf HF HNN HAL HI2 HOK hstep his HIB hown HST
                  generalize x.sa = xsa at *
                  generalize bg.next z = bg9 at *
                  generalize z.goes bg = z9 at *
                  rcases hnot with hnl | ⟨hnl, hk21, sb, so, rfl, o0⟩
                  · as_aux_lemma =>
                      go_wp2_with fail
                      refine hq.mono ?_
                      rintro e w9 ⟨rfl, v9, h9⟩
                      have HR : Hid _ := HG.out v9 w9 h9
                      clear hq h9 HG
                      go_wp2
                      go_roundw
                      case rel => exact ⟨steps + 1, tried, own, i + 1, al2, bg9, by go_num, rfl, rfl, by go_num, HLE.out, HR.out⟩
                      case measure => simp [intOf]; have := HI20.out; omega
                  · as_aux_lemma =>
                      have hi0' : (0 : Int) ≤ (i : Int) := by omega
                      go_wp2_with fail
                      refine hq.mono ?_
                      rintro e w9 ⟨rfl, v9, h9⟩
                      have HR : Hid _ := HG.out v9 w9 h9
                      clear hq h9 HG
                      go_wp2
                      go_roundw
                      case rel => exact ⟨steps + 1, tried, own, i + 1, al2, bg9, by go_num, rfl, rfl, by go_num, HLE.out, HR.out⟩
                      case measure => simp [intOf]; have := HI20.out; omega
                · subst hown
                  have htn1 : (tried : Int) < (n : Int) := by omega
                  obtain ⟨-, c1, -⟩ := now_cells hS2 0 rfl HNN.out.1 HNN.out.2.1 tried x hx
                  rcases hw with ⟨hsa, hf⟩ | ⟨hsa, hf⟩
                  · have hsa' : (x.sa == 0) = true := by simpa using hsa
                    have HG : Hid (∀ v9 w9, St w (ownI 46 8 (.slice (some ⟨g, 0, none⟩) n cap) n (slCells (slots z.hs z.ws)) :: [boxI X (boolA al2) 38, bgI K A.t (bg.next z), spI A (smallC n) (z.goes bg) v9 (.slice none 0 0)]) w9 → FRel w n k A X K (steps + 1) tried tried al2 (bg.next z) (2 * n + (i + 1)) w9) := HF.out _ _ _ hf
                    clear hS2 hx hf HF HNN HAL HI2 HOK hstep his HIB hsa HST
                    generalize x.sa = xsa at *
                    generalize bg.next z = bg9 at *
                    generalize z.goes bg = z9 at *
                    rcases hnot with hnl | ⟨hnl, hk21, sb, so, rfl, o0⟩
                    · as_aux_lemma =>
                        go_wp2_with fail
                        refine hq.mono ?_
                        rintro e w9 ⟨rfl, v9, h9⟩
                        have HR : Hid _ := HG.out v9 w9 h9
                        clear hq h9 HG
                        go_wp2
                        go_roundw
                        case rel => exact ⟨steps + 1, tried, tried, i + 1, al2, bg9, by go_num, rfl, rfl, by go_num, HLE.out, HR.out⟩
                        case measure => simp [intOf]; have := HI20.out; omega
                    · as_aux_lemma =>
                        go_wp2_with fail
                        refine hq.mono ?_
                        rintro e w9 ⟨rfl, v9, h9⟩
                        have HR : Hid _ := HG.out v9 w9 h9
                        clear hq h9 HG
                        go_wp2
                        go_roundw
                        case rel => exact ⟨steps + 1, tried, tried, i + 1, al2, bg9, by go_num, rfl, rfl, by go_num, HLE.out, HR.out⟩
                        case measure => simp [intOf]; have := HI20.out; omega
                  · have hsa' : (x.sa == 0) = false := by simpa using hsa
                    have HG : Hid (∀ v9 w9, St w (ownI 46 8 (.slice (some ⟨g, 0, none⟩) n cap) n (slCells (slots z.hs z.ws)) :: [boxI X (boolA al2) 38, bgI K A.t (bg.next z), spI A (smallC n) (z.goes bg) v9 (.slice none 0 0)]) w9 → FRel w n k A X K (steps + 1) (tried + 1) (-1) al2 (bg.next z) (2 * n + (i + 1)) w9) := HF.out _ _ _ hf
                    clear hS2 hx hf HF HNN HAL HI2 HOK hstep his HIB hsa HST
                    generalize x.sa = xsa at *
                    generalize bg.next z = bg9 at *
                    generalize z.goes bg = z9 at *
                    rcases hnot with hnl | ⟨hnl, hk21, sb, so, rfl, o0⟩
                    · as_aux_lemma =>
                        go_wp2_with fail
                        refine hq.mono ?_
                        rintro e w9 ⟨rfl, v9, h9⟩
                        have HR : Hid _ := HG.out v9 w9 h9
                        clear hq h9 HG
                        go_wp2
                        go_roundw
                        case rel => exact ⟨steps + 1, tried + 1, -1, i + 1, al2, bg9, by go_num, by go_num, rfl, by go_num, HLE.out, HR.out⟩
                        case measure => simp [intOf]; have := HI20.out; omega
                    · as_aux_lemma =>
                        go_wp2_with fail
                        refine hq.mono ?_
                        rintro e w9 ⟨rfl, v9, h9⟩
                        have HR : Hid _ := HG.out v9 w9 h9
                        clear hq h9 HG
                        go_wp2
                        go_roundw
                        case rel => exact ⟨steps + 1, tried + 1, -1, i + 1, al2, bg9, by go_num, by go_num, rfl, by go_num, HLE.out, HR.out⟩
                        case measure => simp [intOf]; have := HI20.out; omega
end Go.Proofs.Ytpjhljfcoejndaa
