/- The law StartOne, step by step. -/
import Derived.Test.YtpjhljfcoejndaaUp
import Derived.Test.YtpjhljfcoejndaaLists
namespace Go.Proofs.Ytpjhljfcoejndaa
open Go.RowKit
set_option linter.unusedVariables false
set_option linter.unusedSimpArgs false
attribute [local go_sem ↓] Go.wp_at_zero Go.wp_at_succ

/-- A begin alone, behind p steps. -/
def oneB (th sp : Int) : Nat → Bg
  | 0 => ⟨th, sp, 0, 0, 0, 0, 0⟩
  | 1 => ⟨th, sp, 1, 0, 1, 0, 0⟩
  | 2 => ⟨th, sp, 1, 0, 1, 1, 0⟩
  | 3 => ⟨th, sp, 2, 0, 1, 2, 0⟩
  | _ => ⟨th, sp, 3, 0, 1, 2, 0⟩
def oneH (th sp : Int) : Nat → Hd
  | 0 => Hd.zero
  | 1 => ⟨1, 1, 0, th, false, 0⟩
  | 2 => ⟨1, 1, 0, th, false, 0⟩
  | 3 => ⟨1, 1, 0, th, false, 0⟩
  | _ => ⟨1, 2, sp, th, false, 0⟩
structure OneZ (th sp : Int) (p : Nat) (z : SSt) : Prop where
  head : z.hs[0]? = some (oneH th sp p)
  len : z.s.l.length = p
  mo : z.s.mo = if p = 0 then 0 else 1
theorem oneB_fine (th sp : Int) (p : Nat) (hp : p ≤ 4) : (oneB th sp p).fine ∧ ((oneB th sp p).st == 3) = decide (p = 4) ∧ (oneB th sp p).ans = (if p = 4 then 3 else 1) := by
  have : p = 0 ∨ p = 1 ∨ p = 2 ∨ p = 3 ∨ p = 4 := by omega
  rcases this with rfl | rfl | rfl | rfl | rfl
  all_goals exact ⟨⟨by simp [oneB], by simp [oneB], by simp [oneB], by simp [oneB]⟩, rfl, rfl⟩
theorem one_head {hs : List Hd} {x : Hd} (h : hs[0]? = some x) : headAt hs 0 = some x := by simpa [headAt] using h
theorem one_len {hs : List Hd} {x : Hd} (h : hs[0]? = some x) : 0 < hs.length := (List.getElem?_eq_some_iff.1 h).1
theorem one_word {n : Nat} (h : 0 < n) (j : Nat) (hj : j < 2) : wordAt n 0 (j : Int) = some j := by
  unfold wordAt
  rw [if_pos (by omega)]
  simp
theorem mo_one (x : Int) (h : x = 0 ∨ x = 1) : max x ((0 : Int) + 1) = 1 := by
  rcases h with rfl | rfl <;> rfl
theorem one_step {th sp t : Int} {p : Nat} {z : SSt} (h : OneZ th sp p z) (hp : p < 4) (hth : isTh th = true) (hsp : 1 ≤ sp) :
    OneZ th sp (p + 1) ((z.turn t).goes (oneB th sp p)) ∧ (oneB th sp p).next (z.turn t) = oneB th sp (p + 1) ∧ ((z.turn t).goes (oneB th sp p)).s.dn = 1 := by
  obtain ⟨h1, h2, h3⟩ := h
  have hh : headAt (z.turn t).hs 0 = some (oneH th sp p) := one_head h1
  have h0 : (z.turn t).hs.length = z.hs.length := rfl
  have hl := one_len h1
  have hm : z.s.mo = 0 ∨ z.s.mo = 1 := by rw [h3]; split <;> simp
  have : p = 0 ∨ p = 1 ∨ p = 2 ∨ p = 3 := by omega
  rcases this with rfl | rfl | rfl | rfl
  · have e1 : (claimOp th).pre = 0 := by simp [claimOp, hth]
    have e2 : (claimOp th).ok Hd.zero = true := rfl
    have eE : (claimOp th).E (z.turn t).hs 0 = 0 := by simp only [HOp.E, e1, if_true, hh, oneH, e2]
    have eR : claimR (z.turn t).hs 0 th = 1 := by simp only [claimR, hth, if_true, hh, oneH]; rfl
    have eg : (z.turn t).goes (oneB th sp 0) = (z.turn t).op (claimOp th) 0 := rfl
    rw [eg]
    have eS : ((z.turn t).op (claimOp th) 0).s = (z.s.start t).note 3 0 3 true := by simp only [SSt.op, HOp.S, e1, if_true, hh, oneH, e2]; rfl
    have eH : ((z.turn t).op (claimOp th) 0).hs = z.hs.set 0 ⟨1, 1, 0, th, false, 0⟩ := by simp only [SSt.op, HOp.H, e1, if_true, hh, oneH, e2]; rfl
    refine ⟨⟨?_, ?_, ?_⟩, ?_, ?_⟩
    · rw [eH]; simp [oneH, hl]
    · rw [eS]; simp [Mt.note, Mt.start, h2]
    · rw [eS]; exact mo_one _ hm
    · show (oneB th sp 0).claim (claimR (z.turn t).hs 0 th) ((claimOp th).E (z.turn t).hs 0) (z.turn t).hs.length = _
      rw [eE, eR]; rfl
    · rw [eS]; rfl
  · have eg : (z.turn t).goes (oneB th sp 1) = (z.turn t).put 0 0 0 := rfl
    rw [eg]
    have hw : wordAt z.hs.length 0 0 = some 0 := one_word hl 0 (by omega)
    have eS : ((z.turn t).put 0 0 0).s = (z.s.start t).note 4 0 2 true := by
      show putS (z.s.start t) z.hs.length 0 0 = _
      unfold putS
      rw [hw]; rfl
    exact ⟨⟨h1, by rw [eS]; simp [Mt.note, Mt.start, h2], by rw [eS]; exact mo_one _ hm⟩, rfl, by rw [eS]; rfl⟩
  · have eg : (z.turn t).goes (oneB th sp 2) = (z.turn t).put 0 1 0 := rfl
    rw [eg]
    have hw : wordAt z.hs.length 0 1 = some 1 := one_word hl 1 (by omega)
    have eS : ((z.turn t).put 0 1 0).s = (z.s.start t).note 4 1 2 true := by
      show putS (z.s.start t) z.hs.length 0 1 = _
      unfold putS
      rw [hw]; rfl
    exact ⟨⟨h1, by rw [eS]; simp [Mt.note, Mt.start, h2], by rw [eS]; exact mo_one _ hm⟩, rfl, by rw [eS]; rfl⟩
  · have e1 : (readyOp 1 sp).pre = 0 := by
      simp only [readyOp]; rw [if_neg (by omega)]
    have e2 : (readyOp 1 sp).ok ⟨1, 1, 0, th, false, 0⟩ = true := rfl
    have eE : (readyOp 1 sp).E (z.turn t).hs 0 = 0 := by simp only [HOp.E, e1, if_true, hh, oneH, e2]
    have eg : (z.turn t).goes (oneB th sp 3) = (z.turn t).op (readyOp 1 sp) 0 := rfl
    rw [eg]
    have eS : ((z.turn t).op (readyOp 1 sp) 0).s = (z.s.start t).note 3 0 3 true := by simp only [SSt.op, HOp.S, e1, if_true, hh, oneH, e2]; rfl
    have eH : ((z.turn t).op (readyOp 1 sp) 0).hs = z.hs.set 0 ⟨1, 2, sp, th, false, 0⟩ := by simp only [SSt.op, HOp.H, e1, if_true, hh, oneH, e2]; rfl
    refine ⟨⟨?_, ?_, ?_⟩, ?_, ?_⟩
    · rw [eH]; simp [oneH, hl]
    · rw [eS]; simp [Mt.note, Mt.start, h2]
    · rw [eS]; exact mo_one _ hm
    · show (oneB th sp 3).over ((readyOp 1 sp).E (z.turn t).hs 0) = _
      rw [eE]; rfl
    · rw [eS]; rfl

theorem cfg_facts {o w : World} {its : List It} {C : Nat} {c : Cfg} (h : St o its w) (i : Nat) (hi : its[i]? = some (boxI C #[.int .i64 c.ce, .int .i64 c.sl, .int .i64 c.bi, .int .i64 c.ta, .int .i64 c.ba, .int .i64 c.de] 29)) : w.cell? ⟨C, 0, none⟩ = some (.int .i64 c.ce) ∧ w.cell? ⟨C, 1, none⟩ = some (.int .i64 c.sl) ∧ w.cell? ⟨C, 2, none⟩ = some (.int .i64 c.bi) ∧ w.cell? ⟨C, 3, none⟩ = some (.int .i64 c.ta) ∧ w.cell? ⟨C, 4, none⟩ = some (.int .i64 c.ba) ∧ w.cell? ⟨C, 5, none⟩ = some (.int .i64 c.de) :=
  ⟨h.cell i hi 0, h.cell i hi 1, h.cell i hi 2, h.cell i hi 3, h.cell i hi 4, h.cell i hi 5⟩

set_option maxRecDepth 100000 in
set_option maxHeartbeats 4000000 in
theorem one_walk (c : Cfg) (th sp more : Int) (w : World) :
    Calls Try.prog 4 #[c.val, .int .i64 th, .int .i64 sp, .int .i64 more] w fun e w' => e = .returned (.bool true) ∧ Kept (fun _ => False) w w' := by
  have h0 := (St.nil w).box #[.int .i64 c.ce, .int .i64 c.sl, .int .i64 c.bi, .int .i64 c.ta, .int .i64 c.ba, .int .i64 c.de] 29
  obtain ⟨M, hM, hM15⟩ : ∃ M : Nat, 8 + bits .and .i64 more 15 = ((8 + M : Nat) : Int) ∧ M ≤ 15 := ⟨(more % 16).toNat, by rw [and15]; omega, by omega⟩
  unfold Cfg.val
  go_enter Try.func4, Try.ntmps4
  go_upto_region 1 with fail
  generalize w.alloc (.cells #[.int .i64 c.ce, .int .i64 c.sl, .int .i64 c.bi, .int .i64 c.ta, .int .i64 c.ba, .int .i64 c.de] 29) = W0 at *
  generalize w.heap.size = C at *
  go_wp2_with fail
  refine (up_any _).mono ?_
  rintro e w1 ⟨rfl, k1⟩
  have h1 : St w [boxI C #[.int .i64 c.ce, .int .i64 c.sl, .int .i64 c.bi, .int .i64 c.ta, .int .i64 c.ba, .int .i64 c.de] 29] w1 := h0.calm k1
  clear h0 k1
  obtain ⟨c0, c1, c2, c3, c4, c5⟩ := cfg_facts h1 0 rfl
  by_cases hfc : c.fits = true
  · have OKC := SSt.ok_zero c hfc 0
    have hq : Calls Try.prog 7 #[.agg #[.int .i64 c.ce, .int .i64 c.sl, .int .i64 c.bi, .int .i64 c.ta, .int .i64 c.ba, .int .i64 c.de]] w1 _ := spNew_st h1 c hfc
    go_wp2_with fail
    refine hq.mono ?_
    rintro e w2 ⟨A, rfl, h2⟩
    clear hq c0 c1 c2 c3 c4 c5 h1
    unfold spp
    by_cases hok : 1 ≤ th ∧ th ≤ 8 ∧ 1 ≤ sp
    · have hq := bgNew_st h2 0 rfl th sp hok
      unfold spp at hq
      clear h2
      go_wp2_with fail
      refine hq.mono ?_
      rintro e w3 ⟨K, rfl, h3⟩
      clear hq
      have hth : isTh th = true := by simp [isTh]; omega
      have HZ : Hid (OneZ th sp 0 (SSt.zero c)) := by
        refine ⟨?_, rfl, rfl⟩
        have : 0 < c.sl.toNat := by have := OKC.h1; simp only [SSt.zero, List.length_replicate] at this; exact this
        simp [SSt.zero, oneH, this]
      go_wp2
      go_loopw [14, 15, 16, 17] (fun a b _ _ wr => ∃ (i p k : Nat) (z : SSt) (v : Value), a = .int .i64 p ∧ b = .int .i64 i ∧ i ≤ 8 + M ∧ p = min i 4 ∧ k ≤ 2 * i ∧ z.ok c k ∧ OneZ th sp p z ∧ St w [bgI K A.t (oneB th sp p), spI A c z v (.slice none 0 0), boxI C #[.int .i64 c.ce, .int .i64 c.sl, .int .i64 c.bi, .int .i64 c.ta, .int .i64 c.ba, .int .i64 c.de] 29] wr) (fun _ b _ _ _ => 8 + M - (intOf b).toNat)
      case atStart => exact ⟨0, 0, 0, SSt.zero c, _, rfl, rfl, by omega, rfl, by omega, OKC, HZ.out, h3⟩
      case round =>
        clear h3 OKC HZ
        obtain ⟨i, p, k, z, v, rfl, rfl, hi, hp, hk, ok, hz, hS⟩ := hrel
        have hi0 : (0 : Int) ≤ (i : Int) := by omega
        have hi9 : (i : Int) ≤ 23 := by omega
        have hp4 : p ≤ 4 := by omega
        have HP : Hid (p = min i 4) := hp
        clear hp
        obtain ⟨f1, f2, f3⟩ := oneB_fine th sp p hp4
        by_cases hlt : i < 8 + M
        · have hlt1 : (i : Int) < ((8 + M : Nat) : Int) := by omega
          have hd := bgDone hS 0 rfl
          have ht := spTurn hS 1 rfl ok (by omega) th
          rw [f2] at hd
          unfold spp at ht
          have okT := ok.turn th
          have hst : ∀ W, St w [bgI K A.t (oneB th sp p), spI A c (z.turn th) v (.slice none 0 0), boxI C #[.int .i64 c.ce, .int .i64 c.sl, .int .i64 c.bi, .int .i64 c.ta, .int .i64 c.ba, .int .i64 c.de] 29] W → Calls Try.prog 16 #[.pointer (some ⟨K, 0, none⟩)] W fun e w' => e = .returned (.int .i64 (oneB th sp p).ans) ∧ ∃ v', St w [bgI K A.t ((oneB th sp p).next (z.turn th)), spI A c ((z.turn th).goes (oneB th sp p)) v' (.slice none 0 0), boxI C #[.int .i64 c.ce, .int .i64 c.sl, .int .i64 c.bi, .int .i64 c.ta, .int .i64 c.ba, .int .i64 c.de] 29] w' := by
            intro W hT
            exact bgStep hT 1 0 (by omega) rfl rfl okT (by omega) f1
          have okG := okT.goes (oneB th sp p)
          rw [f3] at hst
          by_cases h4 : p = 4
          · subst h4
            have HN : Hid ((oneB th sp 4).next (z.turn th) = oneB th sp 4 ∧ (z.turn th).goes (oneB th sp 4) = z.turn th) := ⟨rfl, rfl⟩
            rw [show (oneB th sp 4).next (z.turn th) = oneB th sp 4 from rfl, show (z.turn th).goes (oneB th sp 4) = z.turn th from rfl] at hst
            rw [show decide ((4 : Nat) = 4) = true from rfl] at hd
            clear hS
            go_wp2_with (go_at_call 12; refine hd.mono ?_; rintro e wq ⟨rfl, rfl⟩)
            refine ht.mono ?_
            rintro e w4 ⟨rfl, hT⟩
            have hq := hst w4 hT
            clear hst ht hd
            go_wp2_with fail
            refine hq.mono ?_
            rintro e w5 ⟨rfl, v5, h5⟩
            clear hq hT
            have m0 : w5.cell? ⟨A.sp, 0, none⟩ = some (.pointer (some ⟨A.m, 0, none⟩)) := spCell h5 1 rfl 0
            have hdn : Calls Try.prog 22 #[.pointer (some ⟨A.m, 0, none⟩)] w5 fun e w' => e = .returned (.int .i64 0) ∧ w' = w5 := spDone h5 1 rfl
            have HE : Hid (∃ (i' p k : Nat) (z : SSt) (v : Value), i' = i + 1 ∧ p = 4 ∧ i' ≤ 8 + M ∧ p = min i' 4 ∧ k ≤ 2 * i' ∧ z.ok c k ∧ OneZ th sp p z ∧ St w [bgI K A.t (oneB th sp p), spI A c z v (.slice none 0 0), boxI C #[.int .i64 c.ce, .int .i64 c.sl, .int .i64 c.bi, .int .i64 c.ta, .int .i64 c.ba, .int .i64 c.de] 29] w5) := ⟨i + 1, 4, k + 1, z.turn th, v5, rfl, rfl, by omega, by have := HP.out; omega, by omega, okT, ⟨hz.head, hz.len, hz.mo⟩, h5⟩
            clear h5 ok okT okG hz f1 f2 f3 HN
            go_wp2_with (go_at_call 22; refine hdn.mono ?_; rintro e wq ⟨rfl, rfl⟩)
            go_roundw
            case rel =>
              obtain ⟨i', p, k', z', v', rfl, rfl, x1, x2, x3, x4, x5, x6⟩ := HE.out
              exact ⟨i + 1, 4, k', z', v', rfl, by go_num, x1, x2, x3, x4, x5, x6⟩
            case measure => simp [intOf]; omega
          · obtain ⟨g1, g2, g3⟩ := one_step (t := th) hz (by omega) hth hok.2.2
            rw [g2, if_neg h4] at hst
            rw [show decide (p = 4) = false from by simpa using h4] at hd
            clear hS
            go_wp2_with (go_at_call 12; refine hd.mono ?_; rintro e wq ⟨rfl, rfl⟩)
            refine ht.mono ?_
            rintro e w4 ⟨rfl, hT⟩
            have hq := hst w4 hT
            clear hst ht hd
            go_wp2_with fail
            refine hq.mono ?_
            rintro e w5 ⟨rfl, v5, h5⟩
            clear hq hT
            have m0 : w5.cell? ⟨A.sp, 0, none⟩ = some (.pointer (some ⟨A.m, 0, none⟩)) := spCell h5 1 rfl 0
            have hdn := spDone h5 1 rfl
            rw [g3] at hdn
            have HE : Hid (∃ (i' q k : Nat) (z : SSt) (v : Value), i' = i + 1 ∧ q = p + 1 ∧ i' ≤ 8 + M ∧ q = min i' 4 ∧ k ≤ 2 * i' ∧ z.ok c k ∧ OneZ th sp q z ∧ St w [bgI K A.t (oneB th sp q), spI A c z v (.slice none 0 0), boxI C #[.int .i64 c.ce, .int .i64 c.sl, .int .i64 c.bi, .int .i64 c.ta, .int .i64 c.ba, .int .i64 c.de] 29] w5) := ⟨i + 1, p + 1, k + 1 + 1, _, v5, rfl, rfl, by omega, by have := HP.out; omega, by omega, okG, g1, h5⟩
            clear h5 ok okT okG hz f1 f2 f3 g1 g2 g3
            have hp0 : (0 : Int) ≤ (p : Int) := by omega
            have hp3 : (p : Int) < 4 := by omega
            go_wp2_with (go_at_call 22; refine hdn.mono ?_; rintro e wq ⟨rfl, rfl⟩)
            go_roundw
            case rel =>
              obtain ⟨i', q, k', z', v', rfl, rfl, x1, x2, x3, x4, x5, x6⟩ := HE.out
              exact ⟨i + 1, p + 1, k', z', v', by go_num, by go_num, x1, x2, x3, x4, x5, x6⟩
            case measure => simp [intOf]; omega
        · have hlt1 : ¬ (i : Int) < ((8 + M : Nat) : Int) := by omega
          obtain rfl : p = 4 := by have := HP.out; omega
          clear HP
          have hb := bgSlot hS 0 rfl
          rw [show (oneB th sp 4).slotA = 0 from rfl, show (oneB th sp 4).slotB = 1 from rfl, show (oneB th sp 4).slotE = 0 from rfl] at hb
          go_wp2_with fail
          refine hb.mono ?_
          rintro e w6 ⟨rfl, q, rfl⟩
          have s6 := hS.calm ((Kept.refl _ _).drewN q)
          clear hS hb f1 f2 f3
          have m0 : World.cell? _ ⟨A.sp, 0, none⟩ = some (.pointer (some ⟨A.m, 0, none⟩)) := spCell s6 1 rfl 0
          have hq := spLog s6 1 rfl ok (by omega)
          go_wp2_with fail
          refine hq.mono ?_
          rintro e w7 ⟨vl, rfl, s7⟩
          clear hq m0 s6
          have o7 : w7.ownsRow 0 80 6 vl 4 (logCells z.s.l) := hz.len ▸ s7.get 0 rfl
          obtain ⟨pp, cl, rfl, _, _⟩ := o7.form (by simp)
          have m0 : w7.cell? ⟨A.sp, 0, none⟩ = some (.pointer (some ⟨A.m, 0, none⟩)) := spCell s7 2 rfl 0
          have hmo := spMost s7 2 rfl
          rw [hz.mo, if_neg (by omega)] at hmo
          have HK : Hid (Kept (fun _ => False) w w7) := s7.same
          clear s7 o7 ok hz
          go_wp2_with (go_at_call 23; refine hmo.mono ?_; rintro e wq ⟨rfl, rfl⟩)
          go_ret
          exact ⟨rfl, HK.out⟩
    · have hq := bgNew_out (.pointer (some ⟨A.sp, 0, none⟩)) th sp hok w2
      go_wp2_with fail
      refine hq.mono ?_
      rintro e w3 ⟨rfl, rfl⟩
      clear hq
      have m0 : w3.cell? ⟨A.sp, 0, none⟩ = some (.pointer (some ⟨A.m, 0, none⟩)) := spCell h2 0 rfl 0
      have hq := spLog h2 0 rfl OKC (by omega)
      clear h2
      go_wp2_with fail
      refine hq.mono ?_
      rintro e w4 ⟨vl, rfl, s4⟩
      clear hq m0
      have o4 : w4.ownsRow 0 80 6 vl 0 [] := s4.get 0 rfl
      obtain ⟨ga, ca, rfl⟩ := own_shape o4
      have HK : Hid (Kept (fun _ => False) w w4) := s4.same
      clear s4 o4 OKC
      go_wp2
      go_ret
      exact ⟨rfl, HK.out⟩
  · replace hfc : c.fits = false := by simpa using hfc
    have hq : Calls Try.prog 7 #[.agg #[.int .i64 c.ce, .int .i64 c.sl, .int .i64 c.bi, .int .i64 c.ta, .int .i64 c.ba, .int .i64 c.de]] w1 _ := spNew_out c hfc w1
    go_wp2_with fail
    refine hq.mono ?_
    rintro e w2 ⟨rfl, k2⟩
    have HK : Hid (Kept (fun _ => False) w w2) := (h1.calm k2).same
    clear hq c0 c1 c2 c3 c4 c5 h1 k2
    go_wp2
    go_ret
    exact ⟨rfl, HK.out⟩
end Go.Proofs.Ytpjhljfcoejndaa
