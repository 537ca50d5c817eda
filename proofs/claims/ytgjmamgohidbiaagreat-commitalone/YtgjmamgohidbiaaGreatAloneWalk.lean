/- CommitAlone: the walk. -/
import Derived.Test.YtgjmamgohidbiaaGreatAlF
import Derived.BigQuiet
import Derived.Deep.CutBlock
namespace Go.Proofs.YtgjmamgohidbiaaGreat
open Go.RowKit
set_option linter.unusedVariables false
set_option linter.unusedSimpArgs false
attribute [local go_sem ↓] Go.wp_at_zero Go.wp_at_succ
attribute [local go_sem ↓] exec_neSl run_neSl

theorem buildInt (W : World) (a : Int) : (Instr.buildSlice 84 1 #[(0, .int .i64 a)]).run Tryz.prog W = .ok (.slice (some ⟨W.heap.size, 0, none⟩) 1 1) (W.alloc (.cells #[.int .i64 a] 3)) := by kernel_rfl
theorem cesOf_take {ps : List Pr} {k : Nat} (hk : k < ps.length) : cesOf (ps.take (k + 1)) = cesOf (ps.take k) ++ [(ps.getD k Pr.zero).ce] := by
  have e : ps.getD k Pr.zero = ps[k] := by rw [List.getD_eq_getElem?_getD, List.getElem?_eq_getElem hk]; rfl
  rw [List.take_succ_eq_append_getElem hk, e]
  simp only [cesOf, List.map_append, List.map_cons, List.map_nil]
theorem own_ints {W : World} {la : Option Addr} {n lc : Nat} {zs : List Int} (hn : n = zs.length) (h : W.ownsRow 0 3 1 (.slice la n lc) n (clCells zs)) : IntsIn W la n zs := by
  refine ⟨hn, fun h0 => ?_⟩
  rcases h.2 with ⟨e, hn⟩ | ⟨g, cap, cur, e, _⟩
  · omega
  · simp only [Value.slice.injEq] at e
    obtain ⟨rfl, -, -⟩ := e
    refine ⟨g, 0, rfl, fun j hj => ?_⟩
    rw [Nat.zero_add, h.cellAt j (by omega), clCells_at zs j (by omega)]
    rw [List.getD_eq_getElem?_getD, List.getElem?_eq_getElem (by omega)]
    rfl
theorem ofGo_e {n : Int} (hn : 1 ≤ n ∧ n ≤ 128) : ∀ (l : List Int) (s : Sg), (∀ c, c ∈ l → 0 ≤ c ∧ c < 256) → (ofGo n l s).2 = 0
  | [], s, h => rfl
  | c :: l, s, h => by
    unfold ofGo
    have e : hashE c n = 0 := by unfold hashE; rw [if_pos hn, if_pos (h c (by simp))]
    rw [if_pos e]
    exact ofGo_e hn l _ (fun d hd => h d (by simp [hd]))
theorem of_ok {c : Cfg} (hf : c.fits = true) {ps : List Pr} (h : WPart ps) : (ofR (cesOf ps) c.bi).2 = 0 := by
  simp only [Cfg.fits, Bool.and_eq_true, inR_iff] at hf
  unfold ofR
  rw [if_pos ⟨hf.2.2.1.1, hf.2.2.1.2⟩]
  refine ofGo_e ⟨hf.2.2.1.1, hf.2.2.1.2⟩ _ _ (fun d hd => ?_)
  obtain ⟨p, hp, rfl⟩ := List.mem_map.1 hd
  have := h.r p hp
  omega
theorem St.after {o W : World} {l : List It} : ∀ pre : List It, St o (pre ++ l) W → St o l W
  | [], h => h
  | X :: pre, h => St.after pre h.pop
theorem wordR_at {ws : List Int} {n k : Nat} (hk : k < n) : wordR ws n (k : Int) 0 = ws.getD (k * 2) 0 ∧ wordR ws n (k : Int) 1 = ws.getD (k * 2 + 1) 0 := by
  unfold wordR wordAt
  rw [if_pos ⟨by omega, by omega, by omega, by omega⟩, if_pos ⟨by omega, by omega, by omega, by omega⟩]
  exact ⟨rfl, rfl⟩
theorem meets_def (a b : Sg) : (!((a.meet b).same Sg.zero)) = a.meets b := rfl
theorem look_le8 (z : SSt) (h : z.hs.length = 8) : lookN z 0 ≤ 21 := by
  unfold lookN
  have h1 := stepsOf_le z.hs (othersOf z.hs.length 0)
  have h2 : (othersOf z.hs.length 0).length = 7 := by rw [h]; rfl
  omega
theorem vics_le (z : SSt) (wr : Sg) (h : z.hs.length = 8) : (vicsOf z wr 0).length ≤ 7 := by
  have : (vicsOf z wr 0).length ≤ (othersOf z.hs.length 0).length := by unfold vicsOf wantOf; simpa using List.length_filter_le _ _
  have h2 : (othersOf z.hs.length 0).length = 7 := by rw [h]; rfl
  omega
theorem storeX_len' (xs : List Int) (k x : Int) : (storeX xs k x).length = xs.length := by
  unfold storeX
  split <;> simp
theorem putL_len : ∀ (l : List Pr) {xs : List Int}, xs.length = 64 → (putL xs l).length = 64
  | [], _, h => h
  | p :: l, xs, h => putL_len l (xs := storeX xs p.ce p.x) (by rw [storeX_len']; exact h)
theorem own_some {o w : World} {its : List It} (h : St o its w) (i : Nat) {e : TypeId} {z g n cap : Nat} {xs : List Value} (hi : its[i]? = some (ownI e z (.slice (some ⟨g, 0, none⟩) n cap) n xs)) {j : Nat} (hj : j < n * z) : ∃ u, w.cell? ⟨g, j, none⟩ = some u := by
  have h1 := h.ownCell i hi j hj
  have h2 : w.ownsRow 0 e z (.slice (some ⟨g, 0, none⟩) n cap) n xs := h.get i hi
  rw [List.getElem?_eq_getElem (by rw [h2.1]; exact hj)] at h1
  exact ⟨_, h1⟩
/-- How often it has waited; what a step answers. -/
def wtOf (L : Nat) (e : Int) (j : Nat) : Int := if 2 + L < j ∧ e = 9 then 1 else 0
def anOf (L : Nat) (e : Int) (j : Nat) : Int := if j = 2 + L ∧ e = 9 then 2 else 1
theorem wt_step (L : Nat) (e : Int) (j : Nat) : (anOf L e j = 2 ∧ wtOf L e j = 0 ∧ wtOf L e (j + 1) = 1) ∨ (anOf L e j = 1 ∧ wtOf L e (j + 1) = wtOf L e j) := by
  unfold anOf wtOf
  by_cases h : j = 2 + L ∧ e = 9
  · left
    exact ⟨if_pos h, if_neg (by omega), if_pos ⟨by omega, h.2⟩⟩
  · right
    refine ⟨if_neg h, ?_⟩
    by_cases h2 : 2 + L < j ∧ e = 9
    · rw [if_pos h2, if_pos ⟨by omega, h2.2⟩]
    · rw [if_neg h2, if_neg (fun e => by omega)]
theorem slot_cells8 {o w : World} {its : List It} (h : St o its w) (i : Nat) {g cap : Nat} {hs : List Hd} {ws : List Int} (h8 : hs.length = 8) (hw : ws.length = 16) (hi : its[i]? = some (ownI 101 8 (.slice (some ⟨g, 0, none⟩) 8 cap) 8 (slCells (slots hs ws)))) {k : Nat} (hk : k < 8) :
    w.cell? ⟨g, k * 8, none⟩ = some (.int .i64 (hs.getD k Hd.zero).gn) ∧ w.cell? ⟨g, k * 8 + 1, none⟩ = some (.int .i64 (hs.getD k Hd.zero).sa) ∧ w.cell? ⟨g, k * 8 + 2, none⟩ = some (.int .i64 (hs.getD k Hd.zero).sp) ∧ w.cell? ⟨g, k * 8 + 3, none⟩ = some (.int .i64 (hs.getD k Hd.zero).th) ∧ w.cell? ⟨g, k * 8 + 4, none⟩ = some (.bool (hs.getD k Hd.zero).dm) ∧ w.cell? ⟨g, k * 8 + 5, none⟩ = some (.int .i64 (hs.getD k Hd.zero).wy) ∧ w.cell? ⟨g, k * 8 + 6, none⟩ = some (.int .u64 (ws.getD (k * 2) 0)) ∧ w.cell? ⟨g, k * 8 + 7, none⟩ = some (.int .u64 (ws.getD (k * 2 + 1) 0)) := by
  have key : ∀ m, m = hs.length → its[i]? = some (ownI 101 8 (.slice (some ⟨g, 0, none⟩) m cap) m (slCells (slots hs ws))) → _ := fun m hm hi => by subst hm; exact slot_cells h i hi (by omega) (k := k) (by omega)
  exact key 8 h8.symm hi
/-- What there is ahead of the commit. -/
structure AF (c : Cfg) (z : SSt) : Prop where
  live : LiveOk c
  sl : c.sl = 8
  ok : z.ok c 40
  hl : z.hs.length = 8
  xl : z.xs.length = 64
  x : z.x = ⟨0, 0⟩
  mine : (nowAt z.hs 0).mine 1 = true
  ws : WsOk z.ws
  ck : ∀ ps, WPart ps → ps ≠ [] → ckE c (0 : Nat) 1 5 ps = 0
theorem af_seats (tag bits bias most : Int) (f : Nat → SeD) {n : Nat} (hn : n ≤ 7) (hf : ∀ i, i < n → (f i).w_0 < 18446744073709551616 ∧ (f i).w_1 < 18446744073709551616) : AF (cfgOf tag bits bias most) (seatsZ (liveZ (cfgOf tag bits bias most)) f n) := by
  have hl : LiveOk (cfgOf tag bits bias most) := cfgOf_live ..
  have ok := seatsZ_ok hl.ok f n
  refine ⟨hl, rfl, ok.more (by omega), ?_, ?_, (seatsZ_rest _ _ _).1, ?_, seatsZ_wok (WsOk.rep 16) f n hf, fun ps h h0 => h.ck h0 _ _ _ _⟩
  · have := ok.hl
    have h2 : (cfgOf tag bits bias most).sl = 8 := rfl
    omega
  · have := ok.cl
    have h2 : (cfgOf tag bits bias most).ce = 64 := rfl
    omega
  · rw [seatsZ_own]; rfl

set_option maxRecDepth 100000 in
set_option maxHeartbeats 8000000 in
theorem alone_walk (tag bw bias most : Int) (la : Option Addr) (n lc : Nat) (zs : List Pr) {sa : Option Addr} {sl sc : Nat} {f : Nat → SeD} (w : World) (hP : PIn w la n zs) (hn : n ≤ 8796093022208) (hf : SesAt w sa sl f) :
    Calls Tryz.prog 4 #[.int .i64 tag, .int .i64 bw, .int .i64 bias, .int .i64 most, .slice la n lc, .slice sa sl sc] w fun e w' => e = .returned (.bool true) ∧ Kept (fun _ => False) w w' := by
  obtain ⟨i0, hi0, hz0, hz1, hz2⟩ := info_parts Tryz.infoInt
  obtain ⟨i1, hi1, hy0, hy1, hy2⟩ := info_parts Tryz.infoVt
  have HP : Hid (PIn w la n zs) := hP
  have HSW : Hid (∀ i, i < min sl 7 → (f i).w_0 < 18446744073709551616 ∧ (f i).w_1 < 18446744073709551616) := fun i hi => by
    rcases hf with h | ⟨b, off, _, hat⟩
    · omega
    · exact ⟨(hat i (by omega)).r_w_0, (hat i (by omega)).r_w_1⟩
  have HSF : Hid (∀ W, Kept (fun _ => False) w W → SesAt W sa sl f) := fun W kk => by
    rcases hf with h | ⟨b, off, e, hat⟩
    · exact .inl h
    · exact .inr ⟨b, off, e, fun i hi => (hat i hi).kept kk⟩
  clear hP hf
  have hq := up_any w
  go_enter Tryz.func4, Tryz.ntmps4
  go_wp2_with fail
  refine hq.mono ?_
  rintro e w1 ⟨rfl, k1⟩
  have s1 := (St.nil w).calm k1
  clear hq k1
  have hq := config_any tag bw bias most w1
  obtain ⟨c, hc⟩ : ∃ c, c = cfgOf tag bw bias most := ⟨_, rfl⟩
  have HAF : Hid (AF c (seatsZ (liveZ c) f (min sl 7))) := by rw [hc]; exact af_seats tag bw bias most f (by omega) HSW.out
  rw [← hc] at hq
  clear hc HSW
  unfold Cfg.val at hq
  go_wp2_with fail
  refine hq.mono ?_
  rintro e w2 ⟨rfl, k2⟩
  have s2 := (s1.calm k2).box #[.int .i64 c.ce, .int .i64 c.sl, .int .i64 c.bi, .int .i64 c.ta, .int .i64 c.ba, .int .i64 c.de] 23
  clear hq k2 s1
  go_upto_region 3 with fail
  generalize w2.alloc (.cells #[.int .i64 c.ce, .int .i64 c.sl, .int .i64 c.bi, .int .i64 c.ta, .int .i64 c.ba, .int .i64 c.de] 23) = w3 at *
  generalize w2.heap.size = M at *
  have c0 : w3.cell? ⟨M, 0, none⟩ = some (.int .i64 c.ce) := s2.cell 0 rfl 0
  have c1 : w3.cell? ⟨M, 1, none⟩ = some (.int .i64 c.sl) := s2.cell 0 rfl 1
  have c2 : w3.cell? ⟨M, 2, none⟩ = some (.int .i64 c.bi) := s2.cell 0 rfl 2
  have c3 : w3.cell? ⟨M, 3, none⟩ = some (.int .i64 c.ta) := s2.cell 0 rfl 3
  have c4 : w3.cell? ⟨M, 4, none⟩ = some (.int .i64 c.ba) := s2.cell 0 rfl 4
  have c5 : w3.cell? ⟨M, 5, none⟩ = some (.int .i64 c.de) := s2.cell 0 rfl 5
  have hq := lives_st s2 HAF.out.live
  unfold Cfg.val at hq
  clear s2
  go_wp2_with fail
  refine hq.mono ?_
  rintro e w4 ⟨A, J, v4, rfl, s4⟩
  clear hq c0 c1 c2 c3 c4 c5
  unfold spp
  have hq := seats_st (cap := sc) s4 1 rfl HAF.out.live.ok (by omega) HAF.out.sl (a := sa) (len := sl) (f := f) (fun z' v' W hW => HSF.out W hW.same)
  unfold spp at hq
  clear s4 HSF
  go_wp2_with fail
  refine hq.mono ?_
  rintro e w6 ⟨rfl, v6, s6'⟩
  clear hq
  obtain ⟨z0, hz0'⟩ : ∃ z0, z0 = seatsZ (liveZ c) f (min sl 7) := ⟨_, rfl⟩
  have s6 : St w [boxI J (jd c 0) 146, spI A c z0 v6 (.slice none 0 0), boxI M #[.int .i64 c.ce, .int .i64 c.sl, .int .i64 c.bi, .int .i64 c.ta, .int .i64 c.ba, .int .i64 c.de] 23] w6 := by rw [hz0']; exact s6'
  rw [← hz0'] at HAF
  clear s6' hz0'
  have hq := writes_any la n lc zs w6 (HP.out.kept s6.same) hn
  go_wp2_with fail
  refine hq.mono ?_
  rintro e w7 ⟨vp, ps, rfl, hW, hp0, t7⟩
  have s7 := s6.add t7
  clear hq s6 t7 HP
  have HW : Hid (WPart ps) := hW
  have HP0 : Hid (ps ≠ []) := hp0
  obtain ⟨gw, cw, rfl⟩ := s7.form 0 rfl (List.length_pos_iff.2 hp0)
  have hl16 : ps.length ≤ 16 := hW.n
  have hpos : 0 < ps.length := List.length_pos_iff.2 hp0
  have HPW : Hid (∀ (its : List It) (i : Nat) (W : World), its[i]? = some (ownI 59 2 (.slice (some ⟨gw, 0, none⟩) ps.length cw) ps.length (prCells ps)) → St w its W → PIn W (some ⟨gw, 0, none⟩) ps.length ps) := by
    intro its i W hi hW
    obtain ⟨la', lc', e', hP, _⟩ := own_pin (show W.ownsRow 0 59 2 (.slice (some ⟨gw, 0, none⟩) ps.length cw) ps.length (prCells ps) from hW.get i hi)
    simp only [Value.slice.injEq, true_and] at e'
    obtain ⟨rfl, -⟩ := e'
    exact hP
  clear hW hp0
  have s8 := s7.own (Kept.refl _ w7) (World.ownsRow_nil w7 w7.heap.size 3 1)
  clear s7
  go_wp2_with fail
  go_loopw [19, 20] (fun v i wr => ∃ k : Nat, i = .int .i64 k ∧ k ≤ ps.length ∧ St w [ownI 3 1 v k (clCells (cesOf (ps.take k))), ownI 59 2 (.slice (some ⟨gw, 0, none⟩) ps.length cw) ps.length (prCells ps), boxI J (jd c 0) 146, spI A c z0 v6 (.slice none 0 0), boxI M #[.int .i64 c.ce, .int .i64 c.sl, .int .i64 c.bi, .int .i64 c.ta, .int .i64 c.ba, .int .i64 c.de] 23] wr) (fun _ i _ => ps.length - (intOf i).toNat)
  case atStart => exact ⟨0, rfl, Nat.zero_le _, s8⟩
  case round =>
    clear s8
    obtain ⟨k, rfl, hk, hS⟩ := hrel
    obtain ⟨la', lc', hv⟩ := own_form (n := k) (hS.get 0 rfl)
    subst hv
    have hk0 : (0 : Int) ≤ (k : Int) := by omega
    by_cases hlt : k < ps.length
    · as_aux_lemma =>
        have h1 : (k : Int) < (ps.length : Int) := by omega
        obtain ⟨p0, p1⟩ := (HPW.out _ 1 wr rfl hS).cells hlt
        simp only [Nat.zero_add] at p0 p1
        have HCE := cesOf_take hlt
        generalize (ps.getD k Pr.zero).ce = ce at *
        have hbs := buildInt wr ce
        have ho : wr.ownsRow 0 3 1 (.slice la' k lc') k (clCells (cesOf (ps.take k))) := hS.get 0 rfl
        have HS2 : Hid _ := hS
        clear hS p1
        generalize hPC : cesOf (ps.take k) = PC at *
        have HPC : Hid (cesOf (ps.take (k + 1)) = PC ++ [ce]) := HCE
        clear hPC HCE
        generalize hCC : clCells PC = CC at *
        have HCC : Hid (CC = clCells PC) := hCC.symm
        clear hCC
        go_wp2_with (at_builtin; refine wpList_append_lies _ rfl (.tmp 69) (.tmp 75) 84 rfl 0 3 i0 _ 1 8 Tryz.underlying84 hi0 hz0 hz1 hz2 rfl (by omega) _ k CC rfl (ho.alloc _) ⟨wr.heap.size, 0, none⟩ 1 1 [.int .i64 ce] rfl (by simp) (World.news_of_block (cs := #[.int .i64 ce]) (t := 3) (fr := (0, 0)) (heap_alloc_new wr _)) (by simp [Value.oneCell']) (by omega) (by unfold maxLen; omega) (by omega) (Nat.zero_le _) (wr.heap.size + 1) (by simp) ?_; intro g2 cap2 w5 hown5 hgrow hat hlt5)
        go_roundw
        case rel =>
          refine ⟨k + 1, by go_num, hlt, ?_⟩
          have s3 := HS2.out.growAt 0 rfl hown5 hgrow hat
          rw [HPC.out]
          have e : clCells (PC ++ [ce]) = CC ++ [.int .i64 ce] := by rw [HCC.out]; simp [clCells]
          rw [e]
          exact s3
        case measure => simp [intOf]; omega
    · obtain rfl : ps.length = k := by omega
      have h1 : ¬ (ps.length : Int) < (ps.length : Int) := by omega
      rw [List.take_length] at hS
      obtain ⟨w9, hw9⟩ : ∃ y, y = wr := ⟨_, rfl⟩
      subst hw9
      have hII : IntsIn w9 la' ps.length (cesOf ps) := own_ints (by simp [cesOf]) (hS.get 0 rfl)
      have hq := of_any la' ps.length lc' (cesOf ps) c.bi w9 hII (by omega)
      have hck := HAF.out.ck ps HW.out HP0.out
      have hofe : (ofR (cesOf ps) c.bi).2 = 0 := of_ok HAF.out.live.f HW.out
      rw [hofe] at hq
      have HWO : Hid ((ofR (cesOf ps) c.bi).1.ok) := ofR_ok _ _
      obtain ⟨WS, hWS⟩ : ∃ WS, WS = (ofR (cesOf ps) c.bi).1 := ⟨_, rfl⟩
      have HWS : Hid (WS = (ofR (cesOf ps) c.bi).1) := hWS
      rw [← hWS] at hq HWO
      clear hWS hofe hII
      unfold Sg.val at hq
      have m2 : w9.cell? ⟨M, 2, none⟩ = some (.int .i64 c.bi) := hS.cell 4 rfl 2
      go_wp2_with fail
      refine hq.mono ?_
      rintro e w10 ⟨rfl, k10⟩
      have s10 := (hS.pop.calm k10).box #[.int .u64 WS.lo, .int .u64 WS.hi] 87
      clear hq k10 hS m2
      go_upto_region 14 with fail
      generalize w10.alloc (.cells #[.int .u64 WS.lo, .int .u64 WS.hi] 87) = w11 at *
      generalize w10.heap.size = F at *
      have hl8 : (z0.hs.length : Int) = c.sl := by rw [HAF.out.hl, HAF.out.sl]; rfl
      have hq := cmNew_st s10 3 rfl HAF.out.live.f hl8 J 0 1 1 5 (some ⟨gw, 0, none⟩) ps.length cw ps (fun W hW => HPW.out _ 1 W rfl hW) (by omega) hck
      unfold spp at hq
      rw [HAF.out.hl, ← HWS.out] at hq
      have HFX : Hid ((Cm.new 0 1 1 5 ps WS 8).fit 8) := Cm.fit_new (ge := 1) hck HWO.out (n := 8) (Nat.le_refl _) (by rw [HAF.out.sl]; rfl)
      clear s10 hl8 hck
      go_wp2_with fail
      refine hq.mono ?_
      rintro e w12 ⟨B, vl, dl, dv, rfl, hBJ, s12⟩
      subst hBJ
      clear hq
      have hok := HAF.out.ok
      have hq := spView s12 4 rfl hok.wl hok.h1 hok.h8
      rw [HAF.out.x] at hq
      simp only at hq
      unfold spp at hq
      clear s12 hok
      go_wp2_with fail
      refine hq.mono ?_
      rintro e w13 ⟨va, vb, rfl, s13⟩
      clear hq
      obtain ⟨qa, ca2, rfl⟩ := s13.form 0 rfl (by rw [HAF.out.xl]; decide)
      obtain ⟨qb, cb2, rfl⟩ := s13.form 1 rfl (by rw [HAF.out.hl]; decide)
      rw [HAF.out.xl, HAF.out.hl] at s13 ⊢
      have s14 := s13.box #[.slice (some ⟨qa, 0, none⟩) 64 ca2, .int .i64 0, .int .i64 0, .slice (some ⟨qb, 0, none⟩) 8 cb2] 95
      clear s13
      go_upto_region 18 with fail
      generalize w13.alloc (.cells #[.slice (some ⟨qa, 0, none⟩) 64 ca2, .int .i64 0, .int .i64 0, .slice (some ⟨qb, 0, none⟩) 8 cb2] 95) = w14 at *
      generalize w13.heap.size = V at *
      obtain ⟨LL, hLL⟩ : ∃ LL : List It, LL = [boxI V #[.slice (some ⟨qa, 0, none⟩) 64 ca2, .int .i64 0, .int .i64 0, .slice (some ⟨qb, 0, none⟩) 8 cb2] 95, ownI 2 1 (.slice (some ⟨qa, 0, none⟩) 64 ca2) 64 (clCells z0.xs), ownI 101 8 (.slice (some ⟨qb, 0, none⟩) 8 cb2) 8 (slCells (slots z0.hs z0.ws)), cmI A B 0 (Cm.new 0 1 1 5 ps WS 8) vl (.slice none 0 0) (.slice none 0 0) dl dv, boxI F #[.int .u64 WS.lo, .int .u64 WS.hi] 87, ownI 59 2 (.slice (some ⟨gw, 0, none⟩) ps.length cw) ps.length (prCells ps), boxI B.J (jd c 0) 146, spI A c z0 v6 (.slice none 0 0), boxI M #[.int .i64 c.ce, .int .i64 c.sl, .int .i64 c.bi, .int .i64 c.ta, .int .i64 c.ba, .int .i64 c.de] 23] := ⟨_, rfl⟩
      have s15 : St w LL w14 := by rw [hLL]; exact s14
      clear s14
      have HLL : Hid (LL = [boxI V #[.slice (some ⟨qa, 0, none⟩) 64 ca2, .int .i64 0, .int .i64 0, .slice (some ⟨qb, 0, none⟩) 8 cb2] 95, ownI 2 1 (.slice (some ⟨qa, 0, none⟩) 64 ca2) 64 (clCells z0.xs), ownI 101 8 (.slice (some ⟨qb, 0, none⟩) 8 cb2) 8 (slCells (slots z0.hs z0.ws)), cmI A B 0 (Cm.new 0 1 1 5 ps WS 8) vl (.slice none 0 0) (.slice none 0 0) dl dv, boxI F #[.int .u64 WS.lo, .int .u64 WS.hi] 87, ownI 59 2 (.slice (some ⟨gw, 0, none⟩) ps.length cw) ps.length (prCells ps), boxI B.J (jd c 0) 146, spI A c z0 v6 (.slice none 0 0), boxI M #[.int .i64 c.ce, .int .i64 c.sl, .int .i64 c.bi, .int .i64 c.ta, .int .i64 c.ba, .int .i64 c.de] 23]) := hLL
      have HCL : Hid (∀ (pre : List It) (W : World), St w (pre ++ LL) W → W.cell? ⟨V, 3, none⟩ = some (.slice (some ⟨qb, 0, none⟩) 8 cb2) ∧ W.cell? ⟨F, 0, none⟩ = some (.int .u64 WS.lo) ∧ W.cell? ⟨F, 1, none⟩ = some (.int .u64 WS.hi) ∧ ∀ p, p < 8 → ∃ x0 x1 : Nat, x0 < 18446744073709551616 ∧ x1 < 18446744073709551616 ∧ sgAt z0.hs z0.ws p = ⟨x0, x1⟩ ∧ (W.cell? ⟨qb, p * 8, none⟩ = some (.int .i64 (nowAt z0.hs p).gn) ∧ W.cell? ⟨qb, p * 8 + 1, none⟩ = some (.int .i64 (nowAt z0.hs p).sa) ∧ W.cell? ⟨qb, p * 8 + 2, none⟩ = some (.int .i64 (nowAt z0.hs p).sp) ∧ W.cell? ⟨qb, p * 8 + 3, none⟩ = some (.int .i64 (nowAt z0.hs p).th) ∧ W.cell? ⟨qb, p * 8 + 4, none⟩ = some (.bool (nowAt z0.hs p).dm) ∧ W.cell? ⟨qb, p * 8 + 5, none⟩ = some (.int .i64 (nowAt z0.hs p).wy) ∧ W.cell? ⟨qb, p * 8 + 6, none⟩ = some (.int .u64 (x0 : Nat)) ∧ W.cell? ⟨qb, p * 8 + 7, none⟩ = some (.int .u64 (x1 : Nat)))) := by
        intro pre W s0
        have s := St.after pre s0
        rw [hLL] at s
        refine ⟨s.cell 0 rfl 3, s.cell 4 rfl 0, s.cell 4 rfl 1, fun p hp => ?_⟩
        have hp' : p < z0.hs.length := by rw [HAF.out.hl]; exact hp
        obtain ⟨y0, y1⟩ := wordR_at (ws := z0.ws) hp'
        obtain ⟨x0, hx0, hx0'⟩ := HAF.out.ws.word z0.hs.length p 0
        obtain ⟨x1, hx1, hx1'⟩ := HAF.out.ws.word z0.hs.length p 1
        refine ⟨x0, x1, hx0', hx1', ?_, ?_⟩
        · unfold sgAt; rw [hx0, hx1]; simp
        · rw [nowAt_in hp', ← hx0, ← hx1, y0, y1]
          have hsc : ∀ m, m = z0.hs.length → St w [boxI V #[.slice (some ⟨qa, 0, none⟩) 64 ca2, .int .i64 0, .int .i64 0, .slice (some ⟨qb, 0, none⟩) 8 cb2] 95, ownI 2 1 (.slice (some ⟨qa, 0, none⟩) 64 ca2) 64 (clCells z0.xs), ownI 101 8 (.slice (some ⟨qb, 0, none⟩) m cb2) m (slCells (slots z0.hs z0.ws)), cmI A B 0 (Cm.new 0 1 1 5 ps WS 8) vl (.slice none 0 0) (.slice none 0 0) dl dv, boxI F #[.int .u64 WS.lo, .int .u64 WS.hi] 87, ownI 59 2 (.slice (some ⟨gw, 0, none⟩) ps.length cw) ps.length (prCells ps), boxI B.J (jd c 0) 146, spI A c z0 v6 (.slice none 0 0), boxI M #[.int .i64 c.ce, .int .i64 c.sl, .int .i64 c.bi, .int .i64 c.ta, .int .i64 c.ba, .int .i64 c.de] 23] W → _ := fun m hm s => by subst hm; exact slot_cells s 2 rfl HAF.out.ok.wl hp'
          exact hsc 8 HAF.out.hl.symm s
      clear hLL
      have HOB : Hid (∀ j, 1 ≤ j → othersBelow 0 (j + 1) = othersBelow 0 j ++ [j]) := fun j hj => by
        rw [othersBelow_succ, if_pos (by simp; omega)]
      have HOL : Hid (∀ j, (othersBelow 0 j).length ≤ j) := othersBelow_le 0
      have s16 := s15.own (Kept.refl _ w14) (World.ownsRow_nil w14 w14.heap.size 104 4)
      clear s15
      go_wp2_with fail
      go_loopw [26, 27, 28] (fun x st i wr => ∃ j : Nat, 1 ≤ j ∧ j ≤ 8 ∧ i = .int .i64 j ∧ st = .int .i64 (2 + ((stepsOf z0.hs (othersBelow 0 j) : Nat) : Int)) ∧ St w (ownI 104 4 x (wantOf z0.hs z0.ws WS (othersBelow 0 j)).length (vtCells (wantOf z0.hs z0.ws WS (othersBelow 0 j))) :: LL) wr) (fun _ _ i _ => 8 - (intOf i).toNat)
      case atStart => exact ⟨1, by omega, by omega, rfl, rfl, s16⟩
      case round =>
        clear s16
        obtain ⟨j, hj1, hj8, rfl, rfl, hS⟩ := hrel
        have hj0 : (0 : Int) ≤ (j : Int) := by omega
        obtain ⟨va, vc, hv⟩ := own_form (n := (wantOf z0.hs z0.ws WS (othersBelow 0 j)).length) (hS.get 0 rfl)
        subst hv
        have hsl := stepsOf_le z0.hs (othersBelow 0 j)
        have hol := HOL.out j
        by_cases hlt : j < 8
        · have h1 : (j : Int) < 8 := by omega
          obtain ⟨b3, f0, f1, hsl8⟩ := HCL.out [_] wr hS
          obtain ⟨x0, x1, hx0, hx1, hsg, c0, c1, c2, c3, c4, c5, c6, c7⟩ := hsl8 j hlt
          clear hsl8
          have hwl : (wantOf z0.hs z0.ws WS (othersBelow 0 j)).length ≤ 8 := by
            have : (wantOf z0.hs z0.ws WS (othersBelow 0 j)).length ≤ (othersBelow 0 j).length := by unfold wantOf; simpa using List.length_filter_le _ _
            omega
          have HS1 : Hid (stepsOf z0.hs (othersBelow 0 (j + 1)) = stepsOf z0.hs (othersBelow 0 j) + (if (nowAt z0.hs j).lives then 3 else 1)) := by
            show _ = _
            rw [HOB.out j hj1, stepsOf_append]
            simp only [stepsOf, costOf]
            omega
          have HW1 : Hid (wantOf z0.hs z0.ws WS (othersBelow 0 (j + 1)) = wantOf z0.hs z0.ws WS (othersBelow 0 j) ++ (if ((nowAt z0.hs j).lives && (⟨x0, x1⟩ : Sg).meets WS) then [⟨j, (nowAt z0.hs j).gn, (nowAt z0.hs j).sp, (nowAt z0.hs j).th⟩] else [])) := by
            show _ = _
            rw [HOB.out j hj1, wantOf_append]
            congr 1
            have e : isVic z0.hs z0.ws WS j = ((nowAt z0.hs j).lives && (⟨x0, x1⟩ : Sg).meets WS) := by unfold isVic; rw [hsg]
            unfold wantOf
            rw [← e]
            cases hv : isVic z0.hs z0.ws WS j <;> simp [hv, vicOf]
          have hs0 : (0 : Int) ≤ ((stepsOf z0.hs (othersBelow 0 j) : Nat) : Int) := by omega
          have hs1 : ((stepsOf z0.hs (othersBelow 0 j) : Nat) : Int) ≤ 24 := by omega
          have HSG : Hid (sgAt z0.hs z0.ws j = ⟨x0, x1⟩) := hsg
          clear hsg hsl hol
          generalize nowAt z0.hs j = HD at *
          obtain ⟨hg, hsa, hp, ht, hdm, hb⟩ := HD
          simp only at c0 c1 c2 c3 c4 c5
          generalize hST : stepsOf z0.hs (othersBelow 0 j) = ST at *
          generalize hWN : wantOf z0.hs z0.ws WS (othersBelow 0 j) = WN at *
          clear hST hWN
          have s17 := hS.box #[.int .i64 hg, .int .i64 hsa, .int .i64 hp, .int .i64 ht, .bool hdm, .int .i64 hb] 99
          clear hS
          go_upto_region 25 with fail
          generalize wr.alloc (.cells #[.int .i64 hg, .int .i64 hsa, .int .i64 hp, .int .i64 ht, .bool hdm, .int .i64 hb] 99) = w17 at *
          generalize wr.heap.size = H at *
          clear b3 f0 f1 c0 c1 c2 c3 c4 c5 c6 c7
          have m0 : w17.cell? ⟨H, 0, none⟩ = some (.int .i64 hg) := s17.cell 0 rfl 0
          have m1 : w17.cell? ⟨H, 1, none⟩ = some (.int .i64 hsa) := s17.cell 0 rfl 1
          have m4 : w17.cell? ⟨H, 4, none⟩ = some (.bool hdm) := s17.cell 0 rfl 4
          cases h2 : hsa == 2 with
          | false =>
            as_aux_lemma =>
              have hlv : Hd.lives ⟨hg, hsa, hp, ht, hdm, hb⟩ = false := by simp [Hd.lives, h2]
              rw [hlv] at HS1 HW1
              have HE : Hid _ := s17.pop
              clear s17 hlv
              go_wp2_with fail
              go_roundw
              case rel =>
                refine ⟨j + 1, by omega, by omega, by go_num, ?_, ?_⟩
                · rw [HS1.out]; simp only [Bool.false_eq_true, if_false]; push_cast; congr 1; try omega
                · rw [HW1.out]; simp only [Bool.false_and, Bool.false_eq_true, if_false, List.append_nil]; exact HE.out
              case measure => simp [intOf]; omega
          | true =>
            cases hdm with
            | true =>
              as_aux_lemma =>
                have hlv : Hd.lives ⟨hg, hsa, hp, ht, true, hb⟩ = false := by simp [Hd.lives]
                rw [hlv] at HS1 HW1
                have HE : Hid _ := s17.pop
                clear s17 hlv
                go_wp2_with fail
                go_roundw
                case rel =>
                  refine ⟨j + 1, by omega, by omega, by go_num, ?_, ?_⟩
                  · rw [HS1.out]; simp only [Bool.false_eq_true, if_false]; push_cast; congr 1; try omega
                  · rw [HW1.out]; simp only [Bool.false_and, Bool.false_eq_true, if_false, List.append_nil]; exact HE.out
                case measure => simp [intOf]; omega
            | false =>
              have hlv : Hd.lives ⟨hg, hsa, hp, ht, false, hb⟩ = true := by simp [Hd.lives, h2]
              rw [hlv] at HS1 HW1
              obtain ⟨PP, hPd⟩ : ∃ PP : World → Prop, PP = fun W => St w (boxI H #[.int .i64 hg, .int .i64 hsa, .int .i64 hp, .int .i64 ht, .bool false, .int .i64 hb] 99 :: ownI 104 4 (.slice va WN.length vc) WN.length (vtCells WN) :: LL) W := ⟨_, rfl⟩
              have hD : PP w17.drew := by rw [hPd]; exact s17.drew
              have CH : Hid (∀ W, PP W → W.cell? ⟨V, 3, none⟩ = some (.slice (some ⟨qb, 0, none⟩) 8 cb2) ∧ W.cell? ⟨qb, j * 8 + 6, none⟩ = some (.int .u64 (x0 : Nat)) ∧ W.cell? ⟨qb, j * 8 + 7, none⟩ = some (.int .u64 (x1 : Nat)) ∧ W.cell? ⟨F, 0, none⟩ = some (.int .u64 WS.lo) ∧ W.cell? ⟨F, 1, none⟩ = some (.int .u64 WS.hi) ∧ PP W) := by
                intro W hW
                have h' := hW
                rw [hPd] at h'
                obtain ⟨b3, f0, f1, hsl8⟩ := HCL.out [_, _] W h'
                obtain ⟨y0, y1, _, _, e1, _, _, _, _, _, _, c6, c7⟩ := hsl8 j hlt
                have e2 : (⟨y0, y1⟩ : Sg) = ⟨x0, x1⟩ := e1.symm.trans HSG.out
                simp only [Sg.mk.injEq] at e2
                rw [e2.1] at c6
                rw [e2.2] at c7
                exact ⟨b3, c6, c7, f0, f1, hW⟩
              have CC : Hid (∀ W, PP W → Calls Tryz.prog 30 #[.agg #[.int .u64 (x0 : Nat), .int .u64 (x1 : Nat)], .agg #[.int .u64 WS.lo, .int .u64 WS.hi]] W fun e w' => e = .returned (.bool ((⟨x0, x1⟩ : Sg).meets WS)) ∧ PP w') := by
                intro W hW
                refine (sigMeets_any ⟨x0, x1⟩ WS ⟨hx0, hx1⟩ HWO.out W).mono ?_
                rintro e w' ⟨he, hk⟩
                refine ⟨he, ?_⟩
                rw [hPd] at hW ⊢
                exact hW.calm hk
              have HPD : Hid (∀ W, PP W → St w (boxI H #[.int .i64 hg, .int .i64 hsa, .int .i64 hp, .int .i64 ht, .bool false, .int .i64 hb] 99 :: ownI 104 4 (.slice va WN.length vc) WN.length (vtCells WN) :: LL) W) := fun W hW => by rw [hPd] at hW; exact hW
              have HWLEN : Hid (WN.length ≤ 8) := hwl
              clear hPd s17 hlv
              generalize hmt : (⟨x0, x1⟩ : Sg).meets WS = mt at *
              clear hmt
              obtain ⟨b3, c6, c7, f0, f1, _⟩ := CH.out _ hD
              go_upto_region 27 with fail
              cases mt with
              | false =>
                as_aux_lemma =>
                  go_region_held3 (fun W => W.cell? ⟨V, 3, none⟩ = some (.slice (some ⟨qb, 0, none⟩) 8 cb2) ∧ W.cell? ⟨qb, j * 8 + 6, none⟩ = some (.int .u64 (x0 : Nat)) ∧ W.cell? ⟨qb, j * 8 + 7, none⟩ = some (.int .u64 (x1 : Nat)) ∧ W.cell? ⟨F, 0, none⟩ = some (.int .u64 WS.lo) ∧ W.cell? ⟨F, 1, none⟩ = some (.int .u64 WS.hi) ∧ PP W)
                    (exact CH.out _ hD)
                    (first | (go_at_call 30; refine (CC.out _ hD).mono ?_; rintro e wx ⟨rfl, hD⟩))
                  have HE : Hid _ := (HPD.out _ hD).pop
                  clear CH CC HPD b3 c6 c7 f0 f1 hD
                  go_wp2_with fail
                  go_roundw
                  case rel =>
                    refine ⟨j + 1, by omega, by omega, by go_num, ?_, ?_⟩
                    · rw [HS1.out]; simp only [if_true]; push_cast; congr 1; try omega
                    · rw [HW1.out]; simp only [Bool.and_false, Bool.false_eq_true, if_false, List.append_nil]; exact HE.out
                  case measure => simp [intOf]; omega
              | true =>
                as_aux_lemma =>
                  go_region_held3 (fun W => W.cell? ⟨V, 3, none⟩ = some (.slice (some ⟨qb, 0, none⟩) 8 cb2) ∧ W.cell? ⟨qb, j * 8 + 6, none⟩ = some (.int .u64 (x0 : Nat)) ∧ W.cell? ⟨qb, j * 8 + 7, none⟩ = some (.int .u64 (x1 : Nat)) ∧ W.cell? ⟨F, 0, none⟩ = some (.int .u64 WS.lo) ∧ W.cell? ⟨F, 1, none⟩ = some (.int .u64 WS.hi) ∧ PP W)
                    (exact CH.out _ hD)
                    (first | (go_at_call 30; refine (CC.out _ hD).mono ?_; rintro e wx ⟨rfl, hD⟩))
                  have s18 := HPD.out _ hD
                  clear CH CC HPD b3 c6 c7 f0 f1 m0 m1 m4 hD
                  obtain ⟨w18, hw18⟩ : ∃ y, y = wx := ⟨_, rfl⟩
                  subst hw18
                  have m0 : w18.cell? ⟨H, 0, none⟩ = some (.int .i64 hg) := s18.cell 0 rfl 0
                  have m2 : w18.cell? ⟨H, 2, none⟩ = some (.int .i64 hp) := s18.cell 0 rfl 2
                  have m3 : w18.cell? ⟨H, 3, none⟩ = some (.int .i64 ht) := s18.cell 0 rfl 3
                  have s19 := s18.pop
                  clear s18
                  have hbs := buildVt w18 j hg hp ht
                  have ho : w18.ownsRow 0 104 4 (.slice va WN.length vc) WN.length (vtCells WN) := s19.get 0 rfl
                  have HS2 : Hid _ := s19
                  clear s19
                  generalize hNL : WN.length = NL at *
                  have HNL : Hid (WN.length = NL) := hNL
                  clear hNL
                  generalize hVC : vtCells WN = VC at *
                  have HVC : Hid (vtCells WN = VC) := hVC
                  clear hVC
                  go_wp2_with (first | simp only [hbs] | (at_builtin; refine wpList_append_lies _ rfl (.tmp 134) (.tmp 143) 97 rfl 0 104 i1 _ 4 32 Tryz.underlying97 hi1 hy0 hy1 hy2 rfl (by omega) _ NL VC rfl (ho.alloc _) ⟨w18.heap.size, 0, none⟩ 1 1 [.int .i64 (j : Nat), .int .i64 hg, .int .i64 hp, .int .i64 ht] rfl rfl (World.news_of_block (cs := #[.int .i64 (j : Nat), .int .i64 hg, .int .i64 hp, .int .i64 ht]) (t := 104) (fr := (0, 0)) (heap_alloc_new w18 _)) (by simp [Value.oneCell']) (by omega) (by unfold maxLen; omega) (by omega) (Nat.zero_le _) (w18.heap.size + 1) (by simp) ?_; intro g5 cap5 w5 hown5 hgrow hat hlt5))
                  go_roundw
                  case rel =>
                    refine ⟨j + 1, by omega, by omega, by go_num, ?_, ?_⟩
                    · rw [HS1.out]; simp only [if_true]; push_cast; congr 1; try omega
                    · have s3 := HS2.out.growAt 0 rfl hown5 hgrow hat
                      rw [HW1.out]; simp only [Bool.and_true, if_true]
                      rw [List.length_append, HNL.out, vtCells_append, HVC.out]; exact s3
                  case measure => simp [intOf]; omega
        · obtain rfl : 8 = j := by omega
          have h1 : ¬ (8 : Int) < 8 := by omega
          have hob : othersBelow 0 8 = othersOf z0.hs.length 0 := by rw [HAF.out.hl]; rfl
          rw [hob] at hS ⊢
          clear hob hsl hol HCL HOB HOL
          have hlk := look_le8 z0 HAF.out.hl
          have hvl := vics_le z0 WS HAF.out.hl
          have eV : wantOf z0.hs z0.ws WS (othersOf z0.hs.length 0) = vicsOf z0 WS 0 := rfl
          have eL : stepsOf z0.hs (othersOf z0.hs.length 0) = lookN z0 0 := rfl
          rw [eV] at hS ⊢
          rw [eL]
          clear eV eL
          obtain ⟨VV, hVV⟩ : ∃ VV, VV = vicsOf z0 WS 0 := ⟨_, rfl⟩
          have HVV : Hid (VV = vicsOf z0 WS 0) := hVV
          rw [← hVV] at hS hvl ⊢
          clear hVV
          obtain ⟨LN, hLN⟩ : ∃ LN, LN = lookN z0 0 := ⟨_, rfl⟩
          have HLN : Hid (LN = lookN z0 0) := hLN
          rw [← hLN] at hlk ⊢
          clear hLN
          obtain ⟨w20, hw20⟩ : ∃ y, y = wr := ⟨_, rfl⟩
          subst hw20
          have hVI : VIn w20 va VV.length VV := by
            obtain ⟨a', c', e', hh, _⟩ := own_vin0 (ys := VV) (hS.get 0 rfl)
            simp only [Value.slice.injEq, true_and] at e'
            rw [← e'.1] at hh
            exact hh
          have hq := verdict_any c 5 0 va VV.length vc VV w20 hVI (by omega)
          have hve : vdE c 0 = 0 := vdV_ok HAF.out.live.f (Int.le_refl 0)
          rw [hve] at hq
          unfold Cfg.val at hq
          have s20 : St w (ownI 104 4 (.slice va VV.length vc) VV.length (vtCells VV) :: [boxI V #[.slice (some ⟨qa, 0, none⟩) 64 ca2, .int .i64 0, .int .i64 0, .slice (some ⟨qb, 0, none⟩) 8 cb2] 95, ownI 2 1 (.slice (some ⟨qa, 0, none⟩) 64 ca2) 64 (clCells z0.xs), ownI 101 8 (.slice (some ⟨qb, 0, none⟩) 8 cb2) 8 (slCells (slots z0.hs z0.ws)), cmI A B 0 (Cm.new 0 1 1 5 ps WS 8) vl (.slice none 0 0) (.slice none 0 0) dl dv, boxI F #[.int .u64 WS.lo, .int .u64 WS.hi] 87, ownI 59 2 (.slice (some ⟨gw, 0, none⟩) ps.length cw) ps.length (prCells ps), boxI B.J (jd c 0) 146, spI A c z0 v6 (.slice none 0 0), boxI M #[.int .i64 c.ce, .int .i64 c.sl, .int .i64 c.bi, .int .i64 c.ta, .int .i64 c.ba, .int .i64 c.de] 23]) w20 := by rw [← HLL.out]; exact hS
          clear hS hve hVI
          have m0 : w20.cell? ⟨M, 0, none⟩ = some (.int .i64 c.ce) := s20.cell 9 rfl 0
          have m1 : w20.cell? ⟨M, 1, none⟩ = some (.int .i64 c.sl) := s20.cell 9 rfl 1
          have m2 : w20.cell? ⟨M, 2, none⟩ = some (.int .i64 c.bi) := s20.cell 9 rfl 2
          have m3 : w20.cell? ⟨M, 3, none⟩ = some (.int .i64 c.ta) := s20.cell 9 rfl 3
          have m4 : w20.cell? ⟨M, 4, none⟩ = some (.int .i64 c.ba) := s20.cell 9 rfl 4
          have m5 : w20.cell? ⟨M, 5, none⟩ = some (.int .i64 c.de) := s20.cell 9 rfl 5
          obtain ⟨vd, hvd⟩ : ∃ vd, vd = vdV c 5 0 VV := ⟨_, rfl⟩
          have HVD : Hid (vd = vdV c 5 0 VV) := hvd
          rw [← hvd] at hq
          clear hvd
          go_wp2_with fail
          refine hq.mono ?_
          rintro e w21 ⟨rfl, k21⟩
          have s21 := s20.calm k21
          clear hq k21 s20 m0 m1 m2 m3 m4 m5
          have HT : Hid (∀ p, (dzS (heldZ z0 WS 0 1) ⟨1, VV, []⟩ p).1.hs.length = 8) := fun p => by
            have h1 := (dzS_ok (d := ⟨1, VV, []⟩) (kS_ok (k := Lk.new WS z0.hs.length 0) ((HAF.out.ok.take 1).look 0) (lookN z0 0)) p).hl
            have h2 := HAF.out.sl
            have h3 : (dzS (heldZ z0 WS 0 1) ⟨1, VV, []⟩ p).1.hs.length = (dzS (kS ((z0.take 1).look 0) (Lk.new WS z0.hs.length 0) (lookN z0 0)).1 ⟨1, VV, []⟩ p).1.hs.length := rfl
            omega
          have HTR : Hid (∀ p, p < VV.length → ∃ s : Nat, s < 8 ∧ (∃ hp : p < VV.length, VV[p].so = (s : Int)) ∧ (dzS (heldZ z0 WS 0 1) ⟨1, VV, []⟩ (p + 1)).1.hs = (dzS (heldZ z0 WS 0 1) ⟨1, VV, []⟩ p).1.hs.set s (((dzS (heldZ z0 WS 0 1) ⟨1, VV, []⟩ p).1.hs.getD s Hd.zero).doomed 1)) := by
            intro p hp
            obtain ⟨r1, r2, r3, r4⟩ := heldZ_rest (z := z0) (wr := WS) (so := 0) (th := 1) rfl (by rw [HAF.out.x])
            have okh : (heldZ z0 WS 0 1).ok c (40 + 2 + lookN z0 0) := kS_ok ((HAF.out.ok.take 1).look 0) _
            obtain ⟨s, a1, a2, _, a4⟩ := doom_roundW okh (wr := WS) (own := 0) (wy := 1) rfl (WN := VV) (by rw [r3, r4]; exact HVV.out) hp
            rw [r3, HAF.out.hl] at a1
            exact ⟨s, a1, ⟨hp, a2⟩, a4⟩
          have HT0 : Hid ((dzS (heldZ z0 WS 0 1) ⟨1, VV, []⟩ 0).1.hs = z0.hs) := (heldZ_rest (z := z0) (wr := WS) (so := 0) (th := 1) rfl (by rw [HAF.out.x])).2.2.1
          obtain ⟨HH, hHH⟩ : ∃ HH : Nat → List Hd, HH = fun p => (dzS (heldZ z0 WS 0 1) ⟨1, VV, []⟩ p).1.hs := ⟨_, rfl⟩
          have HHE : Hid (∀ p, HH p = (dzS (heldZ z0 WS 0 1) ⟨1, VV, []⟩ p).1.hs) := fun p => by rw [hHH]
          replace HT : Hid (∀ p, (HH p).length = 8) := fun p => by rw [hHH]; exact HT.out p
          replace HTR : Hid (∀ p, p < VV.length → ∃ s : Nat, s < 8 ∧ (∃ hp : p < VV.length, VV[p].so = (s : Int)) ∧ HH (p + 1) = (HH p).set s (((HH p).getD s Hd.zero).doomed 1)) := fun p hp => by rw [hHH]; exact HTR.out p hp
          replace HT0 : Hid (HH 0 = z0.hs) := by show _ = _; rw [hHH]; exact HT0.out
          clear hHH
          have hWL : (z0.ws).length = 16 := by rw [HAF.out.ok.wl, HAF.out.hl]
          have HWL : Hid (z0.ws.length = 16) := hWL
          clear hWL
          go_upto_block 4 with fail
          go_cut [27, 32, 33, 34] from 151 to 207 (fun st en _ _ wx => st = .int .i64 (((alK vd LN VV.length ps.length - 2 : Nat)) : Int) ∧ en = .int .i64 (endOf vd) ∧ St w (ownI 104 4 (.slice va VV.length vc) VV.length (vtCells VV) :: [boxI V #[.slice (some ⟨qa, 0, none⟩) 64 ca2, .int .i64 0, .int .i64 0, .slice (some ⟨qb, 0, none⟩) 8 cb2] 95, ownI 2 1 (.slice (some ⟨qa, 0, none⟩) 64 ca2) 64 (clCells (if endOf vd = 0 then putL z0.xs ps else z0.xs)), ownI 101 8 (.slice (some ⟨qb, 0, none⟩) 8 cb2) 8 (slCells (slots (if endOf vd = 0 then HH VV.length else z0.hs) z0.ws)), cmI A B 0 (Cm.new 0 1 1 5 ps WS 8) vl (.slice none 0 0) (.slice none 0 0) dl dv, boxI F #[.int .u64 WS.lo, .int .u64 WS.hi] 87, ownI 59 2 (.slice (some ⟨gw, 0, none⟩) ps.length cw) ps.length (prCells ps), boxI B.J (jd c 0) 146, spI A c z0 v6 (.slice none 0 0), boxI M #[.int .i64 c.ce, .int .i64 c.sl, .int .i64 c.bi, .int .i64 c.ta, .int .i64 c.ba, .int .i64 c.de] 23]) wx)
          case first =>
            by_cases hv2 : vd = 2
            · have t1 : (vd == 2) = true := by simp [hv2]
              have e1 : endOf vd = 9 := by simp [endOf, hv2]
              have HE : Hid _ := s21
              clear s21
              go_wp2_with fail
              go_meet
              refine ⟨?_, by rw [e1], ?_⟩
              · unfold alK
                rw [e1, if_neg (by decide)]
                congr 1
                all_goals omega
              · rw [e1, if_neg (by decide), if_neg (by decide)]
                exact HE.out
            · by_cases hv3 : vd = 3
              · have t1 : (vd == 2) = false := by simp [hv2]
                have t2 : (vd == 3) = true := by simp [hv3]
                have e1 : endOf vd = 8 := by simp [endOf, hv3]
                have HE : Hid _ := s21
                clear s21
                go_wp2_with fail
                go_meet
                refine ⟨?_, by rw [e1], ?_⟩
                · unfold alK
                  rw [e1, if_neg (by decide)]
                  congr 1
                  all_goals omega
                · rw [e1, if_neg (by decide), if_neg (by decide)]
                  exact HE.out
              · have t1 : (vd == 2) = false := by simp [hv2]
                have t2 : (vd == 3) = false := by simp [hv3]
                have e1 : endOf vd = 0 := by simp [endOf, hv2, hv3]
                have HE1 : Hid (endOf vd = 0) := e1
                clear e1 hv2 hv3
                go_wp2_with fail
                go_loopw [33] (fun i wr => ∃ k : Nat, i = .int .i64 k ∧ k ≤ ps.length ∧ St w (ownI 104 4 (.slice va VV.length vc) VV.length (vtCells VV) :: [boxI V #[.slice (some ⟨qa, 0, none⟩) 64 ca2, .int .i64 0, .int .i64 0, .slice (some ⟨qb, 0, none⟩) 8 cb2] 95, ownI 2 1 (.slice (some ⟨qa, 0, none⟩) 64 ca2) 64 (clCells (putL z0.xs (ps.take k))), ownI 101 8 (.slice (some ⟨qb, 0, none⟩) 8 cb2) 8 (slCells (slots z0.hs z0.ws)), cmI A B 0 (Cm.new 0 1 1 5 ps WS 8) vl (.slice none 0 0) (.slice none 0 0) dl dv, boxI F #[.int .u64 WS.lo, .int .u64 WS.hi] 87, ownI 59 2 (.slice (some ⟨gw, 0, none⟩) ps.length cw) ps.length (prCells ps), boxI B.J (jd c 0) 146, spI A c z0 v6 (.slice none 0 0), boxI M #[.int .i64 c.ce, .int .i64 c.sl, .int .i64 c.bi, .int .i64 c.ta, .int .i64 c.ba, .int .i64 c.de] 23]) wr) (fun i _ => ps.length - (intOf i).toNat)
                case atStart => exact ⟨0, rfl, Nat.zero_le _, s21⟩
                case round =>
                  clear s21
                  obtain ⟨k, rfl, hk, hS⟩ := hrel
                  have hk0 : (0 : Int) ≤ (k : Int) := by omega
                  by_cases hlt : k < ps.length
                  · focus
                      have g1 : (k : Int) < (ps.length : Int) := by omega
                      obtain ⟨p0, p1⟩ := (HPW.out _ 6 wr rfl hS).cells hlt
                      simp only [Nat.zero_add] at p0 p1
                      have hm : ps.getD k Pr.zero ∈ ps := by rw [List.getD_eq_getElem?_getD, List.getElem?_eq_getElem hlt]; exact List.getElem_mem hlt
                      have hr := HW.out.r _ hm
                      have HTK : Hid (ps.take (k + 1) = ps.take k ++ [ps.getD k Pr.zero]) := by
                        show _ = _
                        rw [List.take_succ_eq_append_getElem hlt, List.getD_eq_getElem?_getD, List.getElem?_eq_getElem hlt]; rfl
                      generalize ps.getD k Pr.zero = pk at *
                      obtain ⟨ce, px⟩ := pk
                      simp only at p0 p1 hr
                      obtain ⟨cn, rfl⟩ := Int.eq_ofNat_of_zero_le hr.1
                      have r0 : (0 : Int) ≤ (cn : Int) := by omega
                      have r1 : (cn : Int) < 64 := hr.2
                      have d0 : wr.drew.cell? ⟨gw, k * 2, none⟩ = some (.int .i64 (cn : Int)) := p0
                      have d1 : wr.drew.cell? ⟨gw, k * 2 + 1, none⟩ = some (.int .i64 px) := p1
                      have b0 : wr.cell? ⟨V, 0, none⟩ = some (.slice (some ⟨qa, 0, none⟩) 64 ca2) := hS.cell 1 rfl 0
                      have b0' : wr.drew.cell? ⟨V, 0, none⟩ = some (.slice (some ⟨qa, 0, none⟩) 64 ca2) := b0
                      have hl := putL_len (ps.take k) HAF.out.xl
                      have ho := hS.ownCell 2 rfl cn (by omega)
                      rw [clCells_at _ cn (by omega)] at ho
                      have ho1 : wr.drew.cell? ⟨qa, cn, none⟩ = _ := ho
                      have f0 : wr.frozen? ⟨qa, cn, none⟩ = false := hS.ownFrozen 2 rfl cn
                      have f1 : wr.drew.frozen? ⟨qa, cn, none⟩ = false := f0
                      have HS2 : Hid (∀ W, W = (wr.drew).setCell ⟨qa, cn, none⟩ (.int .i64 px) → St w (ownI 104 4 (.slice va VV.length vc) VV.length (vtCells VV) :: [boxI V #[.slice (some ⟨qa, 0, none⟩) 64 ca2, .int .i64 0, .int .i64 0, .slice (some ⟨qb, 0, none⟩) 8 cb2] 95, ownI 2 1 (.slice (some ⟨qa, 0, none⟩) 64 ca2) 64 (clCells (putL z0.xs (ps.take (k + 1)))), ownI 101 8 (.slice (some ⟨qb, 0, none⟩) 8 cb2) 8 (slCells (slots z0.hs z0.ws)), cmI A B 0 (Cm.new 0 1 1 5 ps WS 8) vl (.slice none 0 0) (.slice none 0 0) dl dv, boxI F #[.int .u64 WS.lo, .int .u64 WS.hi] 87, ownI 59 2 (.slice (some ⟨gw, 0, none⟩) ps.length cw) ps.length (prCells ps), boxI B.J (jd c 0) 146, spI A c z0 v6 (.slice none 0 0), boxI M #[.int .i64 c.ce, .int .i64 c.sl, .int .i64 c.bi, .int .i64 c.ta, .int .i64 c.ba, .int .i64 c.de] 23]) W) := by
                        intro W hW
                        have t := (hS.drew).ownSet 2 rfl cn (by omega) (.int .i64 px)
                        have e : putL z0.xs (ps.take (k + 1)) = (putL z0.xs (ps.take k)).set cn px := by
                          rw [HTK.out]
                          show List.foldl _ _ (_ ++ _) = _
                          rw [List.foldl_append]
                          show storeX (putL z0.xs (ps.take k)) (cn : Int) px = _
                          unfold storeX
                          rw [if_pos (by simp [cin, hl]; omega), Int.toNat_natCast]
                        rw [hW, e, ← clCells_set]
                        exact t
                      generalize (putL z0.xs (ps.take k))[cn]'(by omega) = uo at ho ho1
                      clear hS hm hr HTK hl
                      go_wp2_with fail
                      go_region
                      all_goals
                        go_wp2
                        go_roundw
                        case rel => exact ⟨k + 1, by go_num, by omega, HS2.out _ rfl⟩
                        case measure => simp [intOf]; omega
                  · obtain rfl : ps.length = k := by omega
                    have g1 : ¬ (ps.length : Int) < (ps.length : Int) := by omega
                    rw [List.take_length] at hS
                    obtain ⟨w22, hw22⟩ : ∃ y, y = wr := ⟨_, rfl⟩
                    subst hw22
                    have s22 : St w (ownI 104 4 (.slice va VV.length vc) VV.length (vtCells VV) :: [boxI V #[.slice (some ⟨qa, 0, none⟩) 64 ca2, .int .i64 0, .int .i64 0, .slice (some ⟨qb, 0, none⟩) 8 cb2] 95, ownI 2 1 (.slice (some ⟨qa, 0, none⟩) 64 ca2) 64 (clCells (putL z0.xs ps)), ownI 101 8 (.slice (some ⟨qb, 0, none⟩) 8 cb2) 8 (slCells (slots (HH 0) z0.ws)), cmI A B 0 (Cm.new 0 1 1 5 ps WS 8) vl (.slice none 0 0) (.slice none 0 0) dl dv, boxI F #[.int .u64 WS.lo, .int .u64 WS.hi] 87, ownI 59 2 (.slice (some ⟨gw, 0, none⟩) ps.length cw) ps.length (prCells ps), boxI B.J (jd c 0) 146, spI A c z0 v6 (.slice none 0 0), boxI M #[.int .i64 c.ce, .int .i64 c.sl, .int .i64 c.bi, .int .i64 c.ta, .int .i64 c.ba, .int .i64 c.de] 23]) w22 := by rw [HT0.out]; exact hS
                    clear hS
                    go_wp2_with fail
                    go_loopw [34] (fun i wr => ∃ p : Nat, i = .int .i64 p ∧ p ≤ VV.length ∧ St w (ownI 104 4 (.slice va VV.length vc) VV.length (vtCells VV) :: [boxI V #[.slice (some ⟨qa, 0, none⟩) 64 ca2, .int .i64 0, .int .i64 0, .slice (some ⟨qb, 0, none⟩) 8 cb2] 95, ownI 2 1 (.slice (some ⟨qa, 0, none⟩) 64 ca2) 64 (clCells (putL z0.xs ps)), ownI 101 8 (.slice (some ⟨qb, 0, none⟩) 8 cb2) 8 (slCells (slots (HH p) z0.ws)), cmI A B 0 (Cm.new 0 1 1 5 ps WS 8) vl (.slice none 0 0) (.slice none 0 0) dl dv, boxI F #[.int .u64 WS.lo, .int .u64 WS.hi] 87, ownI 59 2 (.slice (some ⟨gw, 0, none⟩) ps.length cw) ps.length (prCells ps), boxI B.J (jd c 0) 146, spI A c z0 v6 (.slice none 0 0), boxI M #[.int .i64 c.ce, .int .i64 c.sl, .int .i64 c.bi, .int .i64 c.ta, .int .i64 c.ba, .int .i64 c.de] 23]) wr) (fun i _ => VV.length - (intOf i).toNat)
                    case atStart => exact ⟨0, rfl, Nat.zero_le _, s22⟩
                    case round =>
                      clear s22
                      obtain ⟨p, rfl, hp, hS⟩ := hrel
                      have hp0 : (0 : Int) ≤ (p : Int) := by omega
                      by_cases hlt : p < VV.length
                      · focus
                          have g1 : (p : Int) < (VV.length : Int) := by omega
                          obtain ⟨s, hs8, ⟨hpl, hso⟩, hset⟩ := HTR.out p hlt
                          obtain ⟨g1', cap1, e1⟩ := hS.form 0 rfl (by omega)
                          simp only [Value.slice.injEq] at e1
                          obtain ⟨rfl, -, -⟩ := e1
                          obtain ⟨y0, _, _, _⟩ := vtCells_at VV p hpl
                          rw [hso] at y0
                          have HY0 : Hid ((vtCells VV)[p * 4]? = some (.int .i64 (s : Nat))) := y0
                          have HSET : Hid (HH (p + 1) = (HH p).set s (((HH p).getD s Hd.zero).doomed 1)) := hset
                          have H8 : Hid ((HH p).length = 8) := HT.out p
                          have ss0 : (0 : Int) ≤ (s : Int) := by omega
                          have ss8 : (s : Int) < 8 := by omega
                          have z0c : wr.cell? ⟨g1', p * 4, none⟩ = some (.int .i64 (s : Nat)) := (hS.ownCell 0 rfl _ (by omega)).trans y0
                          have z0d : wr.drew.cell? ⟨g1', p * 4, none⟩ = some (.int .i64 (s : Nat)) := z0c
                          have b3 : wr.cell? ⟨V, 3, none⟩ = some (.slice (some ⟨qb, 0, none⟩) 8 cb2) := hS.cell 1 rfl 3
                          have b3d : wr.drew.cell? ⟨V, 3, none⟩ = some (.slice (some ⟨qb, 0, none⟩) 8 cb2) := b3
                          have q4 : ∃ u, wr.cell? ⟨qb, s * 8 + 4, none⟩ = some u := own_some hS 3 rfl (by omega)
                          obtain ⟨u4, q4⟩ := q4
                          have q4d : wr.drew.cell? ⟨qb, s * 8 + 4, none⟩ = some u4 := q4
                          have f4 : wr.frozen? ⟨qb, s * 8 + 4, none⟩ = false := hS.ownFrozen 3 rfl _
                          have f4d : wr.drew.frozen? ⟨qb, s * 8 + 4, none⟩ = false := f4
                          have HS2 : Hid (∀ W, W = (wr.setCell ⟨qb, s * 8 + 4, none⟩ (.bool true)).drew → St w (ownI 104 4 (.slice (some ⟨g1', 0, none⟩) VV.length vc) VV.length (vtCells VV) :: [boxI V #[.slice (some ⟨qa, 0, none⟩) 64 ca2, .int .i64 0, .int .i64 0, .slice (some ⟨qb, 0, none⟩) 8 cb2] 95, ownI 2 1 (.slice (some ⟨qa, 0, none⟩) 64 ca2) 64 (clCells (putL z0.xs ps)), ownI 101 8 (.slice (some ⟨qb, 0, none⟩) 8 cb2) 8 ((slCells (slots (HH p) z0.ws)).set (s * 8 + 4) (.bool true)), cmI A B 0 (Cm.new 0 1 1 5 ps WS 8) vl (.slice none 0 0) (.slice none 0 0) dl dv, boxI F #[.int .u64 WS.lo, .int .u64 WS.hi] 87, ownI 59 2 (.slice (some ⟨gw, 0, none⟩) ps.length cw) ps.length (prCells ps), boxI B.J (jd c 0) 146, spI A c z0 v6 (.slice none 0 0), boxI M #[.int .i64 c.ce, .int .i64 c.sl, .int .i64 c.bi, .int .i64 c.ta, .int .i64 c.ba, .int .i64 c.de] 23]) W) := by
                            intro W hW
                            rw [hW]
                            exact (hS.ownSet 3 rfl (s * 8 + 4) (by omega) (.bool true)).drew
                          have HSD : Hid (∀ W, W = (wr.setCell ⟨qb, s * 8 + 4, none⟩ (.bool true)).setCell ⟨qb, s * 8 + 5, none⟩ (.int .i64 1) → St w (ownI 104 4 (.slice (some ⟨g1', 0, none⟩) VV.length vc) VV.length (vtCells VV) :: [boxI V #[.slice (some ⟨qa, 0, none⟩) 64 ca2, .int .i64 0, .int .i64 0, .slice (some ⟨qb, 0, none⟩) 8 cb2] 95, ownI 2 1 (.slice (some ⟨qa, 0, none⟩) 64 ca2) 64 (clCells (putL z0.xs ps)), ownI 101 8 (.slice (some ⟨qb, 0, none⟩) 8 cb2) 8 (slCells (slots (HH (p + 1)) z0.ws)), cmI A B 0 (Cm.new 0 1 1 5 ps WS 8) vl (.slice none 0 0) (.slice none 0 0) dl dv, boxI F #[.int .u64 WS.lo, .int .u64 WS.hi] 87, ownI 59 2 (.slice (some ⟨gw, 0, none⟩) ps.length cw) ps.length (prCells ps), boxI B.J (jd c 0) 146, spI A c z0 v6 (.slice none 0 0), boxI M #[.int .i64 c.ce, .int .i64 c.sl, .int .i64 c.bi, .int .i64 c.ta, .int .i64 c.ba, .int .i64 c.de] 23]) W) := by
                            intro W hW
                            have hsd : ∀ m, m = (HH p).length → St w (ownI 104 4 (.slice (some ⟨g1', 0, none⟩) VV.length vc) VV.length (vtCells VV) :: [boxI V #[.slice (some ⟨qa, 0, none⟩) 64 ca2, .int .i64 0, .int .i64 0, .slice (some ⟨qb, 0, none⟩) 8 cb2] 95, ownI 2 1 (.slice (some ⟨qa, 0, none⟩) 64 ca2) 64 (clCells (putL z0.xs ps)), ownI 101 8 (.slice (some ⟨qb, 0, none⟩) m cb2) m (slCells (slots (HH p) z0.ws)), cmI A B 0 (Cm.new 0 1 1 5 ps WS 8) vl (.slice none 0 0) (.slice none 0 0) dl dv, boxI F #[.int .u64 WS.lo, .int .u64 WS.hi] 87, ownI 59 2 (.slice (some ⟨gw, 0, none⟩) ps.length cw) ps.length (prCells ps), boxI B.J (jd c 0) 146, spI A c z0 v6 (.slice none 0 0), boxI M #[.int .i64 c.ce, .int .i64 c.sl, .int .i64 c.bi, .int .i64 c.ta, .int .i64 c.ba, .int .i64 c.de] 23]) wr → St w (ownI 104 4 (.slice (some ⟨g1', 0, none⟩) VV.length vc) VV.length (vtCells VV) :: [boxI V #[.slice (some ⟨qa, 0, none⟩) 64 ca2, .int .i64 0, .int .i64 0, .slice (some ⟨qb, 0, none⟩) 8 cb2] 95, ownI 2 1 (.slice (some ⟨qa, 0, none⟩) 64 ca2) 64 (clCells (putL z0.xs ps)), ownI 101 8 (.slice (some ⟨qb, 0, none⟩) m cb2) m (slCells (slots (HH (p + 1)) z0.ws)), cmI A B 0 (Cm.new 0 1 1 5 ps WS 8) vl (.slice none 0 0) (.slice none 0 0) dl dv, boxI F #[.int .u64 WS.lo, .int .u64 WS.hi] 87, ownI 59 2 (.slice (some ⟨gw, 0, none⟩) ps.length cw) ps.length (prCells ps), boxI B.J (jd c 0) 146, spI A c z0 v6 (.slice none 0 0), boxI M #[.int .i64 c.ce, .int .i64 c.sl, .int .i64 c.bi, .int .i64 c.ta, .int .i64 c.ba, .int .i64 c.de] 23]) ((wr.setCell ⟨qb, s * 8 + 4, none⟩ (.bool true)).setCell ⟨qb, s * 8 + 5, none⟩ (.int .i64 1)) := by
                              intro m hm h
                              rw [HSET.out]
                              subst hm
                              exact h.slotDoom 3 rfl (by rw [HWL.out, H8.out]) (k := s) (by rw [H8.out]; exact hs8) 1
                            rw [hW]
                            exact hsd 8 H8.out.symm hS
                          clear hS hset y0 hso
                          go_upto_region 40 with fail
                          go_region
                          all_goals
                            have s23 := HS2.out _ rfl
                            have hsw := HSD.out _ rfl
                            have HSE : Hid (∀ W, W = (((wr.setCell ⟨qb, s * 8 + 4, none⟩ (.bool true)).drew).setCell ⟨qb, s * 8 + 5, none⟩ (.int .i64 1)).drew → St w (ownI 104 4 (.slice (some ⟨g1', 0, none⟩) VV.length vc) VV.length (vtCells VV) :: [boxI V #[.slice (some ⟨qa, 0, none⟩) 64 ca2, .int .i64 0, .int .i64 0, .slice (some ⟨qb, 0, none⟩) 8 cb2] 95, ownI 2 1 (.slice (some ⟨qa, 0, none⟩) 64 ca2) 64 (clCells (putL z0.xs ps)), ownI 101 8 (.slice (some ⟨qb, 0, none⟩) 8 cb2) 8 (slCells (slots (HH (p + 1)) z0.ws)), cmI A B 0 (Cm.new 0 1 1 5 ps WS 8) vl (.slice none 0 0) (.slice none 0 0) dl dv, boxI F #[.int .u64 WS.lo, .int .u64 WS.hi] 87, ownI 59 2 (.slice (some ⟨gw, 0, none⟩) ps.length cw) ps.length (prCells ps), boxI B.J (jd c 0) 146, spI A c z0 v6 (.slice none 0 0), boxI M #[.int .i64 c.ce, .int .i64 c.sl, .int .i64 c.bi, .int .i64 c.ta, .int .i64 c.ba, .int .i64 c.de] 23]) W) := by
                              intro W hW
                              rw [hW]
                              exact hsw.calm ⟨rfl, rfl, rfl, Nat.le_refl _, fun _ _ _ => rfl⟩
                            clear hsw HSD HS2 z0c z0d b3 b3d q4 q4d f4 f4d
                            generalize (wr.setCell ⟨qb, s * 8 + 4, none⟩ (.bool true)).drew = w23 at *
                            have z1c : w23.cell? ⟨g1', p * 4, none⟩ = some (.int .i64 (s : Nat)) := (s23.ownCell 0 rfl _ (by omega)).trans HY0.out
                            have z1d : w23.drew.cell? ⟨g1', p * 4, none⟩ = some (.int .i64 (s : Nat)) := z1c
                            have b3 : w23.cell? ⟨V, 3, none⟩ = some (.slice (some ⟨qb, 0, none⟩) 8 cb2) := s23.cell 1 rfl 3
                            have b3d : w23.drew.cell? ⟨V, 3, none⟩ = some (.slice (some ⟨qb, 0, none⟩) 8 cb2) := b3
                            obtain ⟨u5, q5⟩ : ∃ u, w23.cell? ⟨qb, s * 8 + 5, none⟩ = some u := own_some s23 3 rfl (by omega)
                            have q5d : w23.drew.cell? ⟨qb, s * 8 + 5, none⟩ = some u5 := q5
                            have f5 : w23.frozen? ⟨qb, s * 8 + 5, none⟩ = false := s23.ownFrozen 3 rfl _
                            have f5d : w23.drew.frozen? ⟨qb, s * 8 + 5, none⟩ = false := f5
                            clear s23
                            go_wp2_with fail
                            go_region
                            all_goals
                              go_wp2
                              go_roundw
                              case rel => exact ⟨p + 1, by go_num, by omega, HSE.out _ rfl⟩
                              case measure => simp [intOf]; omega
                      · obtain rfl : VV.length = p := by omega
                        have g1 : ¬ (VV.length : Int) < (VV.length : Int) := by omega
                        have HE : Hid _ := hS
                        clear hS
                        go_wp2_with fail
                        go_meet
                        refine ⟨?_, by rw [HE1.out], ?_⟩
                        · unfold alK
                          rw [HE1.out, if_pos rfl]
                          congr 1
                          all_goals omega
                        · rw [HE1.out, if_pos rfl, if_pos rfl]
                          exact HE.out
          case rest =>
            obtain ⟨rfl, rfl, s24'⟩ := hcut
            clear s21 HTR HT0
            obtain ⟨w24, hw24⟩ : ∃ y, y = wc := ⟨_, rfl⟩
            subst hw24
            have hrun := al_run (c := c) (z := z0) (ps := ps) (wr := WS) (g := 0) HAF.out.hl HAF.out.x HAF.out.mine hpos (v := vd) (by rw [HVD.out, HVV.out]) (K := alK vd LN VV.length ps.length) (by rw [HLN.out, HVV.out])
            obtain ⟨T, hT⟩ : ∃ T : SSt × Cm × Int, T = (z0, Cm.new 0 1 1 5 ps WS 8, 0) := ⟨_, rfl⟩
            obtain ⟨K, hK⟩ : ∃ K, K = alK vd LN VV.length ps.length := ⟨_, rfl⟩
            have HK2 : Hid (2 ≤ K ∧ K ≤ 32 + ps.length ∧ 2 + LN < K) := by
              rw [hK]
              show _ ∧ _ ∧ _
              unfold alK
              split <;> omega
            have s24 : St w (ownI 104 4 (.slice va VV.length vc) VV.length (vtCells VV) :: [boxI V #[.slice (some ⟨qa, 0, none⟩) 64 ca2, .int .i64 0, .int .i64 0, .slice (some ⟨qb, 0, none⟩) 8 cb2] 95, ownI 2 1 (.slice (some ⟨qa, 0, none⟩) 64 ca2) 64 (clCells (if endOf vd = 0 then putL z0.xs ps else z0.xs)), ownI 101 8 (.slice (some ⟨qb, 0, none⟩) 8 cb2) 8 (slCells (slots (if endOf vd = 0 then HH VV.length else z0.hs) z0.ws)), cmI A B 0 (cS c T 0).2.1 vl (.slice none 0 0) (.slice none 0 0) dl dv, boxI F #[.int .u64 WS.lo, .int .u64 WS.hi] 87, ownI 59 2 (.slice (some ⟨gw, 0, none⟩) ps.length cw) ps.length (prCells ps), boxI B.J (jd c (cS c T 0).2.2) 146, spI A c (cS c T 0).1 v6 (.slice none 0 0), boxI M #[.int .i64 c.ce, .int .i64 c.sl, .int .i64 c.bi, .int .i64 c.ta, .int .i64 c.ba, .int .i64 c.de] 23]) w24 := by
              rw [hT]
              exact s24'
            clear s24'
            rw [← hT, ← hK] at hrun
            rw [← hK]
            clear hK
            obtain ⟨u1, u2, u3, u4, u5, u6, u7, u8, u9⟩ := hrun
            have HU1 : Hid (∀ j, j < K → (cS c T j).2.1.done = false ∧ (cS c T j).2.1.ans (cS c T j).1 = if j = 2 + lookN z0 0 ∧ endOf vd = 9 then 2 else 1) := u1
            have HUE : Hid ((cS c T K).2.1.done = true ∧ (cS c T K).2.1.end_ = endOf vd ∧ (cS c T K).2.1.won = decide (endOf vd = 0) ∧ (cS c T K).2.1.lk.vs = VV ∧ (cS c T K).1.x = ⟨2, 0⟩ ∧ (cS c T K).1.ws = z0.ws ∧ (cS c T K).1.xs = (if endOf vd = 0 then putL z0.xs ps else z0.xs) ∧ (cS c T K).1.hs = (freeOp 1).H (if endOf vd = 0 then HH VV.length else z0.hs) 0) := by
              refine ⟨u2, u3, u4, by rw [u5, HVV.out], u6, u7, u8, ?_⟩
              rw [u9, HHE.out, HVV.out]
            have HOT : Hid (∀ j, (cS c T j).1.ok c (40 + j)) := fun j => cS_ok (by rw [hT]; exact HAF.out.ok) j
            have HLT8 : Hid (∀ j, (cS c T j).1.hs.length = 8) := fun j => by
              have h1 := (HOT.out j).hl
              have h2 := HAF.out.sl
              omega
            have HFT : Hid (∀ j, (cS c T j).2.1.fit (cS c T j).1.hs.length) := fun j => by
              rw [HLT8.out j]
              exact cS_fit (by rw [hT]; exact HFX.out) (by rw [hT]; exact HAF.out.ws) j
            have HWT : Hid (∀ j, WsOk (cS c T j).1.ws) := fun j => by rw [cS_ws, hT]; exact HAF.out.ws
            have HDT : Hid (∀ j, 0 ≤ (cS c T j).2.2) := fun j => cS_df (by rw [hT]; exact Int.le_refl 0) j
            clear u1 u2 u3 u4 u5 u6 u7 u8 u9 hT HFX
            have kk0 : (0 : Int) ≤ ((K - 2 : Nat) : Int) := by omega
            have kk1 : ((K - 2 : Nat) : Int) ≤ 60 := by have := HK2.out; omega
            have kk2 : ((K - 2 : Nat) : Int) + 2 = (K : Int) := by have := HK2.out; omega
            have HS24 : Hid (∃ D v vl vd' vv dl dv, St w (ownI 104 4 (.slice va VV.length vc) VV.length (vtCells VV) :: [boxI V #[.slice (some ⟨qa, 0, none⟩) 64 ca2, .int .i64 0, .int .i64 0, .slice (some ⟨qb, 0, none⟩) 8 cb2] 95, ownI 2 1 (.slice (some ⟨qa, 0, none⟩) 64 ca2) 64 (clCells (if endOf vd = 0 then putL z0.xs ps else z0.xs)), ownI 101 8 (.slice (some ⟨qb, 0, none⟩) 8 cb2) 8 (slCells (slots (if endOf vd = 0 then HH VV.length else z0.hs) z0.ws)), cmI A B D (cS c T 0).2.1 vl vd' vv dl dv, boxI F #[.int .u64 WS.lo, .int .u64 WS.hi] 87, ownI 59 2 (.slice (some ⟨gw, 0, none⟩) ps.length cw) ps.length (prCells ps), boxI B.J (jd c (cS c T 0).2.2) 146, spI A c (cS c T 0).1 v (.slice none 0 0), boxI M #[.int .i64 c.ce, .int .i64 c.sl, .int .i64 c.bi, .int .i64 c.ta, .int .i64 c.ba, .int .i64 c.de] 23]) w24) := ⟨_, _, _, _, _, _, _, s24⟩
            clear s24
            obtain ⟨EE, hEE⟩ : ∃ EE, EE = endOf vd := ⟨_, rfl⟩
            have HEE : Hid (EE = endOf vd) := hEE
            have HEV : Hid (EE = 0 ∨ EE = 8 ∨ EE = 9) := by
              rw [hEE]
              show _ ∨ _ ∨ _
              unfold endOf
              split
              · simp
              · split <;> simp
            rw [← hEE]
            clear hEE
            go_wp2_with (simp only [kk2])
            obtain ⟨w25, hw25⟩ : ∃ y, y = w24 := ⟨_, rfl⟩
            subst hw25
            go_loopw [35, 36] (fun wt i wr => ∃ j : Nat, i = .int .i64 j ∧ j ≤ K ∧ wt = .int .i64 (wtOf LN EE j) ∧ Hid (∃ D v vl vd' vv dl dv, St w (ownI 104 4 (.slice va VV.length vc) VV.length (vtCells VV) :: [boxI V #[.slice (some ⟨qa, 0, none⟩) 64 ca2, .int .i64 0, .int .i64 0, .slice (some ⟨qb, 0, none⟩) 8 cb2] 95, ownI 2 1 (.slice (some ⟨qa, 0, none⟩) 64 ca2) 64 (clCells (if endOf vd = 0 then putL z0.xs ps else z0.xs)), ownI 101 8 (.slice (some ⟨qb, 0, none⟩) 8 cb2) 8 (slCells (slots (if endOf vd = 0 then HH VV.length else z0.hs) z0.ws)), cmI A B D (cS c T j).2.1 vl vd' vv dl dv, boxI F #[.int .u64 WS.lo, .int .u64 WS.hi] 87, ownI 59 2 (.slice (some ⟨gw, 0, none⟩) ps.length cw) ps.length (prCells ps), boxI B.J (jd c (cS c T j).2.2) 146, spI A c (cS c T j).1 v (.slice none 0 0), boxI M #[.int .i64 c.ce, .int .i64 c.sl, .int .i64 c.bi, .int .i64 c.ta, .int .i64 c.ba, .int .i64 c.de] 23]) wr)) (fun _ i _ => K - (intOf i).toNat)
            case atStart => exact ⟨0, rfl, Nat.zero_le _, by unfold wtOf; rw [if_neg (by omega)], HS24⟩
            case round =>
              clear HS24
              obtain ⟨j, rfl, hj, rfl, HR⟩ := hrel
              have hj0 : (0 : Int) ≤ (j : Int) := by omega
              obtain ⟨D, v, vl', vd', vv, dl', dv', sj⟩ := HR.out
              clear HR
              by_cases hlt : j < K
              · focus
                  have g1 : (j : Int) < (K : Int) := by omega
                  obtain ⟨a1, a2⟩ := HU1.out j hlt
                  rw [← HLN.out, ← HEE.out] at a2
                  have a3 : (cS c T j).2.1.ans (cS c T j).1 = anOf LN EE j := a2
                  have hd := cmDone sj 4 rfl
                  rw [a1] at hd
                  have hq := cmStep sj 8 7 4 (by decide) (by decide) (by decide) rfl rfl rfl HAF.out.live.f (HDT.out j) (HFT.out j) (HOT.out j) (by have := HK2.out; omega) (HWT.out j)
                  rw [a3] at hq
                  clear sj a1 a2 a3
                  go_wp2_with (go_at_call 32; refine hd.mono ?_; rintro e wq ⟨rfl, rfl⟩)
                  refine hq.mono ?_
                  rintro e w26 ⟨rfl, D', v', vl2, vd2, vv2, dl2, dv2, s26⟩
                  have H26 : Hid (∃ D v vl vd' vv dl dv, St w (ownI 104 4 (.slice va VV.length vc) VV.length (vtCells VV) :: [boxI V #[.slice (some ⟨qa, 0, none⟩) 64 ca2, .int .i64 0, .int .i64 0, .slice (some ⟨qb, 0, none⟩) 8 cb2] 95, ownI 2 1 (.slice (some ⟨qa, 0, none⟩) 64 ca2) 64 (clCells (if endOf vd = 0 then putL z0.xs ps else z0.xs)), ownI 101 8 (.slice (some ⟨qb, 0, none⟩) 8 cb2) 8 (slCells (slots (if endOf vd = 0 then HH VV.length else z0.hs) z0.ws)), cmI A B D (cS c T (j + 1)).2.1 vl vd' vv dl dv, boxI F #[.int .u64 WS.lo, .int .u64 WS.hi] 87, ownI 59 2 (.slice (some ⟨gw, 0, none⟩) ps.length cw) ps.length (prCells ps), boxI B.J (jd c (cS c T (j + 1)).2.2) 146, spI A c (cS c T (j + 1)).1 v (.slice none 0 0), boxI M #[.int .i64 c.ce, .int .i64 c.sl, .int .i64 c.bi, .int .i64 c.ta, .int .i64 c.ba, .int .i64 c.de] 23]) w26) := ⟨_, _, _, _, _, _, _, s26⟩
                  clear hq hd s26
                  rcases wt_step LN EE j with ⟨e2, e0, e3⟩ | ⟨e2, e3⟩
                  · have HE3 : Hid _ := e3
                    clear e3
                    rw [e0, e2]
                    clear e0 e2
                    go_wp2_with fail
                    go_roundw
                    case rel => exact ⟨j + 1, by go_num, by omega, by rw [HE3.out], H26⟩
                    case measure => simp [intOf]; omega
                  · have HE3 : Hid _ := e3
                    clear e3
                    rw [e2]
                    clear e2
                    generalize wtOf LN EE j = wt at *
                    go_wp2_with fail
                    go_roundw
                    case rel => exact ⟨j + 1, by go_num, by omega, by rw [HE3.out], H26⟩
                    case measure => simp [intOf]; omega
              · obtain rfl : K = j := by omega
                have g1 : ¬ (K : Int) < (K : Int) := by omega
                have hwt : wtOf LN EE K = if EE = 9 then 1 else 0 := by
                  unfold wtOf
                  have := HK2.out
                  by_cases h : EE = 9
                  · rw [if_pos ⟨by omega, h⟩, if_pos h]
                  · rw [if_neg (fun e => h e.2), if_neg h]
                have HWT1 : Hid (wtOf LN EE K = if EE = 9 then 1 else 0) := hwt
                clear hwt
                generalize wtOf LN EE K = wt at *
                obtain ⟨XF, hXF⟩ : ∃ XF, XF = (if endOf vd = 0 then putL z0.xs ps else z0.xs) := ⟨_, rfl⟩
                obtain ⟨HF, hHF⟩ : ∃ HF, HF = (if endOf vd = 0 then HH VV.length else z0.hs) := ⟨_, rfl⟩
                have HF8 : Hid (HF.length = 8) := by
                  rw [hHF]
                  show _ = _
                  split
                  · exact HT.out _
                  · exact HAF.out.hl
                have HXL : Hid (XF.length = 64) := by
                  rw [hXF]
                  show _ = _
                  split
                  · exact putL_len ps HAF.out.xl
                  · exact HAF.out.xl
                obtain ⟨e1, e2, e3, e4, e5, e6, e7, e8⟩ := HUE.out
                rw [← hXF] at e7 sj
                rw [← hHF] at e8 sj
                rw [← HEE.out] at e2 e3
                have hfr : (freeOp 1).H HF 0 = HF.set 0 ⟨1, 0, 0, 0, false, 0⟩ := by
                  have := al_free (wr := WS) HAF.out.ok HAF.out.hl (by rw [HAF.out.x]) HAF.out.mine (endOf vd = 0)
                  rw [hHF, HHE.out, HVV.out]
                  exact this
                rw [hfr] at e8
                have HUF : Hid ((cS c T K).2.1.done = true ∧ (cS c T K).2.1.end_ = EE ∧ (cS c T K).2.1.won = decide (EE = 0) ∧ (cS c T K).2.1.lk.vs = VV ∧ (cS c T K).1.x = ⟨2, 0⟩ ∧ (cS c T K).1.ws = z0.ws ∧ (cS c T K).1.xs = XF ∧ (cS c T K).1.hs = HF.set 0 ⟨1, 0, 0, 0, false, 0⟩) := ⟨e1, e2, e3, e4, e5, e6, e7, e8⟩
                clear e1 e2 e3 e4 e5 e6 e7 e8 hXF hHF hfr HUE HU1
                have s30 : St w [ownI 104 4 (.slice va VV.length vc) VV.length (vtCells VV), boxI V #[.slice (some ⟨qa, 0, none⟩) 64 ca2, .int .i64 2, .int .i64 0, .slice (some ⟨qb, 0, none⟩) 8 cb2] 95, ownI 2 1 (.slice (some ⟨qa, 0, none⟩) 64 ca2) 64 (clCells XF), ownI 101 8 (.slice (some ⟨qb, 0, none⟩) 8 cb2) 8 (slCells (slots HF z0.ws)), cmI A B D (cS c T K).2.1 vl' vd' vv dl' dv', boxI F #[.int .u64 WS.lo, .int .u64 WS.hi] 87, ownI 59 2 (.slice (some ⟨gw, 0, none⟩) ps.length cw) ps.length (prCells ps), boxI B.J (jd c (cS c T K).2.2) 146, spI A c (cS c T K).1 v (.slice none 0 0), boxI M #[.int .i64 c.ce, .int .i64 c.sl, .int .i64 c.bi, .int .i64 c.ta, .int .i64 c.ba, .int .i64 c.de] 23] ((wr.setCell ⟨V, 1, none⟩ (.int .i64 2)).setCell ⟨V, 2, none⟩ (.int .i64 0)) := (sj.write 1 rfl 1 (.int .i64 2)).write 1 rfl 2 (.int .i64 0)
                have v1 : wr.cell? ⟨V, 1, none⟩ = some (.int .i64 0) := sj.cell 1 rfl 1
                have v2 : wr.cell? ⟨V, 2, none⟩ = some (.int .i64 0) := sj.cell 1 rfl 2
                have y1 := sj.frozen 1 rfl 1
                have y2 := sj.frozen 1 rfl 2
                clear sj
                go_upto_region 56 with fail
                generalize (wr.setCell ⟨V, 1, none⟩ (.int .i64 2)).setCell ⟨V, 2, none⟩ (.int .i64 0) = w30 at *
                clear v1 v2 y1 y2
                have v3 : w30.cell? ⟨V, 3, none⟩ = some (.slice (some ⟨qb, 0, none⟩) 8 cb2) := s30.cell 1 rfl 3
                have s31 : St w [ownI 104 4 (.slice va VV.length vc) VV.length (vtCells VV), boxI V #[.slice (some ⟨qa, 0, none⟩) 64 ca2, .int .i64 2, .int .i64 0, .slice (some ⟨qb, 0, none⟩) 8 cb2] 95, ownI 2 1 (.slice (some ⟨qa, 0, none⟩) 64 ca2) 64 (clCells XF), ownI 101 8 (.slice (some ⟨qb, 0, none⟩) 8 cb2) 8 (slCells (slots (HF.set 0 ⟨1, 0, 0, 0, false, 0⟩) z0.ws)), cmI A B D (cS c T K).2.1 vl' vd' vv dl' dv', boxI F #[.int .u64 WS.lo, .int .u64 WS.hi] 87, ownI 59 2 (.slice (some ⟨gw, 0, none⟩) ps.length cw) ps.length (prCells ps), boxI B.J (jd c (cS c T K).2.2) 146, spI A c (cS c T K).1 v (.slice none 0 0), boxI M #[.int .i64 c.ce, .int .i64 c.sl, .int .i64 c.bi, .int .i64 c.ta, .int .i64 c.ba, .int .i64 c.de] 23] ((((((w30.setCell ⟨qb, 0, none⟩ (.int .i64 1)).setCell ⟨qb, 1, none⟩ (.int .i64 0)).setCell ⟨qb, 2, none⟩ (.int .i64 0)).setCell ⟨qb, 3, none⟩ (.int .i64 0)).setCell ⟨qb, 4, none⟩ (.bool false)).setCell ⟨qb, 5, none⟩ (.int .i64 0)) := by
                  have hsd : ∀ m, m = HF.length → St w [ownI 104 4 (.slice va VV.length vc) VV.length (vtCells VV), boxI V #[.slice (some ⟨qa, 0, none⟩) 64 ca2, .int .i64 2, .int .i64 0, .slice (some ⟨qb, 0, none⟩) 8 cb2] 95, ownI 2 1 (.slice (some ⟨qa, 0, none⟩) 64 ca2) 64 (clCells XF), ownI 101 8 (.slice (some ⟨qb, 0, none⟩) m cb2) m (slCells (slots HF z0.ws)), cmI A B D (cS c T K).2.1 vl' vd' vv dl' dv', boxI F #[.int .u64 WS.lo, .int .u64 WS.hi] 87, ownI 59 2 (.slice (some ⟨gw, 0, none⟩) ps.length cw) ps.length (prCells ps), boxI B.J (jd c (cS c T K).2.2) 146, spI A c (cS c T K).1 v (.slice none 0 0), boxI M #[.int .i64 c.ce, .int .i64 c.sl, .int .i64 c.bi, .int .i64 c.ta, .int .i64 c.ba, .int .i64 c.de] 23] w30 → St w [ownI 104 4 (.slice va VV.length vc) VV.length (vtCells VV), boxI V #[.slice (some ⟨qa, 0, none⟩) 64 ca2, .int .i64 2, .int .i64 0, .slice (some ⟨qb, 0, none⟩) 8 cb2] 95, ownI 2 1 (.slice (some ⟨qa, 0, none⟩) 64 ca2) 64 (clCells XF), ownI 101 8 (.slice (some ⟨qb, 0, none⟩) m cb2) m (slCells (slots (HF.set 0 ⟨1, 0, 0, 0, false, 0⟩) z0.ws)), cmI A B D (cS c T K).2.1 vl' vd' vv dl' dv', boxI F #[.int .u64 WS.lo, .int .u64 WS.hi] 87, ownI 59 2 (.slice (some ⟨gw, 0, none⟩) ps.length cw) ps.length (prCells ps), boxI B.J (jd c (cS c T K).2.2) 146, spI A c (cS c T K).1 v (.slice none 0 0), boxI M #[.int .i64 c.ce, .int .i64 c.sl, .int .i64 c.bi, .int .i64 c.ta, .int .i64 c.ba, .int .i64 c.de] 23] ((((((w30.setCell ⟨qb, 0, none⟩ (.int .i64 1)).setCell ⟨qb, 1, none⟩ (.int .i64 0)).setCell ⟨qb, 2, none⟩ (.int .i64 0)).setCell ⟨qb, 3, none⟩ (.int .i64 0)).setCell ⟨qb, 4, none⟩ (.bool false)).setCell ⟨qb, 5, none⟩ (.int .i64 0)) := by
                    intro m hm h
                    subst hm
                    have := h.slotHead 3 rfl (by rw [HWL.out, HF8.out]) (k := 0) (by rw [HF8.out]; decide) ⟨1, 0, 0, 0, false, 0⟩
                    simp only [Nat.zero_mul, Nat.zero_add] at this
                    exact this
                  exact hsd 8 HF8.out.symm s30
                have q0 := own_some s30 3 rfl (j := 0) (by decide)
                have q1 := own_some s30 3 rfl (j := 1) (by decide)
                have q2 := own_some s30 3 rfl (j := 2) (by decide)
                have q3 := own_some s30 3 rfl (j := 3) (by decide)
                have q4 := own_some s30 3 rfl (j := 4) (by decide)
                have q5 := own_some s30 3 rfl (j := 5) (by decide)
                obtain ⟨x0, q0⟩ := q0
                obtain ⟨x1, q1⟩ := q1
                obtain ⟨x2, q2⟩ := q2
                obtain ⟨x3, q3⟩ := q3
                obtain ⟨x4, q4⟩ := q4
                obtain ⟨x5, q5⟩ := q5
                have y0 := s30.ownFrozen 3 rfl 0
                have y1 := s30.ownFrozen 3 rfl 1
                have y2 := s30.ownFrozen 3 rfl 2
                have y3 := s30.ownFrozen 3 rfl 3
                have y4 := s30.ownFrozen 3 rfl 4
                have y5 := s30.ownFrozen 3 rfl 5
                clear s30
                go_upto_region 57 with fail
                generalize ((((((w30.setCell ⟨qb, 0, none⟩ (.int .i64 1)).setCell ⟨qb, 1, none⟩ (.int .i64 0)).setCell ⟨qb, 2, none⟩ (.int .i64 0)).setCell ⟨qb, 3, none⟩ (.int .i64 0)).setCell ⟨qb, 4, none⟩ (.bool false)).setCell ⟨qb, 5, none⟩ (.int .i64 0)) = w31 at *
                clear v3 q0 q1 q2 q3 q4 q5 y0 y1 y2 y3 y4 y5
                have okK := HOT.out K
                have hq := spView s31 8 rfl okK.wl okK.h1 okK.h8
                rw [HUF.out.2.2.2.2.1, HUF.out.2.2.2.2.2.2.1, HUF.out.2.2.2.2.2.2.2, HUF.out.2.2.2.2.2.1, HXL.out] at hq
                have hhl : (HF.set 0 ⟨1, 0, 0, 0, false, 0⟩).length = 8 := by rw [List.length_set]; exact HF8.out
                rw [hhl] at hq
                clear hhl
                simp only at hq
                unfold spp at hq
                clear s31 okK
                go_wp2_with fail
                refine hq.mono ?_
                rintro e w32 ⟨va3, vb3, rfl, s32⟩
                clear hq
                obtain ⟨ra, ca3, rfl⟩ := s32.form 0 rfl (by decide)
                obtain ⟨rb, cb3, rfl⟩ := s32.form 1 rfl (by decide)
                have s33 := s32.box #[.slice (some ⟨ra, 0, none⟩) 64 ca3, .int .i64 2, .int .i64 0, .slice (some ⟨rb, 0, none⟩) 8 cb3] 95
                clear s32
                go_upto_region 58 with fail
                generalize w32.alloc (.cells #[.slice (some ⟨ra, 0, none⟩) 64 ca3, .int .i64 2, .int .i64 0, .slice (some ⟨rb, 0, none⟩) 8 cb3] 95) = w33 at *
                generalize w32.heap.size = V2 at *
                go_cut [284] from 222 to 284 (fun u wx => u = .bool false ∧ St w [boxI V2 #[.slice (some ⟨ra, 0, none⟩) 64 ca3, .int .i64 2, .int .i64 0, .slice (some ⟨rb, 0, none⟩) 8 cb3] 95, ownI 2 1 (.slice (some ⟨ra, 0, none⟩) 64 ca3) 64 (clCells XF), ownI 101 8 (.slice (some ⟨rb, 0, none⟩) 8 cb3) 8 (slCells (slots (HF.set 0 ⟨1, 0, 0, 0, false, 0⟩) z0.ws)), ownI 104 4 (.slice va VV.length vc) VV.length (vtCells VV), boxI V #[.slice (some ⟨qa, 0, none⟩) 64 ca2, .int .i64 2, .int .i64 0, .slice (some ⟨qb, 0, none⟩) 8 cb2] 95, ownI 2 1 (.slice (some ⟨qa, 0, none⟩) 64 ca2) 64 (clCells XF), ownI 101 8 (.slice (some ⟨qb, 0, none⟩) 8 cb2) 8 (slCells (slots (HF.set 0 ⟨1, 0, 0, 0, false, 0⟩) z0.ws)), cmI A B D (cS c T K).2.1 vl' vd' vv dl' dv', boxI F #[.int .u64 WS.lo, .int .u64 WS.hi] 87, ownI 59 2 (.slice (some ⟨gw, 0, none⟩) ps.length cw) ps.length (prCells ps), boxI B.J (jd c (cS c T K).2.2) 146, spI A c (cS c T K).1 v (.slice none 0 0), boxI M #[.int .i64 c.ce, .int .i64 c.sl, .int .i64 c.bi, .int .i64 c.ta, .int .i64 c.ba, .int .i64 c.de] 23] wx)
                case first =>
                  rcases HEV.out with hEv | hEv | hEv
                  · obtain rfl : EE = 0 := hEv
                    have hwt : wt = 0 := by rw [HWT1.out]; decide
                    obtain ⟨e1, e2, e3, e4, _⟩ := HUF.out
                    have hd := cmDone s33 7 rfl
                    have hE := cmEnd s33 7 rfl
                    have hWo := cmWon s33 7 rfl
                    rw [e1] at hd
                    rw [e2] at hE
                    rw [e3] at hWo
                    have hW2 : decide ((0 : Int) = 0) = true := by decide
                    rw [hW2] at hWo
                    clear hW2 e1 e2 e3
                    have v1 : w33.cell? ⟨V2, 1, none⟩ = some (.int .i64 2) := s33.cell 0 rfl 1
                    have v2 : w33.cell? ⟨V2, 2, none⟩ = some (.int .i64 0) := s33.cell 0 rfl 2
                    have u1 : w33.cell? ⟨V, 1, none⟩ = some (.int .i64 2) := s33.cell 4 rfl 1
                    have u2 : w33.cell? ⟨V, 2, none⟩ = some (.int .i64 0) := s33.cell 4 rfl 2
                    have m0 : w33.cell? ⟨M, 0, none⟩ = some (.int .i64 c.ce) := s33.cell 12 rfl 0
                    have m1 : w33.cell? ⟨M, 1, none⟩ = some (.int .i64 c.sl) := s33.cell 12 rfl 1
                    have m2 : w33.cell? ⟨M, 2, none⟩ = some (.int .i64 c.bi) := s33.cell 12 rfl 2
                    have m3 : w33.cell? ⟨M, 3, none⟩ = some (.int .i64 c.ta) := s33.cell 12 rfl 3
                    have m4 : w33.cell? ⟨M, 4, none⟩ = some (.int .i64 c.ba) := s33.cell 12 rfl 4
                    have m5 : w33.cell? ⟨M, 5, none⟩ = some (.int .i64 c.de) := s33.cell 12 rfl 5
                    have hng := fun W => neGt 2 0 W
                    have hMo := most_any c ps.length w33
                    have hmv : mostV c (ps.length : Int) = 31 + (ps.length : Int) := by
                      unfold mostV
                      rw [if_pos ⟨HAF.out.live.f, by omega, by omega⟩, HAF.out.sl]
                      omega
                    rw [hmv] at hMo
                    unfold Cfg.val at hMo
                    clear hmv
                    have hkm : decide (1 + (31 + (ps.length : Int)) < (K : Int)) = false := by have := HK2.out; simp; omega
                    have hl16' : (ps.length : Int) ≤ 16 := by omega
                    have ftK := HFT.out K
                    subst hwt
                    go_wp2_with fail
                    refine hd.mono ?_
                    rintro e wq ⟨rfl, rfl⟩
                    go_wp2_with fail
                    refine hE.mono ?_
                    rintro e wq ⟨rfl, rfl⟩
                    go_wp2_with fail
                    refine hWo.mono ?_
                    rintro e wq ⟨rfl, rfl⟩
                    clear hd hE hWo
                    go_wp2_with (simp only [hng])
                    refine hMo.mono ?_
                    rintro e w34 ⟨rfl, k34⟩
                    have s34 := s33.calm k34
                    clear hMo k34 s33 v1 v2 u1 u2 m0 m1 m2 m3 m4 m5
                    have hV := cmVictims s34 7 rfl ftK.lk
                    rw [e4] at hV
                    clear s34 ftK
                    go_wp2_with fail
                    refine hV.mono ?_
                    rintro e w35 ⟨vv1, rfl, s35⟩
                    clear hV
                    obtain ⟨la13, lc13, e13, hVa, _⟩ := own_vin0 (ys := VV) (s35.get 0 rfl)
                    subst e13
                    obtain ⟨_, _, e2', hVb, _⟩ := own_vin0 (ys := VV) (s35.get 4 rfl)
                    simp only [Value.slice.injEq, true_and] at e2'
                    rw [← e2'.1] at hVb
                    have hsm := sameVt w35 la13 va VV.length lc13 vc VV hVa hVb (by omega)
                    have HS35 : Hid (∀ n, St w [boxI V2 #[.slice (some ⟨ra, 0, none⟩) 64 ca3, .int .i64 2, .int .i64 0, .slice (some ⟨rb, 0, none⟩) 8 cb3] 95, ownI 2 1 (.slice (some ⟨ra, 0, none⟩) 64 ca3) 64 (clCells XF), ownI 101 8 (.slice (some ⟨rb, 0, none⟩) 8 cb3) 8 (slCells (slots (HF.set 0 ⟨1, 0, 0, 0, false, 0⟩) z0.ws)), ownI 104 4 (.slice va VV.length vc) VV.length (vtCells VV), boxI V #[.slice (some ⟨qa, 0, none⟩) 64 ca2, .int .i64 2, .int .i64 0, .slice (some ⟨qb, 0, none⟩) 8 cb2] 95, ownI 2 1 (.slice (some ⟨qa, 0, none⟩) 64 ca2) 64 (clCells XF), ownI 101 8 (.slice (some ⟨qb, 0, none⟩) 8 cb2) 8 (slCells (slots (HF.set 0 ⟨1, 0, 0, 0, false, 0⟩) z0.ws)), cmI A B D (cS c T K).2.1 vl' vd' vv dl' dv', boxI F #[.int .u64 WS.lo, .int .u64 WS.hi] 87, ownI 59 2 (.slice (some ⟨gw, 0, none⟩) ps.length cw) ps.length (prCells ps), boxI B.J (jd c (cS c T K).2.2) 146, spI A c (cS c T K).1 v (.slice none 0 0), boxI M #[.int .i64 c.ce, .int .i64 c.sl, .int .i64 c.bi, .int .i64 c.ta, .int .i64 c.ba, .int .i64 c.de] 23] (w35.drewN n)) := fun n => (s35.calm ((Kept.refl _ _).drewN n)).pop
                    clear s35 hVa hVb e2'
                    go_wp2_with fail
                    refine hsm.mono ?_
                    rintro e w36 ⟨rfl, q36, hq36⟩
                    have H36 : Hid (St w [boxI V2 #[.slice (some ⟨ra, 0, none⟩) 64 ca3, .int .i64 2, .int .i64 0, .slice (some ⟨rb, 0, none⟩) 8 cb3] 95, ownI 2 1 (.slice (some ⟨ra, 0, none⟩) 64 ca3) 64 (clCells XF), ownI 101 8 (.slice (some ⟨rb, 0, none⟩) 8 cb3) 8 (slCells (slots (HF.set 0 ⟨1, 0, 0, 0, false, 0⟩) z0.ws)), ownI 104 4 (.slice va VV.length vc) VV.length (vtCells VV), boxI V #[.slice (some ⟨qa, 0, none⟩) 64 ca2, .int .i64 2, .int .i64 0, .slice (some ⟨qb, 0, none⟩) 8 cb2] 95, ownI 2 1 (.slice (some ⟨qa, 0, none⟩) 64 ca2) 64 (clCells XF), ownI 101 8 (.slice (some ⟨qb, 0, none⟩) 8 cb2) 8 (slCells (slots (HF.set 0 ⟨1, 0, 0, 0, false, 0⟩) z0.ws)), cmI A B D (cS c T K).2.1 vl' vd' vv dl' dv', boxI F #[.int .u64 WS.lo, .int .u64 WS.hi] 87, ownI 59 2 (.slice (some ⟨gw, 0, none⟩) ps.length cw) ps.length (prCells ps), boxI B.J (jd c (cS c T K).2.2) 146, spI A c (cS c T K).1 v (.slice none 0 0), boxI M #[.int .i64 c.ce, .int .i64 c.sl, .int .i64 c.bi, .int .i64 c.ta, .int .i64 c.ba, .int .i64 c.de] 23] w36) := by rw [hq36]; exact HS35.out q36
                    clear hsm hq36 HS35
                    go_wp2_with fail
                    go_meet
                    exact ⟨by first | rfl | rw [hkm], H36.out⟩
                  · obtain rfl : EE = 8 := hEv
                    have hwt : wt = 0 := by rw [HWT1.out]; decide
                    obtain ⟨e1, e2, e3, e4, _⟩ := HUF.out
                    have hd := cmDone s33 7 rfl
                    have hE := cmEnd s33 7 rfl
                    have hWo := cmWon s33 7 rfl
                    rw [e1] at hd
                    rw [e2] at hE
                    rw [e3] at hWo
                    have hW2 : decide ((8 : Int) = 0) = false := by decide
                    rw [hW2] at hWo
                    clear hW2 e1 e2 e3
                    have v1 : w33.cell? ⟨V2, 1, none⟩ = some (.int .i64 2) := s33.cell 0 rfl 1
                    have v2 : w33.cell? ⟨V2, 2, none⟩ = some (.int .i64 0) := s33.cell 0 rfl 2
                    have u1 : w33.cell? ⟨V, 1, none⟩ = some (.int .i64 2) := s33.cell 4 rfl 1
                    have u2 : w33.cell? ⟨V, 2, none⟩ = some (.int .i64 0) := s33.cell 4 rfl 2
                    have m0 : w33.cell? ⟨M, 0, none⟩ = some (.int .i64 c.ce) := s33.cell 12 rfl 0
                    have m1 : w33.cell? ⟨M, 1, none⟩ = some (.int .i64 c.sl) := s33.cell 12 rfl 1
                    have m2 : w33.cell? ⟨M, 2, none⟩ = some (.int .i64 c.bi) := s33.cell 12 rfl 2
                    have m3 : w33.cell? ⟨M, 3, none⟩ = some (.int .i64 c.ta) := s33.cell 12 rfl 3
                    have m4 : w33.cell? ⟨M, 4, none⟩ = some (.int .i64 c.ba) := s33.cell 12 rfl 4
                    have m5 : w33.cell? ⟨M, 5, none⟩ = some (.int .i64 c.de) := s33.cell 12 rfl 5
                    have hng := fun W => neGt 2 0 W
                    have hMo := most_any c ps.length w33
                    have hmv : mostV c (ps.length : Int) = 31 + (ps.length : Int) := by
                      unfold mostV
                      rw [if_pos ⟨HAF.out.live.f, by omega, by omega⟩, HAF.out.sl]
                      omega
                    rw [hmv] at hMo
                    unfold Cfg.val at hMo
                    clear hmv
                    have hkm : decide (1 + (31 + (ps.length : Int)) < (K : Int)) = false := by have := HK2.out; simp; omega
                    have hl16' : (ps.length : Int) ≤ 16 := by omega
                    have ftK := HFT.out K
                    subst hwt
                    go_wp2_with fail
                    refine hd.mono ?_
                    rintro e wq ⟨rfl, rfl⟩
                    go_wp2_with fail
                    refine hE.mono ?_
                    rintro e wq ⟨rfl, rfl⟩
                    go_wp2_with fail
                    refine hWo.mono ?_
                    rintro e wq ⟨rfl, rfl⟩
                    clear hd hE hWo
                    go_wp2_with (simp only [hng])
                    refine hMo.mono ?_
                    rintro e w34 ⟨rfl, k34⟩
                    have s34 := s33.calm k34
                    clear hMo k34 s33 v1 v2 u1 u2 m0 m1 m2 m3 m4 m5
                    have hV := cmVictims s34 7 rfl ftK.lk
                    rw [e4] at hV
                    clear s34 ftK
                    go_wp2_with fail
                    refine hV.mono ?_
                    rintro e w35 ⟨vv1, rfl, s35⟩
                    clear hV
                    obtain ⟨la13, lc13, e13, hVa, _⟩ := own_vin0 (ys := VV) (s35.get 0 rfl)
                    subst e13
                    obtain ⟨_, _, e2', hVb, _⟩ := own_vin0 (ys := VV) (s35.get 4 rfl)
                    simp only [Value.slice.injEq, true_and] at e2'
                    rw [← e2'.1] at hVb
                    have hsm := sameVt w35 la13 va VV.length lc13 vc VV hVa hVb (by omega)
                    have HS35 : Hid (∀ n, St w [boxI V2 #[.slice (some ⟨ra, 0, none⟩) 64 ca3, .int .i64 2, .int .i64 0, .slice (some ⟨rb, 0, none⟩) 8 cb3] 95, ownI 2 1 (.slice (some ⟨ra, 0, none⟩) 64 ca3) 64 (clCells XF), ownI 101 8 (.slice (some ⟨rb, 0, none⟩) 8 cb3) 8 (slCells (slots (HF.set 0 ⟨1, 0, 0, 0, false, 0⟩) z0.ws)), ownI 104 4 (.slice va VV.length vc) VV.length (vtCells VV), boxI V #[.slice (some ⟨qa, 0, none⟩) 64 ca2, .int .i64 2, .int .i64 0, .slice (some ⟨qb, 0, none⟩) 8 cb2] 95, ownI 2 1 (.slice (some ⟨qa, 0, none⟩) 64 ca2) 64 (clCells XF), ownI 101 8 (.slice (some ⟨qb, 0, none⟩) 8 cb2) 8 (slCells (slots (HF.set 0 ⟨1, 0, 0, 0, false, 0⟩) z0.ws)), cmI A B D (cS c T K).2.1 vl' vd' vv dl' dv', boxI F #[.int .u64 WS.lo, .int .u64 WS.hi] 87, ownI 59 2 (.slice (some ⟨gw, 0, none⟩) ps.length cw) ps.length (prCells ps), boxI B.J (jd c (cS c T K).2.2) 146, spI A c (cS c T K).1 v (.slice none 0 0), boxI M #[.int .i64 c.ce, .int .i64 c.sl, .int .i64 c.bi, .int .i64 c.ta, .int .i64 c.ba, .int .i64 c.de] 23] (w35.drewN n)) := fun n => (s35.calm ((Kept.refl _ _).drewN n)).pop
                    clear s35 hVa hVb e2'
                    go_wp2_with fail
                    refine hsm.mono ?_
                    rintro e w36 ⟨rfl, q36, hq36⟩
                    have H36 : Hid (St w [boxI V2 #[.slice (some ⟨ra, 0, none⟩) 64 ca3, .int .i64 2, .int .i64 0, .slice (some ⟨rb, 0, none⟩) 8 cb3] 95, ownI 2 1 (.slice (some ⟨ra, 0, none⟩) 64 ca3) 64 (clCells XF), ownI 101 8 (.slice (some ⟨rb, 0, none⟩) 8 cb3) 8 (slCells (slots (HF.set 0 ⟨1, 0, 0, 0, false, 0⟩) z0.ws)), ownI 104 4 (.slice va VV.length vc) VV.length (vtCells VV), boxI V #[.slice (some ⟨qa, 0, none⟩) 64 ca2, .int .i64 2, .int .i64 0, .slice (some ⟨qb, 0, none⟩) 8 cb2] 95, ownI 2 1 (.slice (some ⟨qa, 0, none⟩) 64 ca2) 64 (clCells XF), ownI 101 8 (.slice (some ⟨qb, 0, none⟩) 8 cb2) 8 (slCells (slots (HF.set 0 ⟨1, 0, 0, 0, false, 0⟩) z0.ws)), cmI A B D (cS c T K).2.1 vl' vd' vv dl' dv', boxI F #[.int .u64 WS.lo, .int .u64 WS.hi] 87, ownI 59 2 (.slice (some ⟨gw, 0, none⟩) ps.length cw) ps.length (prCells ps), boxI B.J (jd c (cS c T K).2.2) 146, spI A c (cS c T K).1 v (.slice none 0 0), boxI M #[.int .i64 c.ce, .int .i64 c.sl, .int .i64 c.bi, .int .i64 c.ta, .int .i64 c.ba, .int .i64 c.de] 23] w36) := by rw [hq36]; exact HS35.out q36
                    clear hsm hq36 HS35
                    go_wp2_with fail
                    go_meet
                    exact ⟨by first | rfl | rw [hkm], H36.out⟩
                  · obtain rfl : EE = 9 := hEv
                    have hwt : wt = 1 := by rw [HWT1.out]; decide
                    obtain ⟨e1, e2, e3, e4, _⟩ := HUF.out
                    have hd := cmDone s33 7 rfl
                    have hE := cmEnd s33 7 rfl
                    have hWo := cmWon s33 7 rfl
                    rw [e1] at hd
                    rw [e2] at hE
                    rw [e3] at hWo
                    have hW2 : decide ((9 : Int) = 0) = false := by decide
                    rw [hW2] at hWo
                    clear hW2 e1 e2 e3
                    have v1 : w33.cell? ⟨V2, 1, none⟩ = some (.int .i64 2) := s33.cell 0 rfl 1
                    have v2 : w33.cell? ⟨V2, 2, none⟩ = some (.int .i64 0) := s33.cell 0 rfl 2
                    have u1 : w33.cell? ⟨V, 1, none⟩ = some (.int .i64 2) := s33.cell 4 rfl 1
                    have u2 : w33.cell? ⟨V, 2, none⟩ = some (.int .i64 0) := s33.cell 4 rfl 2
                    have m0 : w33.cell? ⟨M, 0, none⟩ = some (.int .i64 c.ce) := s33.cell 12 rfl 0
                    have m1 : w33.cell? ⟨M, 1, none⟩ = some (.int .i64 c.sl) := s33.cell 12 rfl 1
                    have m2 : w33.cell? ⟨M, 2, none⟩ = some (.int .i64 c.bi) := s33.cell 12 rfl 2
                    have m3 : w33.cell? ⟨M, 3, none⟩ = some (.int .i64 c.ta) := s33.cell 12 rfl 3
                    have m4 : w33.cell? ⟨M, 4, none⟩ = some (.int .i64 c.ba) := s33.cell 12 rfl 4
                    have m5 : w33.cell? ⟨M, 5, none⟩ = some (.int .i64 c.de) := s33.cell 12 rfl 5
                    have hng := fun W => neGt 2 0 W
                    have hMo := most_any c ps.length w33
                    have hmv : mostV c (ps.length : Int) = 31 + (ps.length : Int) := by
                      unfold mostV
                      rw [if_pos ⟨HAF.out.live.f, by omega, by omega⟩, HAF.out.sl]
                      omega
                    rw [hmv] at hMo
                    unfold Cfg.val at hMo
                    clear hmv
                    have hkm : decide (1 + (31 + (ps.length : Int)) < (K : Int)) = false := by have := HK2.out; simp; omega
                    have hl16' : (ps.length : Int) ≤ 16 := by omega
                    have ftK := HFT.out K
                    subst hwt
                    go_wp2_with fail
                    refine hd.mono ?_
                    rintro e wq ⟨rfl, rfl⟩
                    go_wp2_with fail
                    refine hE.mono ?_
                    rintro e wq ⟨rfl, rfl⟩
                    go_wp2_with fail
                    refine hWo.mono ?_
                    rintro e wq ⟨rfl, rfl⟩
                    clear hd hE hWo
                    go_wp2_with (simp only [hng])
                    refine hMo.mono ?_
                    rintro e w34 ⟨rfl, k34⟩
                    have s34 := s33.calm k34
                    clear hMo k34 s33 v1 v2 u1 u2 m0 m1 m2 m3 m4 m5
                    have hV := cmVictims s34 7 rfl ftK.lk
                    rw [e4] at hV
                    clear s34 ftK
                    go_wp2_with fail
                    refine hV.mono ?_
                    rintro e w35 ⟨vv1, rfl, s35⟩
                    clear hV
                    obtain ⟨la13, lc13, e13, hVa, _⟩ := own_vin0 (ys := VV) (s35.get 0 rfl)
                    subst e13
                    obtain ⟨_, _, e2', hVb, _⟩ := own_vin0 (ys := VV) (s35.get 4 rfl)
                    simp only [Value.slice.injEq, true_and] at e2'
                    rw [← e2'.1] at hVb
                    have hsm := sameVt w35 la13 va VV.length lc13 vc VV hVa hVb (by omega)
                    have HS35 : Hid (∀ n, St w [boxI V2 #[.slice (some ⟨ra, 0, none⟩) 64 ca3, .int .i64 2, .int .i64 0, .slice (some ⟨rb, 0, none⟩) 8 cb3] 95, ownI 2 1 (.slice (some ⟨ra, 0, none⟩) 64 ca3) 64 (clCells XF), ownI 101 8 (.slice (some ⟨rb, 0, none⟩) 8 cb3) 8 (slCells (slots (HF.set 0 ⟨1, 0, 0, 0, false, 0⟩) z0.ws)), ownI 104 4 (.slice va VV.length vc) VV.length (vtCells VV), boxI V #[.slice (some ⟨qa, 0, none⟩) 64 ca2, .int .i64 2, .int .i64 0, .slice (some ⟨qb, 0, none⟩) 8 cb2] 95, ownI 2 1 (.slice (some ⟨qa, 0, none⟩) 64 ca2) 64 (clCells XF), ownI 101 8 (.slice (some ⟨qb, 0, none⟩) 8 cb2) 8 (slCells (slots (HF.set 0 ⟨1, 0, 0, 0, false, 0⟩) z0.ws)), cmI A B D (cS c T K).2.1 vl' vd' vv dl' dv', boxI F #[.int .u64 WS.lo, .int .u64 WS.hi] 87, ownI 59 2 (.slice (some ⟨gw, 0, none⟩) ps.length cw) ps.length (prCells ps), boxI B.J (jd c (cS c T K).2.2) 146, spI A c (cS c T K).1 v (.slice none 0 0), boxI M #[.int .i64 c.ce, .int .i64 c.sl, .int .i64 c.bi, .int .i64 c.ta, .int .i64 c.ba, .int .i64 c.de] 23] (w35.drewN n)) := fun n => (s35.calm ((Kept.refl _ _).drewN n)).pop
                    clear s35 hVa hVb e2'
                    go_wp2_with fail
                    refine hsm.mono ?_
                    rintro e w36 ⟨rfl, q36, hq36⟩
                    have H36 : Hid (St w [boxI V2 #[.slice (some ⟨ra, 0, none⟩) 64 ca3, .int .i64 2, .int .i64 0, .slice (some ⟨rb, 0, none⟩) 8 cb3] 95, ownI 2 1 (.slice (some ⟨ra, 0, none⟩) 64 ca3) 64 (clCells XF), ownI 101 8 (.slice (some ⟨rb, 0, none⟩) 8 cb3) 8 (slCells (slots (HF.set 0 ⟨1, 0, 0, 0, false, 0⟩) z0.ws)), ownI 104 4 (.slice va VV.length vc) VV.length (vtCells VV), boxI V #[.slice (some ⟨qa, 0, none⟩) 64 ca2, .int .i64 2, .int .i64 0, .slice (some ⟨qb, 0, none⟩) 8 cb2] 95, ownI 2 1 (.slice (some ⟨qa, 0, none⟩) 64 ca2) 64 (clCells XF), ownI 101 8 (.slice (some ⟨qb, 0, none⟩) 8 cb2) 8 (slCells (slots (HF.set 0 ⟨1, 0, 0, 0, false, 0⟩) z0.ws)), cmI A B D (cS c T K).2.1 vl' vd' vv dl' dv', boxI F #[.int .u64 WS.lo, .int .u64 WS.hi] 87, ownI 59 2 (.slice (some ⟨gw, 0, none⟩) ps.length cw) ps.length (prCells ps), boxI B.J (jd c (cS c T K).2.2) 146, spI A c (cS c T K).1 v (.slice none 0 0), boxI M #[.int .i64 c.ce, .int .i64 c.sl, .int .i64 c.bi, .int .i64 c.ta, .int .i64 c.ba, .int .i64 c.de] 23] w36) := by rw [hq36]; exact HS35.out q36
                    clear hsm hq36 HS35
                    go_wp2_with fail
                    go_meet
                    exact ⟨by first | rfl | rw [hkm], H36.out⟩
                case rest =>
                  obtain ⟨rfl, s36⟩ := hcut
                  obtain ⟨w36, hw36⟩ : ∃ y, y = wc := ⟨_, rfl⟩
                  subst hw36
                  clear s33
                  have HXC : Hid (∀ k, k < 64 → ∃ u, w36.cell? ⟨ra, k, none⟩ = some (.int .i64 u) ∧ w36.cell? ⟨qa, k, none⟩ = some (.int .i64 u)) := by
                    intro k hk
                    have hl := HXL.out
                    have s := s36
                    have e1 := clCells_at XF k (by omega)
                    exact ⟨_, (s.ownCell 1 rfl k (by omega)).trans e1, (s.ownCell 5 rfl k (by omega)).trans e1⟩
                  have HVC : Hid (w36.cell? ⟨V2, 0, none⟩ = some (.slice (some ⟨ra, 0, none⟩) 64 ca3) ∧ w36.cell? ⟨V, 0, none⟩ = some (.slice (some ⟨qa, 0, none⟩) 64 ca2) ∧ w36.cell? ⟨V2, 3, none⟩ = some (.slice (some ⟨rb, 0, none⟩) 8 cb3) ∧ w36.cell? ⟨V, 3, none⟩ = some (.slice (some ⟨qb, 0, none⟩) 8 cb2)) := by
                    have s := s36
                    exact ⟨s.cell 0 rfl 0, s.cell 4 rfl 0, s.cell 0 rfl 3, s.cell 4 rfl 3⟩
                  have HSC : Hid (∀ k, k < 8 → ∃ a b c d e f x y, (w36.cell? ⟨rb, k * 8, none⟩ = some (.int .i64 a) ∧ w36.cell? ⟨rb, k * 8 + 1, none⟩ = some (.int .i64 b) ∧ w36.cell? ⟨rb, k * 8 + 2, none⟩ = some (.int .i64 c) ∧ w36.cell? ⟨rb, k * 8 + 3, none⟩ = some (.int .i64 d) ∧ w36.cell? ⟨rb, k * 8 + 4, none⟩ = some (.bool e) ∧ w36.cell? ⟨rb, k * 8 + 5, none⟩ = some (.int .i64 f) ∧ w36.cell? ⟨rb, k * 8 + 6, none⟩ = some (.int .u64 x) ∧ w36.cell? ⟨rb, k * 8 + 7, none⟩ = some (.int .u64 y)) ∧ (w36.cell? ⟨qb, k * 8, none⟩ = some (.int .i64 a) ∧ w36.cell? ⟨qb, k * 8 + 1, none⟩ = some (.int .i64 b) ∧ w36.cell? ⟨qb, k * 8 + 2, none⟩ = some (.int .i64 c) ∧ w36.cell? ⟨qb, k * 8 + 3, none⟩ = some (.int .i64 d) ∧ w36.cell? ⟨qb, k * 8 + 4, none⟩ = some (.bool e) ∧ w36.cell? ⟨qb, k * 8 + 5, none⟩ = some (.int .i64 f) ∧ w36.cell? ⟨qb, k * 8 + 6, none⟩ = some (.int .u64 x) ∧ w36.cell? ⟨qb, k * 8 + 7, none⟩ = some (.int .u64 y))) := by
                    intro k hk
                    have s := s36
                    have hl : (HF.set 0 (⟨1, 0, 0, 0, false, 0⟩ : Hd)).length = 8 := by rw [List.length_set]; exact HF8.out
                    generalize HF.set 0 (⟨1, 0, 0, 0, false, 0⟩ : Hd) = HG at *
                    have key : ∀ g i cap, St w [boxI V2 #[.slice (some ⟨ra, 0, none⟩) 64 ca3, .int .i64 2, .int .i64 0, .slice (some ⟨rb, 0, none⟩) 8 cb3] 95, ownI 2 1 (.slice (some ⟨ra, 0, none⟩) 64 ca3) 64 (clCells XF), ownI 101 8 (.slice (some ⟨rb, 0, none⟩) 8 cb3) 8 (slCells (slots HG z0.ws)), ownI 104 4 (.slice va VV.length vc) VV.length (vtCells VV), boxI V #[.slice (some ⟨qa, 0, none⟩) 64 ca2, .int .i64 2, .int .i64 0, .slice (some ⟨qb, 0, none⟩) 8 cb2] 95, ownI 2 1 (.slice (some ⟨qa, 0, none⟩) 64 ca2) 64 (clCells XF), ownI 101 8 (.slice (some ⟨qb, 0, none⟩) 8 cb2) 8 (slCells (slots HG z0.ws)), cmI A B D (cS c T K).2.1 vl' vd' vv dl' dv', boxI F #[.int .u64 WS.lo, .int .u64 WS.hi] 87, ownI 59 2 (.slice (some ⟨gw, 0, none⟩) ps.length cw) ps.length (prCells ps), boxI B.J (jd c (cS c T K).2.2) 146, spI A c (cS c T K).1 v (.slice none 0 0), boxI M #[.int .i64 c.ce, .int .i64 c.sl, .int .i64 c.bi, .int .i64 c.ta, .int .i64 c.ba, .int .i64 c.de] 23] w36 → ([boxI V2 #[.slice (some ⟨ra, 0, none⟩) 64 ca3, .int .i64 2, .int .i64 0, .slice (some ⟨rb, 0, none⟩) 8 cb3] 95, ownI 2 1 (.slice (some ⟨ra, 0, none⟩) 64 ca3) 64 (clCells XF), ownI 101 8 (.slice (some ⟨rb, 0, none⟩) 8 cb3) 8 (slCells (slots HG z0.ws)), ownI 104 4 (.slice va VV.length vc) VV.length (vtCells VV), boxI V #[.slice (some ⟨qa, 0, none⟩) 64 ca2, .int .i64 2, .int .i64 0, .slice (some ⟨qb, 0, none⟩) 8 cb2] 95, ownI 2 1 (.slice (some ⟨qa, 0, none⟩) 64 ca2) 64 (clCells XF), ownI 101 8 (.slice (some ⟨qb, 0, none⟩) 8 cb2) 8 (slCells (slots HG z0.ws)), cmI A B D (cS c T K).2.1 vl' vd' vv dl' dv', boxI F #[.int .u64 WS.lo, .int .u64 WS.hi] 87, ownI 59 2 (.slice (some ⟨gw, 0, none⟩) ps.length cw) ps.length (prCells ps), boxI B.J (jd c (cS c T K).2.2) 146, spI A c (cS c T K).1 v (.slice none 0 0), boxI M #[.int .i64 c.ce, .int .i64 c.sl, .int .i64 c.bi, .int .i64 c.ta, .int .i64 c.ba, .int .i64 c.de] 23] : List It)[i]? = some (ownI 101 8 (.slice (some ⟨g, 0, none⟩) 8 cap) 8 (slCells (slots HG z0.ws))) → _ := fun g i cap h hi => slot_cells8 h i hl HWL.out hi hk
                    exact ⟨_, _, _, _, _, _, _, _, key rb 2 cb3 s rfl, key qb 6 cb2 s rfl⟩
                  have HKK : Hid (∀ nn, Kept (fun _ => False) w (w36.drewN nn)) := fun nn => (s36.calm ((Kept.refl _ _).drewN nn)).same
                  clear s36
                  go_wp2_with fail
                  go_loopw [38] (fun i wr => ∃ (k nn : Nat), i = .int .i64 k ∧ k ≤ 64 ∧ wr = w36.drewN nn) (fun i _ => 64 - (intOf i).toNat)
                  case atStart => exact ⟨0, 0, rfl, Nat.zero_le _, rfl⟩
                  case round =>
                    obtain ⟨k, nn, rfl, hk, rfl⟩ := hrel
                    have hk0 : (0 : Int) ≤ (k : Int) := by omega
                    obtain ⟨b0, b1, b2, b3⟩ := HVC.out
                    by_cases hlt : k < 64
                    · focus
                        have h1 : (k : Int) < 64 := by omega
                        obtain ⟨u, c0, c1⟩ := HXC.out k hlt
                        clear HXC HSC HKK HVC
                        go_wp2_with fail
                        go_quiet (fail)
                        go_wp2
                        go_roundw
                        case rel => exact ⟨k + 1, _, by go_num, by omega, rfl⟩
                        case measure => simp [intOf]; omega
                    · obtain rfl : 64 = k := by omega
                      clear HXC
                      go_wp2_with fail
                      go_loopw [39] (fun i wr => ∃ (k m : Nat), i = .int .i64 k ∧ k ≤ 8 ∧ wr = w36.drewN m) (fun i _ => 8 - (intOf i).toNat)
                      case atStart => exact ⟨0, nn, rfl, Nat.zero_le _, rfl⟩
                      case round =>
                        obtain ⟨k, m, rfl, hk2, rfl⟩ := hrel
                        have hk3 : (0 : Int) ≤ (k : Int) := by omega
                        by_cases hlt2 : k < 8
                        · focus
                            have h1 : (k : Int) < 8 := by omega
                            obtain ⟨a, b, c, d, e, f, x, y, ⟨a0, a1, a2, a3, a4, a5, a6, a7⟩, c0, c1, c2, c3, c4, c5, c6, c7⟩ := HSC.out k hlt2
                            clear HSC HKK HVC
                            go_wp2_with fail
                            go_quiet (fail)
                            go_wp2
                            go_roundw
                            case rel => exact ⟨k + 1, _, by go_num, by omega, rfl⟩
                            case measure => simp [intOf]; omega
                        · obtain rfl : 8 = k := by omega
                          have HKM : Hid _ := HKK.out m
                          clear HSC HKK HVC
                          go_wp2
                          go_ret
                          exact ⟨rfl, HKM.out⟩
end Go.Proofs.YtgjmamgohidbiaaGreat
