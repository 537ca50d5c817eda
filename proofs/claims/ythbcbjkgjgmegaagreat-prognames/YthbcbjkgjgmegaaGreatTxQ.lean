/- Begin. Read, Write. -/
import Derived.Test.YthbcbjkgjgmegaaGreatTxR
namespace Go.Proofs.YthbcbjkgjgmegaaGreat
open Go.RowKit
set_option linter.unusedVariables false
set_option linter.unusedSimpArgs false
attribute [local go_sem ↓] Go.wp_at_zero Go.wp_at_succ
section
variable {o w : World} {its R : List It} {A : Ad} {c : Cfg} {z : SSt} {v u : Value} {P : TA} {x : Tt} {cs : Array Value} {df : Int} {wt rds : List Pr} {tI dI : It} {dg tv rv : Value} {th l1 l2 l3 sp : Int} {f : Frm}
set_option maxRecDepth 100000 in
theorem teller_st (h : St o its w) (th s : Int) : Calls Tryz.prog 218 #[spp A, .int .i64 th, .int .i64 s] w fun e w' => ∃ C, e = .returned (.func (.func 244) #[] #[.pointer (some ⟨C + 1, 0, none⟩), .pointer (some ⟨C + 2, 0, none⟩), .pointer (some ⟨C, 0, none⟩)]) ∧ St o (boxI (C + 2) #[.int .i64 s] 3 :: boxI (C + 1) #[.int .i64 th] 3 :: boxI C #[spp A] 26 :: its) w' := by
  have s1 := h.box #[spp A] 26
  have s2 := s1.box #[.int .i64 th] 3
  have s3 := s2.box #[.int .i64 s] 3
  rw [alloc_size, alloc_size] at s3
  have H3 := hid s3
  clear h s1 s2 s3
  have hmf : ∀ (fn : Fn) (first cap : Array Value) (w : World), (Instr.makeFunc fn first cap).run Tryz.prog w = .ok (.func fn first cap) w := fun _ _ _ _ => rfl
  unfold spp at H3 ⊢
  go_enter Tryz.func218, Tryz.ntmps218
  go_wp2_with (simp only [hmf])
  go_ret
  exact ⟨w.heap.size, rfl, H3.out⟩
set_option maxRecDepth 100000 in
theorem tBegin_arg (h : St o (txL c A P x ++ spI A c z v u :: R) w) (hp : x.dg.phase = 0) {s : Int} (h1 : s < 1) : Calls Tryz.prog 194 #[.pointer (some ⟨P.T, 0, none⟩), .int .i64 s] w fun e w' => e = .returned (.int .i64 1) ∧ St o (txL c A P x ++ spI A c z v u :: R) w' := by
  have hq := tPhase h
  rw [hp] at hq
  clear h hp
  go_enter Tryz.func194, Tryz.ntmps194
  go_wp2_with fail
  refine hq.mono ?_
  rintro e w1 ⟨rfl, s1⟩
  clear hq
  have c0 : w1.cell? ⟨P.T, 0, none⟩ = some (spp A) := tCell (P := P) s1 0
  have c1 : w1.cell? ⟨P.T, 1, none⟩ = some (.int .i64 x.th) := tCell (P := P) s1 1
  have hN : Calls Tryz.prog 216 #[spp A, .int .i64 x.th, .int .i64 s] w1.drew fun e w' => e = .returned (.tuple #[.pointer none, .int .i64 1]) ∧ (w'.cell? ⟨P.T, 0, none⟩ = some (spp A) ∧ w'.cell? ⟨P.T, 1, none⟩ = some (.int .i64 x.th)) ∧ Hid (St o (txL c A P x ++ spI A c z v u :: R) w') := by
    refine (bgNew_out (spp A) x.th s (by omega) w1.drew).mono ?_
    rintro e w' ⟨he, rfl⟩
    exact ⟨he, ⟨c0, c1⟩, s1.drew⟩
  unfold spp at c0 hN
  clear s1
  generalize x.th = th at *
  go_upto_region 3 with fail
  go_region_held3 (fun W => W.cell? ⟨P.T, 0, none⟩ = some (.pointer (some ⟨A.sp, 0, none⟩)) ∧ W.cell? ⟨P.T, 1, none⟩ = some (.int .i64 th)) (first | go_keep | exact rS)
    (first | (go_at_call 216; refine hN.mono ?_; rintro e w2 ⟨rfl, rS, HS⟩))
  clear hN c0 c1 rS
  go_wp2
  go_ret
  exact ⟨rfl, HS.out⟩
/-- What Begin has made, put in its place. -/
theorem tBegun {C k : Nat} {s : Int} {lv2 : Value} {oI1 oI2 : It} {lo le lx : Int} {fr : Frm} (h : St o (boxI (C + 2) #[.int .i64 s] 3 :: boxI (C + 1) #[.int .i64 th] 3 :: boxI C #[spp A] 26 :: bgI k A.t (Bg.new th s) :: boxI P.T (tC A P th (.iface 318 (.agg #[.pointer (some ⟨k, 0, none⟩)])) lo le lx s (.func (.func 244) #[] #[.pointer (some ⟨C + 1, 0, none⟩), .pointer (some ⟨C + 2, 0, none⟩), .pointer (some ⟨C, 0, none⟩)]) fr (.slice none 0 0)) 207 :: boxI P.J (jd c df) 257 :: logI Tryz.prog 261 289 2 3 OKi P.L 16 lv2 P.bm [] :: ownI 220 2 (.slice none 0 0) 0 [] :: oI1 :: oI2 :: spI A c z v u :: R) w) (hs : 1 ≤ s) :
    St o (txL c A { P with c1 := C + 1, c2 := C + 2, c3 := C, K := k, lv := lv2, rv := .slice none 0 0 } ⟨th, .beg (Bg.new th s), lo, le, lx, s, fr, [], [], df⟩ ++ spI A c z v u :: R) w := by
  have h1 := St.popAt (pre := [_, _, _, _, _, _, _, _]) h
  have h2 := St.popAt (pre := [_, _, _, _, _, _, _, _]) h1
  have h3 : St o ([boxI (C + 1) #[.int .i64 th] 3, boxI (C + 2) #[.int .i64 s] 3, boxI C #[spp A] 26] ++ (bgI k A.t (Bg.new th s) :: boxI P.T (tC A P th (.iface 318 (.agg #[.pointer (some ⟨k, 0, none⟩)])) lo le lx s (.func (.func 244) #[] #[.pointer (some ⟨C + 1, 0, none⟩), .pointer (some ⟨C + 2, 0, none⟩), .pointer (some ⟨C, 0, none⟩)]) fr (.slice none 0 0)) 207 :: boxI P.J (jd c df) 257 :: logI Tryz.prog 261 289 2 3 OKi P.L 16 lv2 P.bm [] :: ownI 220 2 (.slice none 0 0) 0 [] :: spI A c z v u :: R)) w := St.swap h2
  have h4 := h3.unite
  have h5 := h4.perm ((List.perm_append_comm (l₁ := [joinI [boxI (C + 1) #[.int .i64 th] 3, boxI (C + 2) #[.int .i64 s] 3, boxI C #[spp A] 26], bgI k A.t (Bg.new th s)]) (l₂ := [boxI P.T (tC A P th (.iface 318 (.agg #[.pointer (some ⟨k, 0, none⟩)])) lo le lx s (.func (.func 244) #[] #[.pointer (some ⟨C + 1, 0, none⟩), .pointer (some ⟨C + 2, 0, none⟩), .pointer (some ⟨C, 0, none⟩)]) fr (.slice none 0 0)) 207, boxI P.J (jd c df) 257, logI Tryz.prog 261 289 2 3 OKi P.L 16 lv2 P.bm [], ownI 220 2 (.slice none 0 0) 0 []])).append_right (spI A c z v u :: R))
  have e1 : tlV { P with c1 := C + 1, c2 := C + 2, c3 := C, K := k, lv := lv2, rv := .slice none 0 0 } s = .func (.func 244) #[] #[.pointer (some ⟨C + 1, 0, none⟩), .pointer (some ⟨C + 2, 0, none⟩), .pointer (some ⟨C, 0, none⟩)] := by unfold tlV; rw [if_neg (by omega)]
  have e2 : tlI A { P with c1 := C + 1, c2 := C + 2, c3 := C, K := k, lv := lv2, rv := .slice none 0 0 } th s = joinI [boxI (C + 1) #[.int .i64 th] 3, boxI (C + 2) #[.int .i64 s] 3, boxI C #[spp A] 26] := by unfold tlI; rw [if_neg (by omega)]
  unfold txL Tt.cells
  simp only
  rw [e1, e2]
  exact h5
set_option maxRecDepth 100000 in
set_option maxHeartbeats 4000000 in
theorem tBegin_ok (h : St o (txL c A P x ++ spI A c z v u :: R) w) (hp : x.dg.phase = 0) {s : Int} (h1 : 1 ≤ s) (t1 : 1 ≤ x.th) (t8 : x.th ≤ 8) : Calls Tryz.prog 194 #[.pointer (some ⟨P.T, 0, none⟩), .int .i64 s] w fun e w' => e = .returned (.int .i64 0) ∧ ∃ P', P'.T = P.T ∧ St o (txL c A P' (x.begin_ s) ++ spI A c z v u :: R) w' := by
  have hq := tPhase h
  have hx : x.begin_ s = { x with dg := .beg (Bg.new x.th s), sp := s, rds := [], wr := [], df := if s = x.sp then x.df else 0 } := by
    have hE : x.beginE s = 0 := by
      unfold Tt.beginE
      rw [if_neg (show ¬ x.dg.phase ≠ 0 by omega), if_neg (show ¬ s < 1 by omega)]
    unfold Tt.begin_
    rw [if_pos hE]
  rw [hx]
  rw [hp] at hq
  have ha := phase_zero hp
  obtain ⟨th, dg, lo, le, lx, sp, fr, rds, wt, df⟩ := x
  simp only at ha t1 t8
  subst ha
  clear h hp hx
  generalize hDF : (if s = sp then df else 0) = DF
  have HDF := hid hDF
  clear hDF
  go_enter Tryz.func194, Tryz.ntmps194
  go_wp2_with fail
  refine hq.mono ?_
  rintro e w1 ⟨rfl, s1⟩
  clear hq
  have s1 : St o (tG c P (tC A P th (.iface 200 (.agg #[])) lo le lx sp (tlV P sp) fr P.rv) df wt rds (tlI A P th sp) (joinI []) ++ spI A c z v u :: R) w1 := s1
  have c0 : w1.cell? ⟨P.T, 0, none⟩ = some (spp A) := tCell s1 0
  have c1 : w1.cell? ⟨P.T, 1, none⟩ = some (.int .i64 th) := tCell s1 1
  have hN : Calls Tryz.prog 216 #[spp A, .int .i64 th, .int .i64 s] w1.drew fun e w' => ∃ k, e = .returned (.tuple #[.pointer (some ⟨k, 0, none⟩), .int .i64 0]) ∧ (w'.cell? ⟨P.T, 0, none⟩ = some (spp A) ∧ w'.cell? ⟨P.T, 1, none⟩ = some (.int .i64 th)) ∧ Hid (St o (bgI k A.t (Bg.new th s) :: (tG c P (tC A P th (.iface 200 (.agg #[])) lo le lx sp (tlV P sp) fr P.rv) df wt rds (tlI A P th sp) (joinI []) ++ spI A c z v u :: R)) w') := by
    refine (bgNew_st s1.drew 6 rfl th s ⟨t1, t8, h1⟩).mono ?_
    rintro e w' ⟨k, he, q⟩
    exact ⟨k, he, ⟨q.cell 1 rfl 0, q.cell 1 rfl 1⟩, q⟩
  unfold spp at c0 hN
  clear s1
  go_upto_region 3 with fail
  go_region_held3 (fun W => W.cell? ⟨P.T, 0, none⟩ = some (.pointer (some ⟨A.sp, 0, none⟩)) ∧ W.cell? ⟨P.T, 1, none⟩ = some (.int .i64 th)) (first | go_keep | exact rS)
    (first | (go_at_call 216; refine hN.mono ?_; rintro e w2 ⟨k, rfl, rS, HS⟩))
  clear hN c0 c1 rS t1 t8
  have c7 : w2.cell? ⟨P.T, 7, none⟩ = some (.int .i64 sp) := HS.out.cell 1 rfl 7
  by_cases hsp : s = sp
  · have b7 : (s != sp) = false := by simp [hsp]
    obtain rfl : df = DF := by have := HDF.out; rwa [if_pos hsp] at this
    clear HDF hsp
    have s3 := HS.out
    clear HS
    have a7 : w2.cell? ⟨P.T, 7, none⟩ = some (.int .i64 sp) := s3.cell 1 rfl 7
    have a8 : w2.cell? ⟨P.T, 8, none⟩ = some (tlV P sp) := s3.cell 1 rfl 8
    have a0 : w2.cell? ⟨P.T, 0, none⟩ = some (spp A) := s3.cell 1 rfl 0
    have a1 : w2.cell? ⟨P.T, 1, none⟩ = some (.int .i64 th) := s3.cell 1 rfl 1
    have hT : Calls Tryz.prog 218 #[spp A, .int .i64 th, .int .i64 s] w2.drew fun e w' => ∃ C, e = .returned (.func (.func 244) #[] #[.pointer (some ⟨C + 1, 0, none⟩), .pointer (some ⟨C + 2, 0, none⟩), .pointer (some ⟨C, 0, none⟩)]) ∧ w'.cell? ⟨P.T, 7, none⟩ = some (.int .i64 sp) ∧ w'.cell? ⟨P.T, 8, none⟩ = some (tlV P sp) ∧ w'.frozen? ⟨P.T, 7, none⟩ = false ∧ w'.frozen? ⟨P.T, 8, none⟩ = false ∧ Hid (St o (boxI (C + 2) #[.int .i64 s] 3 :: boxI (C + 1) #[.int .i64 th] 3 :: boxI C #[spp A] 26 :: bgI k A.t (Bg.new th s) :: (tG c P (tC A P th (.iface 200 (.agg #[])) lo le lx sp (tlV P sp) fr P.rv) df wt rds (tlI A P th sp) (joinI []) ++ spI A c z v u :: R)) w') := by
      refine (teller_st s3.drew th s).mono ?_
      rintro e w' ⟨C, he, q⟩
      exact ⟨C, he, q.cell 4 rfl 7, q.cell 4 rfl 8, q.frozen 4 rfl 7, q.frozen 4 rfl 8, q⟩
    obtain ⟨tvo, htvo⟩ : ∃ y, y = tlV P sp := ⟨_, rfl⟩
    have htf : tvo = .nilFunc ∨ ∃ ff aa bb, tvo = .func ff aa bb := by
      rw [htvo]
      unfold tlV
      split
      · exact .inl rfl
      · exact .inr ⟨_, _, _, rfl⟩
    rw [← htvo] at a8 hT
    clear s3
    unfold spp at a0 hT
    clear c7
    go_upto_region 8 with fail
    go_region_with (first | (go_at_call 218; refine hT.mono ?_; rintro e w4 ⟨C, rfl, m7, m8, n7, n8, HS4⟩))
    all_goals
      clear hT a0 a1 a7 a8
      have s5 := (HS4.out.write 4 rfl 7 (.int .i64 s)).write 4 rfl 8 (.func (.func 244) #[] #[.pointer (some ⟨C + 1, 0, none⟩), .pointer (some ⟨C + 2, 0, none⟩), .pointer (some ⟨C, 0, none⟩)])
      clear HS4 m7 m8 n7 n8 htf htvo
      generalize ((w4.setCell ⟨P.T, 7, none⟩ (.int .i64 s)).setCell ⟨P.T, 8, none⟩ (.func (.func 244) #[] #[.pointer (some ⟨C + 1, 0, none⟩), .pointer (some ⟨C + 2, 0, none⟩), .pointer (some ⟨C, 0, none⟩)])) = w5 at *
      have c14 : w5.cell? ⟨P.T, 14, none⟩ = some P.rv := s5.cell 4 rfl 14
      have f14 : w5.frozen? ⟨P.T, 14, none⟩ = false := s5.frozen 4 rfl 14
      obtain ⟨la, lc, hrv⟩ := own_form (show (ownI 220 2 P.rv rds.length (prCells rds)).P w5 from s5.get 7 rfl)
      rw [hrv] at c14
      have s6 := (s5.write 4 rfl 14 (.slice none 0 0)).set 7 rfl (Kept.refl _ _) (A' := ownI 220 2 (.slice none 0 0) 0 []) (World.ownsRow_nil _ 0 220 2) (own_nodup (.slice none 0 0)) (fun b hb => by simp [ownI, Value.ownBlock] at hb)
      clear s5 hrv
      go_upto_region 10 with fail
      generalize w5.setCell ⟨P.T, 14, none⟩ (.slice none 0 0) = w6 at *
      clear c14 f14
      have c15 : w6.cell? ⟨P.T, 15, none⟩ = some (.pointer (some ⟨P.L, 0, none⟩)) := s6.cell 4 rfl 15
      have hC := clearA_any (show LogA w6 P.L 16 P.lv P.bm (prPs wt) from s6.get 6 rfl)
      have HS6 := hid s6
      clear s6
      go_wp2_with fail
      refine hC.mono ?_
      rintro e w7 ⟨rfl, t7⟩
      obtain ⟨lv2, s7⟩ := HS6.out.turn 6 rfl t7
      clear hC HS6 t7 c15
      have c3 : w7.cell? ⟨P.T, 3, none⟩ = some (.iface 200 (.agg #[])) := s7.cell 4 rfl 3
      have f3 : w7.frozen? ⟨P.T, 3, none⟩ = false := s7.frozen 4 rfl 3
      have H8 := hid (s7.write 4 rfl 3 (.iface 318 (.agg #[.pointer (some ⟨k, 0, none⟩)])))
      clear s7
      go_wp2
      go_ret
      refine ⟨rfl, { P with c1 := C + 1, c2 := C + 2, c3 := C, K := k, lv := lv2, rv := .slice none 0 0 }, rfl, ?_⟩
      exact tBegun H8.out (by omega)
  · have b7 : (s != sp) = true := by simpa using hsp
    obtain rfl : 0 = DF := by have := HDF.out; rwa [if_neg hsp] at this
    clear HDF hsp
    have c2 : w2.cell? ⟨P.T, 2, none⟩ = some (.pointer (some ⟨P.J, 0, none⟩)) := HS.out.cell 1 rfl 2
    have hR := reset_st HS.out 2 rfl
    clear HS
    go_wp2_with fail
    refine hR.mono ?_
    rintro e w3 ⟨rfl, s3⟩
    clear hR c2
    have s3 : St o (bgI k A.t (Bg.new th s) :: (tG c P (tC A P th (.iface 200 (.agg #[])) lo le lx sp (tlV P sp) fr P.rv) 0 wt rds (tlI A P th sp) (joinI []) ++ spI A c z v u :: R)) w3 := s3
    have a7 : w3.cell? ⟨P.T, 7, none⟩ = some (.int .i64 sp) := s3.cell 1 rfl 7
    have a8 : w3.cell? ⟨P.T, 8, none⟩ = some (tlV P sp) := s3.cell 1 rfl 8
    have a0 : w3.cell? ⟨P.T, 0, none⟩ = some (spp A) := s3.cell 1 rfl 0
    have a1 : w3.cell? ⟨P.T, 1, none⟩ = some (.int .i64 th) := s3.cell 1 rfl 1
    have hT : Calls Tryz.prog 218 #[spp A, .int .i64 th, .int .i64 s] w3.drew fun e w' => ∃ C, e = .returned (.func (.func 244) #[] #[.pointer (some ⟨C + 1, 0, none⟩), .pointer (some ⟨C + 2, 0, none⟩), .pointer (some ⟨C, 0, none⟩)]) ∧ w'.cell? ⟨P.T, 7, none⟩ = some (.int .i64 sp) ∧ w'.cell? ⟨P.T, 8, none⟩ = some (tlV P sp) ∧ w'.frozen? ⟨P.T, 7, none⟩ = false ∧ w'.frozen? ⟨P.T, 8, none⟩ = false ∧ Hid (St o (boxI (C + 2) #[.int .i64 s] 3 :: boxI (C + 1) #[.int .i64 th] 3 :: boxI C #[spp A] 26 :: bgI k A.t (Bg.new th s) :: (tG c P (tC A P th (.iface 200 (.agg #[])) lo le lx sp (tlV P sp) fr P.rv) 0 wt rds (tlI A P th sp) (joinI []) ++ spI A c z v u :: R)) w') := by
      refine (teller_st s3.drew th s).mono ?_
      rintro e w' ⟨C, he, q⟩
      exact ⟨C, he, q.cell 4 rfl 7, q.cell 4 rfl 8, q.frozen 4 rfl 7, q.frozen 4 rfl 8, q⟩
    obtain ⟨tvo, htvo⟩ : ∃ y, y = tlV P sp := ⟨_, rfl⟩
    have htf : tvo = .nilFunc ∨ ∃ ff aa bb, tvo = .func ff aa bb := by
      rw [htvo]
      unfold tlV
      split
      · exact .inl rfl
      · exact .inr ⟨_, _, _, rfl⟩
    rw [← htvo] at a8 hT
    clear s3
    unfold spp at a0 hT
    clear c7
    go_upto_region 8 with fail
    go_region_with (first | (go_at_call 218; refine hT.mono ?_; rintro e w4 ⟨C, rfl, m7, m8, n7, n8, HS4⟩))
    all_goals
      clear hT a0 a1 a7 a8
      have s5 := (HS4.out.write 4 rfl 7 (.int .i64 s)).write 4 rfl 8 (.func (.func 244) #[] #[.pointer (some ⟨C + 1, 0, none⟩), .pointer (some ⟨C + 2, 0, none⟩), .pointer (some ⟨C, 0, none⟩)])
      clear HS4 m7 m8 n7 n8 htf htvo
      generalize ((w4.setCell ⟨P.T, 7, none⟩ (.int .i64 s)).setCell ⟨P.T, 8, none⟩ (.func (.func 244) #[] #[.pointer (some ⟨C + 1, 0, none⟩), .pointer (some ⟨C + 2, 0, none⟩), .pointer (some ⟨C, 0, none⟩)])) = w5 at *
      have c14 : w5.cell? ⟨P.T, 14, none⟩ = some P.rv := s5.cell 4 rfl 14
      have f14 : w5.frozen? ⟨P.T, 14, none⟩ = false := s5.frozen 4 rfl 14
      obtain ⟨la, lc, hrv⟩ := own_form (show (ownI 220 2 P.rv rds.length (prCells rds)).P w5 from s5.get 7 rfl)
      rw [hrv] at c14
      have s6 := (s5.write 4 rfl 14 (.slice none 0 0)).set 7 rfl (Kept.refl _ _) (A' := ownI 220 2 (.slice none 0 0) 0 []) (World.ownsRow_nil _ 0 220 2) (own_nodup (.slice none 0 0)) (fun b hb => by simp [ownI, Value.ownBlock] at hb)
      clear s5 hrv
      go_upto_region 10 with fail
      generalize w5.setCell ⟨P.T, 14, none⟩ (.slice none 0 0) = w6 at *
      clear c14 f14
      have c15 : w6.cell? ⟨P.T, 15, none⟩ = some (.pointer (some ⟨P.L, 0, none⟩)) := s6.cell 4 rfl 15
      have hC := clearA_any (show LogA w6 P.L 16 P.lv P.bm (prPs wt) from s6.get 6 rfl)
      have HS6 := hid s6
      clear s6
      go_wp2_with fail
      refine hC.mono ?_
      rintro e w7 ⟨rfl, t7⟩
      obtain ⟨lv2, s7⟩ := HS6.out.turn 6 rfl t7
      clear hC HS6 t7 c15
      have c3 : w7.cell? ⟨P.T, 3, none⟩ = some (.iface 200 (.agg #[])) := s7.cell 4 rfl 3
      have f3 : w7.frozen? ⟨P.T, 3, none⟩ = false := s7.frozen 4 rfl 3
      have H8 := hid (s7.write 4 rfl 3 (.iface 318 (.agg #[.pointer (some ⟨k, 0, none⟩)])))
      clear s7
      go_wp2
      go_ret
      refine ⟨rfl, { P with c1 := C + 1, c2 := C + 2, c3 := C, K := k, lv := lv2, rv := .slice none 0 0 }, rfl, ?_⟩
      exact tBegun H8.out (by omega)
end
end Go.Proofs.YthbcbjkgjgmegaaGreat

namespace Go.Proofs.YthbcbjkgjgmegaaGreat
open Go.RowKit
set_option linter.unusedVariables false
set_option linter.unusedSimpArgs false
attribute [local go_sem ↓] Go.wp_at_zero Go.wp_at_succ
theorem prPs_get {l : List Pr} {ce v : Int} (h : wrGet l ce = some v) : ∃ i : Nat, i < l.length ∧ (l.getD i Pr.zero).ce = ce ∧ (prPs l)[i]? = some (.int .i64 ce, .int .i64 v) := by
  obtain ⟨p, hp, e1, e2⟩ := wrGet_some h
  obtain ⟨i, hi, e⟩ := List.getElem_of_mem hp
  refine ⟨i, hi, ?_, by simp [prPs, hi, e, e1, e2]⟩
  rw [List.getD_eq_getElem?_getD, List.getElem?_eq_getElem hi, e]
  exact e1
theorem prPs_none {l : List Pr} {ce : Int} (h : wrGet l ce = none) : ∀ x, x ∈ prPs l → x.1 ≠ .int .i64 ce := by
  intro x hx e
  obtain ⟨p, hp, rfl⟩ := List.mem_map.1 hx
  simp only [Value.int.injEq, true_and] at e
  exact wrGet_none h p hp e
theorem prPs_put_old {l : List Pr} {ce v y : Int} (hn : (cesOf l).Nodup) (h : wrGet l ce = some v) {i : Nat} (hi : i < l.length) (he : (l.getD i Pr.zero).ce = ce) : (prPs l).set i (.int .i64 ce, .int .i64 y) = prPs (wrPut l ce y) := by
  unfold wrPut
  rw [if_pos (by rw [h]; rfl)]
  have hii : l[i].ce = ce := by rw [List.getD_eq_getElem?_getD, List.getElem?_eq_getElem hi] at he; exact he
  apply List.ext_getElem?
  intro j
  rw [List.getElem?_set]
  by_cases hj : j < l.length
  · have e1 : (prPs (l.map fun p => if (p.ce == ce) = true then ⟨ce, y⟩ else p))[j]? = some (if l[j].ce = ce then (.int .i64 ce, .int .i64 y) else (.int .i64 l[j].ce, .int .i64 l[j].x)) := by
      simp only [prPs, List.map_map, List.getElem?_map, List.getElem?_eq_getElem hj, Option.map_some, Function.comp]
      by_cases q : l[j].ce = ce
      · simp [q]
      · simp [q]
    rw [e1]
    by_cases e : i = j
    · subst e
      rw [if_pos rfl, if_pos (by simpa [prPs] using hi), if_pos hii]
    · rw [if_neg e]
      have hne : l[j].ce ≠ ce := by
        intro q
        have hw := List.pairwise_iff_getElem.1 hn
        have hl1 : i < (cesOf l).length := by simpa [cesOf] using hi
        have hl2 : j < (cesOf l).length := by simpa [cesOf] using hj
        rcases Nat.lt_or_gt_of_ne e with q2 | q2
        · exact hw i j hl1 hl2 q2 (by simp [cesOf, hii, q])
        · exact hw j i hl2 hl1 q2 (by simp [cesOf, hii, q])
      rw [if_neg hne]
      simp [prPs, hj]
  · rw [List.getElem?_eq_none (by simp [prPs]; omega), if_neg (by omega), List.getElem?_eq_none (by simp [prPs]; omega)]
theorem prPs_put_new {l : List Pr} {ce y : Int} (h : wrGet l ce = none) : prPs l ++ [(.int .i64 ce, .int .i64 y)] = prPs (wrPut l ce y) := by
  unfold wrPut
  rw [if_neg (by rw [h]; simp)]
  simp [prPs]
section
variable {o w : World} {its R : List It} {A : Ad} {c : Cfg} {z : SSt} {v u : Value} {P : TA} {x : Tt} {df : Int} {wt rds : List Pr} {th sp : Int} {fr : Frm}
set_option maxRecDepth 100000 in
set_option maxHeartbeats 1000000 in
theorem tRead_own (h : St o (txL c A P x ++ spI A c z v u :: R) w) (hp : x.dg.phase = 2) (hs : x.sp ≠ 0) (hb : z.ev.length ≤ 2000000000) {ce xv : Int} (hg : wrGet x.wr ce = some xv) :
    Calls Tryz.prog 196 #[.pointer (some ⟨P.T, 0, none⟩), .int .i64 ce] w fun e w' => e = .returned (.int .i64 0) ∧ ∃ u', St o (txL c A P (x.read c ce) ++ spI A c (x.readZ ce z) v u' :: R) w' := by
  have hq := tPhase h
  rw [hp] at hq
  have hx : x.read c ce = { x with lo := 2, le := 0, lx := xv } := by
    unfold Tt.read
    rw [if_neg (show ¬ x.dg.phase ≠ 2 by omega), hg]
  have hz : x.readZ ce z = z.noted (x.evn 2 ce xv true 0 0 0) := by
    unfold Tt.readZ
    rw [if_neg (show ¬ x.dg.phase ≠ 2 by omega), hg]
  rw [hx, hz]
  have ha := phase_two hp
  obtain ⟨th, dg, lo, le, lx, sp, fr, rds, wt, df⟩ := x
  simp only at *
  subst ha
  obtain ⟨i, hi, -, hat⟩ := prPs_get hg
  clear h hp hx hz hg hi
  go_enter Tryz.func196, Tryz.ntmps196
  go_wp2_with fail
  refine hq.mono ?_
  rintro e w1 ⟨rfl, s1⟩
  clear hq
  have s1 : St o (tG c P (tC A P th (.iface 427 (.agg #[])) lo le lx sp (tlV P sp) fr P.rv) df wt rds (tlI A P th sp) (joinI []) ++ spI A c z v u :: R) w1 := s1
  have c15 : w1.cell? ⟨P.T, 15, none⟩ = some (.pointer (some ⟨P.L, 0, none⟩)) := tCell s1 15
  have hL := getA_at (show LogA w1 P.L 16 P.lv P.bm (prPs wt) from s1.get 2 tAt2) hat
  have HS1 := hid s1
  clear s1
  go_wp2_with fail
  refine hL.mono ?_
  rintro e w2 ⟨rfl, k2⟩
  have s2 := HS1.out.calm k2
  clear hL HS1 k2 c15
  have a4 : w2.cell? ⟨P.T, 4, none⟩ = some (.int .i64 lo) := tCell s2 4
  have a5 : w2.cell? ⟨P.T, 5, none⟩ = some (.int .i64 le) := tCell s2 5
  have a6 : w2.cell? ⟨P.T, 6, none⟩ = some (.int .i64 lx) := tCell s2 6
  have b4 : w2.frozen? ⟨P.T, 4, none⟩ = false := tFrozen s2 4
  have b5 : w2.frozen? ⟨P.T, 5, none⟩ = false := tFrozen s2 5
  have b6 : w2.frozen? ⟨P.T, 6, none⟩ = false := tFrozen s2 6
  have t1 : St o (tG c P (tC A P th (.iface 427 (.agg #[])) 2 0 xv sp (tlV P sp) fr P.rv) df wt rds (tlI A P th sp) (joinI []) ++ spI A c z v u :: R) (((w2.setCell ⟨P.T, 4, none⟩ (.int .i64 2)).setCell ⟨P.T, 5, none⟩ (.int .i64 0)).setCell ⟨P.T, 6, none⟩ (.int .i64 xv)) := tLastSet s2 2 0 xv
  clear s2
  go_upto_region 6 with fail
  generalize (((w2.setCell ⟨P.T, 4, none⟩ (.int .i64 2)).setCell ⟨P.T, 5, none⟩ (.int .i64 0)).setCell ⟨P.T, 6, none⟩ (.int .i64 xv)) = w9 at *
  clear a4 a5 a6 b4 b5 b6
  have c8 : w9.cell? ⟨P.T, 8, none⟩ = some (.func (.func 244) #[] #[.pointer (some ⟨P.c1, 0, none⟩), .pointer (some ⟨P.c2, 0, none⟩), .pointer (some ⟨P.c3, 0, none⟩)]) := (tCell t1 8).trans (tlV_on hs)
  have hq : Calls Tryz.prog 244 #[.agg #[.int .i64 2, .int .i64 0, .int .i64 0, .int .i64 0, .int .i64 ce, .int .i64 xv, .bool true, .int .i64 0, .int .i64 0, .int .i64 0], .pointer (some ⟨P.c1, 0, none⟩), .pointer (some ⟨P.c2, 0, none⟩), .pointer (some ⟨P.c3, 0, none⟩)] w9 _ := tTell t1 hs hb _ _ _ _ _ _ _
  clear t1
  go_wp2_with fail
  refine hq.mono ?_
  rintro e w10 ⟨rfl, u', s10⟩
  have H10 := hid s10
  clear hq s10 c8
  go_wp2
  go_ret
  exact ⟨rfl, u', H10.out⟩
set_option maxRecDepth 100000 in
set_option maxHeartbeats 1000000 in
theorem tRead_in (h : St o (txL c A P x ++ spI A c z v u :: R) w) (hp : x.dg.phase = 2) {ce : Int} (hk : (Lit.int .i64 ce).wf = true) (hg : wrGet x.wr ce = none) (hsg : x.fr.sg.ok) (hsl : inN c.sl x.fr.sl = true) (hc : inN c.ce ce = true) :
    Calls Tryz.prog 196 #[.pointer (some ⟨P.T, 0, none⟩), .int .i64 ce] w fun e w' => e = .returned (.int .i64 0) ∧ ∃ P', P'.T = P.T ∧ St o (txL c A P' (x.read c ce) ++ spI A c (x.readZ ce z) v u :: R) w' := by
  have hq := tPhase h
  rw [hp] at hq
  have hz : x.readZ ce z = z := by
    unfold Tt.readZ
    rw [if_neg (show ¬ x.dg.phase ≠ 2 by omega), hg]
  have hx : x.read c ce = if inN c.ce ce then { x with dg := .rd (Rd.new x.fr.sl x.fr.gn x.fr.sn x.fr.sg ce (bitsOf c.bi ce)) } else x := by
    unfold Tt.read
    rw [if_neg (show ¬ x.dg.phase ≠ 2 by omega), hg]
  rw [hx, hz, if_pos hc]
  have ha := phase_two hp
  obtain ⟨th, dg, lo, le, lx, sp, fr, rds, wt, df⟩ := x
  simp only at *
  subst ha
  have hno := prPs_none hg
  clear h hp hx hz hg
  go_enter Tryz.func196, Tryz.ntmps196
  go_wp2_with fail
  refine hq.mono ?_
  rintro e w1 ⟨rfl, s1⟩
  clear hq
  have s1 : St o (tG c P (tC A P th (.iface 427 (.agg #[])) lo le lx sp (tlV P sp) fr P.rv) df wt rds (tlI A P th sp) (joinI []) ++ spI A c z v u :: R) w1 := s1
  have c15 : w1.cell? ⟨P.T, 15, none⟩ = some (.pointer (some ⟨P.L, 0, none⟩)) := tCell s1 15
  have hL := getA_no (show LogA w1 P.L 16 P.lv P.bm (prPs wt) from s1.get 2 tAt2) hk hno
  have HS1 := hid s1
  clear s1 hno hk
  go_wp2_with fail
  refine hL.mono ?_
  rintro e w2 ⟨rfl, k2⟩
  have s2 := HS1.out.calm k2
  clear hL HS1 k2 c15
  have q0 : w2.cell? ⟨P.T, 0, none⟩ = some (spp A) := tCell s2 0
  have q9 : w2.cell? ⟨P.T, 9, none⟩ = some (.int .i64 fr.sl) := tCell s2 9
  have q10 : w2.cell? ⟨P.T, 10, none⟩ = some (.int .i64 fr.gn) := tCell s2 10
  have q11 : w2.cell? ⟨P.T, 11, none⟩ = some (.int .i64 fr.sn) := tCell s2 11
  have q12 : w2.cell? ⟨P.T, 12, none⟩ = some (.int .u64 fr.sg.lo) := tCell s2 12
  have q13 : w2.cell? ⟨P.T, 13, none⟩ = some (.int .u64 fr.sg.hi) := tCell s2 13
  have hN : Calls Tryz.prog 221 #[spp A, .agg #[.int .i64 fr.sl, .int .i64 fr.gn, .int .i64 fr.sn, .int .u64 fr.sg.lo, .int .u64 fr.sg.hi], .int .i64 ce] w2.drew fun e w' => ∃ k, e = .returned (.tuple #[.pointer (some ⟨k, 0, none⟩), .int .i64 0]) ∧ (w'.cell? ⟨P.T, 0, none⟩ = some (spp A) ∧ w'.cell? ⟨P.T, 9, none⟩ = some (.int .i64 fr.sl) ∧ w'.cell? ⟨P.T, 10, none⟩ = some (.int .i64 fr.gn) ∧ w'.cell? ⟨P.T, 11, none⟩ = some (.int .i64 fr.sn) ∧ w'.cell? ⟨P.T, 12, none⟩ = some (.int .u64 fr.sg.lo) ∧ w'.cell? ⟨P.T, 13, none⟩ = some (.int .u64 fr.sg.hi)) ∧ Hid (St o (rdI k A.sp (Rd.new fr.sl fr.gn fr.sn fr.sg ce (bitsOf c.bi ce)) :: (tG c P (tC A P th (.iface 427 (.agg #[])) lo le lx sp (tlV P sp) fr P.rv) df wt rds (tlI A P th sp) (joinI []) ++ spI A c z v u :: R)) w') := by
    refine (rdNew_st s2.drew 6 rfl fr.sl fr.gn fr.sn fr.sg ce hsg hc hsl).mono ?_
    rintro e w' ⟨k, he, q⟩
    exact ⟨k, he, ⟨q.cell 1 rfl 0, q.cell 1 rfl 9, q.cell 1 rfl 10, q.cell 1 rfl 11, q.cell 1 rfl 12, q.cell 1 rfl 13⟩, q⟩
  clear s2 hsg hsl
  unfold spp at q0 hN
  go_upto_region 8 with fail
  go_region_held3 (fun W => W.cell? ⟨P.T, 0, none⟩ = some (.pointer (some ⟨A.sp, 0, none⟩)) ∧ W.cell? ⟨P.T, 9, none⟩ = some (.int .i64 fr.sl) ∧ W.cell? ⟨P.T, 10, none⟩ = some (.int .i64 fr.gn) ∧ W.cell? ⟨P.T, 11, none⟩ = some (.int .i64 fr.sn) ∧ W.cell? ⟨P.T, 12, none⟩ = some (.int .u64 fr.sg.lo) ∧ W.cell? ⟨P.T, 13, none⟩ = some (.int .u64 fr.sg.hi)) (first | go_keep | exact rS)
    (first | (go_at_call 221; refine hN.mono ?_; rintro e w3 ⟨k, rfl, rS, HS⟩))
  clear hN q0 q9 q10 q11 q12 q13 rS
  have s3 := tLay HS.out
  obtain ⟨e1, e2, e3⟩ := tStore (nv := .iface 323 (.agg #[.pointer (some ⟨k, 0, none⟩), .int .i64 ce])) s3
  have H3 := hid e3
  clear s3 HS e3
  go_wp2
  go_ret
  refine ⟨rfl, { P with K := k }, rfl, ?_⟩
  have ece : (Rd.new fr.sl fr.gn fr.sn fr.sg ce (bitsOf c.bi ce)).ce = ce := rfl
  exact H3.out
set_option maxRecDepth 100000 in
set_option maxHeartbeats 1000000 in
theorem tRead_out (h : St o (txL c A P x ++ spI A c z v u :: R) w) (hp : x.dg.phase = 2) {ce : Int} (hk : (Lit.int .i64 ce).wf = true) (hg : wrGet x.wr ce = none) (hsg : x.fr.sg.ok) (hsl : inN c.sl x.fr.sl = true) (hc : inN c.ce ce = false) :
    Calls Tryz.prog 196 #[.pointer (some ⟨P.T, 0, none⟩), .int .i64 ce] w fun e w' => e = .returned (.int .i64 2) ∧ St o (txL c A P (x.read c ce) ++ spI A c (x.readZ ce z) v u :: R) w' := by
  have hq := tPhase h
  rw [hp] at hq
  have hz : x.readZ ce z = z := by
    unfold Tt.readZ
    rw [if_neg (show ¬ x.dg.phase ≠ 2 by omega), hg]
  have hx : x.read c ce = if inN c.ce ce then { x with dg := .rd (Rd.new x.fr.sl x.fr.gn x.fr.sn x.fr.sg ce (bitsOf c.bi ce)) } else x := by
    unfold Tt.read
    rw [if_neg (show ¬ x.dg.phase ≠ 2 by omega), hg]
  rw [hx, hz, if_neg (by rw [hc]; simp)]
  have ha := phase_two hp
  obtain ⟨th, dg, lo, le, lx, sp, fr, rds, wt, df⟩ := x
  simp only at *
  subst ha
  have hno := prPs_none hg
  clear h hp hx hz hg
  go_enter Tryz.func196, Tryz.ntmps196
  go_wp2_with fail
  refine hq.mono ?_
  rintro e w1 ⟨rfl, s1⟩
  clear hq
  have s1 : St o (tG c P (tC A P th (.iface 427 (.agg #[])) lo le lx sp (tlV P sp) fr P.rv) df wt rds (tlI A P th sp) (joinI []) ++ spI A c z v u :: R) w1 := s1
  have c15 : w1.cell? ⟨P.T, 15, none⟩ = some (.pointer (some ⟨P.L, 0, none⟩)) := tCell s1 15
  have hL := getA_no (show LogA w1 P.L 16 P.lv P.bm (prPs wt) from s1.get 2 tAt2) hk hno
  have HS1 := hid s1
  clear s1 hno hk
  go_wp2_with fail
  refine hL.mono ?_
  rintro e w2 ⟨rfl, k2⟩
  have s2 := HS1.out.calm k2
  clear hL HS1 k2 c15
  have q0 : w2.cell? ⟨P.T, 0, none⟩ = some (spp A) := tCell s2 0
  have q9 : w2.cell? ⟨P.T, 9, none⟩ = some (.int .i64 fr.sl) := tCell s2 9
  have q10 : w2.cell? ⟨P.T, 10, none⟩ = some (.int .i64 fr.gn) := tCell s2 10
  have q11 : w2.cell? ⟨P.T, 11, none⟩ = some (.int .i64 fr.sn) := tCell s2 11
  have q12 : w2.cell? ⟨P.T, 12, none⟩ = some (.int .u64 fr.sg.lo) := tCell s2 12
  have q13 : w2.cell? ⟨P.T, 13, none⟩ = some (.int .u64 fr.sg.hi) := tCell s2 13
  have hN : Calls Tryz.prog 221 #[spp A, .agg #[.int .i64 fr.sl, .int .i64 fr.gn, .int .i64 fr.sn, .int .u64 fr.sg.lo, .int .u64 fr.sg.hi], .int .i64 ce] w2.drew fun e w' => e = .returned (.tuple #[.pointer none, .int .i64 2]) ∧ (w'.cell? ⟨P.T, 0, none⟩ = some (spp A) ∧ w'.cell? ⟨P.T, 9, none⟩ = some (.int .i64 fr.sl) ∧ w'.cell? ⟨P.T, 10, none⟩ = some (.int .i64 fr.gn) ∧ w'.cell? ⟨P.T, 11, none⟩ = some (.int .i64 fr.sn) ∧ w'.cell? ⟨P.T, 12, none⟩ = some (.int .u64 fr.sg.lo) ∧ w'.cell? ⟨P.T, 13, none⟩ = some (.int .u64 fr.sg.hi)) ∧ Hid (St o (tG c P (tC A P th (.iface 427 (.agg #[])) lo le lx sp (tlV P sp) fr P.rv) df wt rds (tlI A P th sp) (joinI []) ++ spI A c z v u :: R) w') := by
    refine (rdNew_out s2.drew 6 rfl fr.sl fr.gn fr.sn fr.sg ce (by rw [hc]; simp)).mono ?_
    rintro e w' ⟨he, q⟩
    exact ⟨he, ⟨tCell q 0, tCell q 9, tCell q 10, tCell q 11, tCell q 12, tCell q 13⟩, q⟩
  clear s2 hsg hsl
  unfold spp at q0 hN
  go_upto_region 8 with fail
  go_region_held3 (fun W => W.cell? ⟨P.T, 0, none⟩ = some (.pointer (some ⟨A.sp, 0, none⟩)) ∧ W.cell? ⟨P.T, 9, none⟩ = some (.int .i64 fr.sl) ∧ W.cell? ⟨P.T, 10, none⟩ = some (.int .i64 fr.gn) ∧ W.cell? ⟨P.T, 11, none⟩ = some (.int .i64 fr.sn) ∧ W.cell? ⟨P.T, 12, none⟩ = some (.int .u64 fr.sg.lo) ∧ W.cell? ⟨P.T, 13, none⟩ = some (.int .u64 fr.sg.hi)) (first | go_keep | exact rS)
    (first | (go_at_call 221; refine hN.mono ?_; rintro e w3 ⟨rfl, rS, HS⟩))
  clear hN q0 q9 q10 q11 q12 q13 rS
  go_wp2
  go_ret
  exact ⟨rfl, HS.out⟩

set_option maxRecDepth 100000 in
set_option maxHeartbeats 1000000 in
theorem tWrite_place (h : St o (txL c A P x ++ spI A c z v u :: R) w) (hp : x.dg.phase = 2) {ce : Int} (hc : inN c.ce ce = false) (xv : Int) :
    Calls Tryz.prog 197 #[.pointer (some ⟨P.T, 0, none⟩), .int .i64 ce, .int .i64 xv] w fun e w' => e = .returned (.int .i64 2) ∧ St o (txL c A P x ++ spI A c z v u :: R) w' := by
  have hq := tPhase h
  rw [hp] at hq
  clear h hp
  by_cases h0 : ce < 0
  · clear hc
    go_enter Tryz.func197, Tryz.ntmps197
    go_wp2_with fail
    refine hq.mono ?_
    rintro e w1 ⟨rfl, s1⟩
    have H1 := hid s1
    clear hq s1
    go_wp2
    go_ret
    exact ⟨rfl, H1.out⟩
  · have h1 : c.ce ≤ ce := by simp [inN] at hc; omega
    clear hc
    go_enter Tryz.func197, Tryz.ntmps197
    go_wp2_with fail
    refine hq.mono ?_
    rintro e w1 ⟨rfl, s1⟩
    clear hq
    have c0 : w1.cell? ⟨P.T, 0, none⟩ = some (spp A) := tCell (P := P) s1 0
    have hC := spConfig s1 6 rfl
    unfold Cfg.val at hC
    unfold spp at c0 hC
    clear s1
    go_wp2_with fail
    refine hC.mono ?_
    rintro e w2 ⟨rfl, s2⟩
    have H2 := hid s2
    clear hC s2 c0
    go_wp2_with (simp only [fldCe])
    go_ret
    exact ⟨rfl, H2.out⟩

set_option maxRecDepth 100000 in
set_option maxHeartbeats 1000000 in
theorem tWrite_full (h : St o (txL c A P x ++ spI A c z v u :: R) w) (hp : x.dg.phase = 2) {ce : Int} (hc : inN c.ce ce = true) (hk : (Lit.int .i64 ce).wf = true) (hg : wrGet x.wr ce = none) (hf : x.wr.length = 16) (xv : Int) :
    Calls Tryz.prog 197 #[.pointer (some ⟨P.T, 0, none⟩), .int .i64 ce, .int .i64 xv] w fun e w' => e = .returned (.int .i64 10) ∧ St o (txL c A P x ++ spI A c z v u :: R) w' := by
  have hq := tPhase h
  rw [hp] at hq
  have ha := phase_two hp
  obtain ⟨th, dg, lo, le, lx, sp, fr, rds, wt, df⟩ := x
  simp only at *
  subst ha
  obtain ⟨h0, h1⟩ := inN_iff.1 hc
  have n0 : ¬ ce < 0 := by omega
  have n1 : ¬ c.ce ≤ ce := by omega
  clear h hp hc
  go_enter Tryz.func197, Tryz.ntmps197
  go_wp2_with fail
  refine hq.mono ?_
  rintro e w1 ⟨rfl, s1⟩
  clear hq
  have s1 : St o (tG c P (tC A P th (.iface 427 (.agg #[])) lo le lx sp (tlV P sp) fr P.rv) df wt rds (tlI A P th sp) (joinI []) ++ spI A c z v u :: R) w1 := s1
  have c0 : w1.cell? ⟨P.T, 0, none⟩ = some (spp A) := tCell s1 0
  have hC := spConfig s1 6 rfl
  unfold Cfg.val at hC
  unfold spp at c0 hC
  clear s1
  go_wp2_with fail
  refine hC.mono ?_
  rintro e w2 ⟨rfl, s2⟩
  have s2 : St o (tG c P (tC A P th (.iface 427 (.agg #[])) lo le lx sp (tlV P sp) fr P.rv) df wt rds (tlI A P th sp) (joinI []) ++ spI A c z v u :: R) w2 := s2
  clear hC c0
  have c15 : w2.cell? ⟨P.T, 15, none⟩ = some (.pointer (some ⟨P.L, 0, none⟩)) := tCell s2 15
  have hL := putA_full (show LogA w2 P.L 16 P.lv P.bm (prPs wt) from s2.get 2 tAt2) hk (prPs_none hg) (by rw [prPs_length]; omega) xv
  have HS2 := hid s2
  clear s2
  go_wp2_with (simp only [fldCe])
  refine hL.mono ?_
  rintro e w3 ⟨rfl, k3⟩
  have H3 := hid (HS2.out.calm k3)
  clear hL HS2 k3 c15
  go_wp2
  go_ret
  exact ⟨rfl, H3.out⟩

set_option maxRecDepth 100000 in
set_option maxHeartbeats 1000000 in
theorem tWrite_old (h : St o (txL c A P x ++ spI A c z v u :: R) w) (hp : x.dg.phase = 2) {ce : Int} (hc : inN c.ce ce = true) (hk : (Lit.int .i64 ce).wf = true) (hs : x.sp ≠ 0) (hb : z.ev.length ≤ 2000000000) {v0 : Int} (hg : wrGet x.wr ce = some v0) (hn : (cesOf x.wr).Nodup) (xv : Int) :
    Calls Tryz.prog 197 #[.pointer (some ⟨P.T, 0, none⟩), .int .i64 ce, .int .i64 xv] w fun e w' => e = .returned (.int .i64 0) ∧ ∃ P' u', P'.T = P.T ∧ St o (txL c A P' { x with lo := 3, le := 0, lx := xv, wr := wrPut x.wr ce xv } ++ spI A c (z.noted (x.evn 3 ce xv false 0 0 0)) v u' :: R) w' := by
  have hq := tPhase h
  rw [hp] at hq
  have ha := phase_two hp
  obtain ⟨th, dg, lo, le, lx, sp, fr, rds, wt, df⟩ := x
  simp only at *
  subst ha
  obtain ⟨h0, h1⟩ := inN_iff.1 hc
  obtain ⟨i, hi, hie, hat⟩ := prPs_get hg
  have HPP : Hid ((prPs wt).set i (.int .i64 ce, .int .i64 xv) = prPs (wrPut wt ce xv)) := prPs_put_old hn hg hi hie
  have n0 : ¬ ce < 0 := by omega
  have n1 : ¬ c.ce ≤ ce := by omega
  clear h hp hc
  go_enter Tryz.func197, Tryz.ntmps197
  go_wp2_with fail
  refine hq.mono ?_
  rintro e w1 ⟨rfl, s1⟩
  clear hq
  have s1 : St o (tG c P (tC A P th (.iface 427 (.agg #[])) lo le lx sp (tlV P sp) fr P.rv) df wt rds (tlI A P th sp) (joinI []) ++ spI A c z v u :: R) w1 := s1
  have c0 : w1.cell? ⟨P.T, 0, none⟩ = some (spp A) := tCell s1 0
  have hC := spConfig s1 6 rfl
  unfold Cfg.val at hC
  unfold spp at c0 hC
  clear s1
  go_wp2_with fail
  refine hC.mono ?_
  rintro e w2 ⟨rfl, s2⟩
  have s2 : St o (tG c P (tC A P th (.iface 427 (.agg #[])) lo le lx sp (tlV P sp) fr P.rv) df wt rds (tlI A P th sp) (joinI []) ++ spI A c z v u :: R) w2 := s2
  clear hC c0
  have c15 : w2.cell? ⟨P.T, 15, none⟩ = some (.pointer (some ⟨P.L, 0, none⟩)) := tCell s2 15
  have hL := putA_old (show LogA w2 P.L 16 P.lv P.bm (prPs wt) from s2.get 2 tAt2) hat xv
  have HS2 := hid s2
  clear s2
  go_wp2_with (simp only [fldCe])
  refine hL.mono ?_
  rintro e w3 ⟨rfl, t3⟩
  obtain ⟨lv2, s3⟩ := HS2.out.turn 2 rfl t3
  have s3 : St o (tG c { P with lv := lv2 } (tC A P th (.iface 427 (.agg #[])) lo le lx sp (tlV P sp) fr P.rv) df (wrPut wt ce xv) rds (tlI A P th sp) (joinI []) ++ spI A c z v u :: R) w3 := by
    have q := s3
    rw [HPP.out] at q
    exact q
  clear hL HS2 t3 c15
  have a4 : w3.cell? ⟨P.T, 4, none⟩ = some (.int .i64 lo) := tCell s3 4
  have a5 : w3.cell? ⟨P.T, 5, none⟩ = some (.int .i64 le) := tCell s3 5
  have a6 : w3.cell? ⟨P.T, 6, none⟩ = some (.int .i64 lx) := tCell s3 6
  have b4 : w3.frozen? ⟨P.T, 4, none⟩ = false := tFrozen s3 4
  have b5 : w3.frozen? ⟨P.T, 5, none⟩ = false := tFrozen s3 5
  have b6 : w3.frozen? ⟨P.T, 6, none⟩ = false := tFrozen s3 6
  have t1 : St o (tG c { P with lv := lv2 } (tC A P th (.iface 427 (.agg #[])) 3 0 xv sp (tlV P sp) fr P.rv) df (wrPut wt ce xv) rds (tlI A P th sp) (joinI []) ++ spI A c z v u :: R) (((w3.setCell ⟨P.T, 4, none⟩ (.int .i64 3)).setCell ⟨P.T, 5, none⟩ (.int .i64 0)).setCell ⟨P.T, 6, none⟩ (.int .i64 xv)) := tLastSet s3 3 0 xv
  clear s3
  go_upto_region 8 with fail
  generalize (((w3.setCell ⟨P.T, 4, none⟩ (.int .i64 3)).setCell ⟨P.T, 5, none⟩ (.int .i64 0)).setCell ⟨P.T, 6, none⟩ (.int .i64 xv)) = w9 at *
  clear a4 a5 a6 b4 b5 b6
  have c8 : w9.cell? ⟨P.T, 8, none⟩ = some (.func (.func 244) #[] #[.pointer (some ⟨P.c1, 0, none⟩), .pointer (some ⟨P.c2, 0, none⟩), .pointer (some ⟨P.c3, 0, none⟩)]) := (tCell t1 8).trans (tlV_on hs)
  have hq : Calls Tryz.prog 244 #[.agg #[.int .i64 3, .int .i64 0, .int .i64 0, .int .i64 0, .int .i64 ce, .int .i64 xv, .bool false, .int .i64 0, .int .i64 0, .int .i64 0], .pointer (some ⟨P.c1, 0, none⟩), .pointer (some ⟨P.c2, 0, none⟩), .pointer (some ⟨P.c3, 0, none⟩)] w9 _ := tTell t1 hs hb _ _ _ _ _ _ _
  clear t1
  go_wp2_with fail
  refine hq.mono ?_
  rintro e w10 ⟨rfl, u', s10⟩
  have H10 := hid s10
  clear hq s10 c8
  go_wp2
  go_ret
  exact ⟨rfl, { P with lv := lv2 }, u', rfl, H10.out⟩

set_option maxRecDepth 100000 in
set_option maxHeartbeats 1000000 in
theorem tWrite_new (h : St o (txL c A P x ++ spI A c z v u :: R) w) (hp : x.dg.phase = 2) {ce : Int} (hc : inN c.ce ce = true) (hk : (Lit.int .i64 ce).wf = true) (hs : x.sp ≠ 0) (hb : z.ev.length ≤ 2000000000) (hg : wrGet x.wr ce = none) (hf : x.wr.length < 16) (xv : Int) :
    Calls Tryz.prog 197 #[.pointer (some ⟨P.T, 0, none⟩), .int .i64 ce, .int .i64 xv] w fun e w' => e = .returned (.int .i64 0) ∧ ∃ P' u', P'.T = P.T ∧ St o (txL c A P' { x with lo := 3, le := 0, lx := xv, wr := wrPut x.wr ce xv } ++ spI A c (z.noted (x.evn 3 ce xv false 0 0 0)) v u' :: R) w' := by
  have hq := tPhase h
  rw [hp] at hq
  have ha := phase_two hp
  obtain ⟨th, dg, lo, le, lx, sp, fr, rds, wt, df⟩ := x
  simp only at *
  subst ha
  obtain ⟨h0, h1⟩ := inN_iff.1 hc
  have HPP : Hid (prPs wt ++ [(.int .i64 ce, .int .i64 xv)] = prPs (wrPut wt ce xv)) := prPs_put_new hg
  have n0 : ¬ ce < 0 := by omega
  have n1 : ¬ c.ce ≤ ce := by omega
  clear h hp hc
  go_enter Tryz.func197, Tryz.ntmps197
  go_wp2_with fail
  refine hq.mono ?_
  rintro e w1 ⟨rfl, s1⟩
  clear hq
  have s1 : St o (tG c P (tC A P th (.iface 427 (.agg #[])) lo le lx sp (tlV P sp) fr P.rv) df wt rds (tlI A P th sp) (joinI []) ++ spI A c z v u :: R) w1 := s1
  have c0 : w1.cell? ⟨P.T, 0, none⟩ = some (spp A) := tCell s1 0
  have hC := spConfig s1 6 rfl
  unfold Cfg.val at hC
  unfold spp at c0 hC
  clear s1
  go_wp2_with fail
  refine hC.mono ?_
  rintro e w2 ⟨rfl, s2⟩
  have s2 : St o (tG c P (tC A P th (.iface 427 (.agg #[])) lo le lx sp (tlV P sp) fr P.rv) df wt rds (tlI A P th sp) (joinI []) ++ spI A c z v u :: R) w2 := s2
  clear hC c0
  have c15 : w2.cell? ⟨P.T, 15, none⟩ = some (.pointer (some ⟨P.L, 0, none⟩)) := tCell s2 15
  have hL := putA_new (show LogA w2 P.L 16 P.lv P.bm (prPs wt) from s2.get 2 tAt2) hk (prPs_none hg) (by rw [prPs_length]; omega) xv
  have HS2 := hid s2
  clear s2
  go_wp2_with (simp only [fldCe])
  refine hL.mono ?_
  rintro e w3 ⟨rfl, t3⟩
  obtain ⟨lv2, s3⟩ := HS2.out.turn 2 rfl t3
  have s3 : St o (tG c { P with lv := lv2 } (tC A P th (.iface 427 (.agg #[])) lo le lx sp (tlV P sp) fr P.rv) df (wrPut wt ce xv) rds (tlI A P th sp) (joinI []) ++ spI A c z v u :: R) w3 := by
    have q := s3
    rw [HPP.out] at q
    exact q
  clear hL HS2 t3 c15
  have a4 : w3.cell? ⟨P.T, 4, none⟩ = some (.int .i64 lo) := tCell s3 4
  have a5 : w3.cell? ⟨P.T, 5, none⟩ = some (.int .i64 le) := tCell s3 5
  have a6 : w3.cell? ⟨P.T, 6, none⟩ = some (.int .i64 lx) := tCell s3 6
  have b4 : w3.frozen? ⟨P.T, 4, none⟩ = false := tFrozen s3 4
  have b5 : w3.frozen? ⟨P.T, 5, none⟩ = false := tFrozen s3 5
  have b6 : w3.frozen? ⟨P.T, 6, none⟩ = false := tFrozen s3 6
  have t1 : St o (tG c { P with lv := lv2 } (tC A P th (.iface 427 (.agg #[])) 3 0 xv sp (tlV P sp) fr P.rv) df (wrPut wt ce xv) rds (tlI A P th sp) (joinI []) ++ spI A c z v u :: R) (((w3.setCell ⟨P.T, 4, none⟩ (.int .i64 3)).setCell ⟨P.T, 5, none⟩ (.int .i64 0)).setCell ⟨P.T, 6, none⟩ (.int .i64 xv)) := tLastSet s3 3 0 xv
  clear s3
  go_upto_region 8 with fail
  generalize (((w3.setCell ⟨P.T, 4, none⟩ (.int .i64 3)).setCell ⟨P.T, 5, none⟩ (.int .i64 0)).setCell ⟨P.T, 6, none⟩ (.int .i64 xv)) = w9 at *
  clear a4 a5 a6 b4 b5 b6
  have c8 : w9.cell? ⟨P.T, 8, none⟩ = some (.func (.func 244) #[] #[.pointer (some ⟨P.c1, 0, none⟩), .pointer (some ⟨P.c2, 0, none⟩), .pointer (some ⟨P.c3, 0, none⟩)]) := (tCell t1 8).trans (tlV_on hs)
  have hq : Calls Tryz.prog 244 #[.agg #[.int .i64 3, .int .i64 0, .int .i64 0, .int .i64 0, .int .i64 ce, .int .i64 xv, .bool false, .int .i64 0, .int .i64 0, .int .i64 0], .pointer (some ⟨P.c1, 0, none⟩), .pointer (some ⟨P.c2, 0, none⟩), .pointer (some ⟨P.c3, 0, none⟩)] w9 _ := tTell t1 hs hb _ _ _ _ _ _ _
  clear t1
  go_wp2_with fail
  refine hq.mono ?_
  rintro e w10 ⟨rfl, u', s10⟩
  have H10 := hid s10
  clear hq s10 c8
  go_wp2
  go_ret
  exact ⟨rfl, { P with lv := lv2 }, u', rfl, H10.out⟩

end
end Go.Proofs.YthbcbjkgjgmegaaGreat
