/- A spot is left. -/
import Derived.Test.YtcchflfeomainaaGreatDoorVfB
namespace Go.Proofs.YtcchflfeomainaaGreatDoor
open Go.RowKit
set_option linter.unusedVariables false
set_option linter.unusedSimpArgs false
attribute [local go_sem ↓] Go.wp_at_zero Go.wp_at_succ

section
variable {o w : World} {A : Wad} {L : List Ins} {vt : Value} {V : Vst}
set_option maxRecDepth 100000 in
theorem note_st (h : St o (wkL A L vt V) w) (ok : Vok L.length V) {p : Nat} (hp : p < L.length) (e : Int) :
    Calls Tryz.prog 50 #[.pointer (some ⟨A.k, 0, none⟩), .int .i64 p, .int .i64 e] w fun x w' => x = .returned (.tuple #[]) ∧ St o (wkL A L vt (noteM p e V)) w' := by
  obtain ⟨A, bt, vl, gs, gc, gw⟩ := A
  have c5 : w.cell? ⟨A, 5, none⟩ = some (.slice (some ⟨gw, 0, none⟩) L.length L.length) := h.cell 0 rfl 5
  have cw : w.cell? ⟨gw, p, none⟩ = some (.int .i64 (V.wrong.getD p 0)) := (h.cell 5 rfl _).trans (nCells_at _ _ (by rw [ok.w]; exact hp))
  have fw : w.frozen? ⟨gw, p, none⟩ = false := h.frozen 5 rfl _
  have s2 := h.write 5 rfl p (.int .i64 e)
  rw [nCells_set] at s2
  have b1 : (0 : Int) ≤ (p : Int) := Int.natCast_nonneg _
  have b2 : (p : Int) < (L.length : Int) := by omega
  unfold noteM
  by_cases h1 : V.wrong.getD p 0 = 155
  · rw [if_pos h1]
    have t1 : (V.wrong.getD p 0 != 155) = false := by simp only [bne, h1]; rfl
    have HS := hid h
    clear h s2 ok h1
    generalize V.wrong.getD p 0 = x at *
    go_enter Tryz.func50, Tryz.ntmps50
    go_wp2
    go_end0
    exact ⟨rfl, HS.out⟩
  · rw [if_neg h1]
    have t1 : (V.wrong.getD p 0 != 155) = true := bne_iff_ne.2 h1
    have HS := hid s2
    clear h s2 ok h1
    generalize V.wrong.getD p 0 = x at *
    go_enter Tryz.func50, Tryz.ntmps50
    go_wp2
    go_end0
    exact ⟨rfl, HS.out⟩
set_option maxRecDepth 100000 in
set_option maxHeartbeats 4000000 in
theorem leave_st (hL : Lok L) (h : St o (wkL A L vt V) w) (ok : Vok L.length V) {x : Spt} (hp : x.p < L.length) (hs : x.s.ok) :
    Calls Tryz.prog 31 #[.pointer (some ⟨A.k, 0, none⟩), .agg #[.int .i64 x.p, .int .i64 x.s.d, .bool x.s.i, .int .i64 x.s.b]] w fun e w' => e = .returned (.tuple #[]) ∧ ∃ vt', St o (wkL A L vt' (leaveM L x V)) w' := by
  have hm : L.getD x.p Ins.zero ∈ L := by rw [List.getD_eq_getElem?_getD, List.getElem?_eq_getElem hp]; exact List.getElem_mem _
  have hk := hL.known _ hm
  obtain ⟨m, hm1, hm2, hm3⟩ := known_nat hk
  have hr := rowOk m hm3
  have hlo : w.ownsRow 0 48 2 A.vl L.length (insCells L) := h.get 2 rfl
  obtain ⟨gl, lc, hvl⟩ : ∃ gl lc, A.vl = .slice (some ⟨gl, 0, none⟩) L.length lc := by
    rcases hlo.2 with ⟨h1, h2⟩ | ⟨g, cap, cur, h1, _⟩
    · omega
    · exact ⟨g, cap, h1⟩
  obtain ⟨y0, y1⟩ := insCells_at L x.p hp
  rw [hvl] at hlo
  have hcell := fun k (hk : k < L.length * 2) => hlo.cellAt k hk
  have l0 := (hcell (x.p * 2) (by omega)).trans y0
  have l1 := (hcell (x.p * 2 + 1) (by omega)).trans y1
  have hpl := hL.place _ hm
  have hlast : (L.getD x.p Ins.zero).op ≠ 22 → x.p + 1 < L.length := fun h22 => by
    by_cases e : x.p = L.length - 1
    · rw [e] at h22; exact absurd hL.last h22
    · omega
  have hS := h.box #[.int .i64 x.p, .int .i64 x.s.d, .bool x.s.i, .int .i64 x.s.b] 70
  have HL := hid hL
  obtain ⟨R, hR⟩ : ∃ R, R = leaveM L x V := ⟨_, rfl⟩
  rw [← hR]
  unfold leaveM at hR
  have c1 : w.cell? ⟨A.k, 1, none⟩ = some (.slice (some ⟨gl, 0, none⟩) L.length lc) := by rw [← hvl]; exact h.cell 0 rfl 1
  obtain ⟨p, ss⟩ := x
  simp only at *
  have hmem := hm
  clear hm hcell y0 y1
  generalize L.getD p Ins.zero = xx at *
  obtain ⟨xo, xa⟩ := xx
  simp only at *
  subst hm1
  have HR := hid hR
  clear hR
  have b1 : (0 : Int) ≤ (p : Int) := Int.natCast_nonneg _
  have b2 : (p : Int) < (L.length : Int) := by omega
  have b3 : (0 : Int) ≤ (m : Int) := Int.natCast_nonneg _
  have b4 : (m : Int) < 23 := by omega
  have b5 : (p : Int) ≤ 401 := by have := hL.m; omega
  have hLm := hL.m
  have ham := fun W => amiss_st (rowOf (m : Int)) hr ss hs W
  have hbe := fun (ha : amissM (rowOf (m : Int)) ss = 0) W => behind_st (m : Int) (rowOf (m : Int)) hr ss hs ha W
  have hbk := fun (ha : amissM (rowOf (m : Int)) ss = 0) => behind_ok (op := (m : Int)) hs ha
  have hcl : w.cell? ⟨A.k, 0, none⟩ = some (.slice (some ⟨A.bt, 0, none⟩) 23 23) := h.cell 0 rfl 0
  have htb : TabAt 57 A.bt w := h.get 1 rfl
  have x0 := htb.word hm3
  have x1 := htb.takes hm3
  have x2 := htb.pops hm3
  have x3 := htb.pushes hm3
  have x4 := htb.whr hm3
  have s2 := (hS.box #[.int .i64 m, .int .i64 xa] 48).drew
  rw [alloc_size] at s2
  have hklt := World.block_lt_of_cell? w _ c1
  have hgl := World.block_lt_of_cell? w _ l0
  have hbt := World.block_lt_of_cell? w _ x0
  simp only at hklt hgl hbt
  have g1 : ∀ o, (w.alloc o).cell? ⟨A.k, 1, none⟩ = some (.slice (some ⟨gl, 0, none⟩) L.length lc) := fun o => by rw [World.cell?_of_block (Below.heap_alloc w o A.k hklt)]; exact c1
  have g2 : ∀ o, (w.alloc o).cell? ⟨gl, p * 2, none⟩ = some (.int .i64 m) := fun o => by rw [World.cell?_of_block (Below.heap_alloc w o gl hgl)]; exact l0
  have g3 : ∀ o, (w.alloc o).cell? ⟨gl, p * 2 + 1, none⟩ = some (.int .i64 xa) := fun o => by rw [World.cell?_of_block (Below.heap_alloc w o gl hgl)]; exact l1
  have OK0 := hid ok
  clear h hlo hs hL ok
  go_enter Tryz.func31, Tryz.ntmps31
  go_upto_region 1 with fail
  go_region
  clear g1 g2 g3 c1 l0 l1 hcl htb x0 x1 x2 x3 x4 hklt hgl hbt hS
  go_upto_region 2 with fail
  generalize ((w.alloc (.cells #[.int .i64 p, .int .i64 ss.d, .bool ss.i, .int .i64 ss.b] 70)).alloc (.cells #[.int .i64 m, .int .i64 xa] 48)).drew = w2 at *
  generalize w.heap.size = M at *
  have c0 : w2.cell? ⟨A.k, 0, none⟩ = some (.slice (some ⟨A.bt, 0, none⟩) 23 23) := s2.cell 2 rfl 0
  have cm : w2.cell? ⟨M + 1, 0, none⟩ = some (.int .i64 m) := s2.cell 0 rfl 0
  have htb : TabAt 57 A.bt w2 := s2.get 3 rfl
  have x0 := htb.word hm3
  have x1 := htb.takes hm3
  have x2 := htb.pops hm3
  have x3 := htb.pushes hm3
  have x4 := htb.whr hm3
  have s3 := (s2.box #[.string (rowOf (m : Int)).word, .int .i64 (rowOf (m : Int)).takes, .int .i64 (rowOf (m : Int)).pops, .int .i64 (rowOf (m : Int)).pushes, .int .i64 (rowOf (m : Int)).whr] 57).drew
  simp only [Row.val, Sst.val] at ham hbe
  have gz := fun o => s2.calm (kept_alloc w2 o)
  have z0 : ∀ o, (w2.alloc o).cell? ⟨A.k, 0, none⟩ = some (.slice (some ⟨A.bt, 0, none⟩) 23 23) := fun o => (gz o).cell 2 rfl 0
  have zm : ∀ o, (w2.alloc o).cell? ⟨M + 1, 0, none⟩ = some (.int .i64 m) := fun o => (gz o).cell 0 rfl 0
  have hz : ∀ o, TabAt 57 A.bt (w2.alloc o) := fun o => (gz o).get 3 rfl
  have z3 := fun o => (hz o).word hm3
  have z4 := fun o => (hz o).takes hm3
  have z5 := fun o => (hz o).pops hm3
  have z6 := fun o => (hz o).pushes hm3
  have z7 := fun o => (hz o).whr hm3
  clear s2 gz hz
  have HRW := hid hr
  clear hr htb
  go_region
  clear c0 cm x0 x1 x2 x3 x4 z0 zm z3 z4 z5 z6 z7
  go_upto_region 3 with fail
  generalize (w2.alloc (.cells #[.string (rowOf (m : Int)).word, .int .i64 (rowOf (m : Int)).takes, .int .i64 (rowOf (m : Int)).pops, .int .i64 (rowOf (m : Int)).pushes, .int .i64 (rowOf (m : Int)).whr] 57)).drew = w3 at *
  generalize w2.heap.size = M3 at *
  have r0 : w3.cell? ⟨M3, 0, none⟩ = some (.string (rowOf (m : Int)).word) := s3.cell 0 rfl 0
  have r1 : w3.cell? ⟨M3, 1, none⟩ = some (.int .i64 (rowOf (m : Int)).takes) := s3.cell 0 rfl 1
  have r2 : w3.cell? ⟨M3, 2, none⟩ = some (.int .i64 (rowOf (m : Int)).pops) := s3.cell 0 rfl 2
  have r3 : w3.cell? ⟨M3, 3, none⟩ = some (.int .i64 (rowOf (m : Int)).pushes) := s3.cell 0 rfl 3
  have r4 : w3.cell? ⟨M3, 4, none⟩ = some (.int .i64 (rowOf (m : Int)).whr) := s3.cell 0 rfl 4
  have e1 : w3.cell? ⟨M, 1, none⟩ = some (.int .i64 ss.d) := s3.cell 2 rfl 1
  have e2 : w3.cell? ⟨M, 2, none⟩ = some (.bool ss.i) := s3.cell 2 rfl 2
  have e3 : w3.cell? ⟨M, 3, none⟩ = some (.int .i64 ss.b) := s3.cell 2 rfl 3
  have HS3 : Hid (∀ W, Kept (fun _ => False) w3 W → St o (boxI M3 #[.string (rowOf (m : Int)).word, .int .i64 (rowOf (m : Int)).takes, .int .i64 (rowOf (m : Int)).pops, .int .i64 (rowOf (m : Int)).pushes, .int .i64 (rowOf (m : Int)).whr] 57 :: boxI (M + 1) #[.int .i64 m, .int .i64 xa] 48 :: boxI M #[.int .i64 p, .int .i64 ss.d, .bool ss.i, .int .i64 ss.b] 70 :: wkL A L vt V) W) := fun W k => s3.calm k
  clear s3
  go_wp2_with fail
  refine (ham _).mono ?_
  clear ham r0 r1 r2 r3 r4 e1 e2 e3
  rintro e w4 ⟨rfl, k4⟩
  have s4 := HS3.out _ k4
  clear HS3 k4
  have p0 : w4.cell? ⟨M, 0, none⟩ = some (.int .i64 p) := s4.cell 2 rfl 0
  by_cases ha : amissM (rowOf (m : Int)) ss = 0
  · have HR2 : Hid _ := hid (HR.out.trans (if_pos ha))
    rw [ha]
    have hb := hbe ha
    have hnk := hbk ha
    have r0 : w4.cell? ⟨M3, 0, none⟩ = some (.string (rowOf (m : Int)).word) := s4.cell 0 rfl 0
    have r1 : w4.cell? ⟨M3, 1, none⟩ = some (.int .i64 (rowOf (m : Int)).takes) := s4.cell 0 rfl 1
    have r2 : w4.cell? ⟨M3, 2, none⟩ = some (.int .i64 (rowOf (m : Int)).pops) := s4.cell 0 rfl 2
    have r3 : w4.cell? ⟨M3, 3, none⟩ = some (.int .i64 (rowOf (m : Int)).pushes) := s4.cell 0 rfl 3
    have r4 : w4.cell? ⟨M3, 4, none⟩ = some (.int .i64 (rowOf (m : Int)).whr) := s4.cell 0 rfl 4
    have e1 : w4.cell? ⟨M, 1, none⟩ = some (.int .i64 ss.d) := s4.cell 2 rfl 1
    have e2 : w4.cell? ⟨M, 2, none⟩ = some (.bool ss.i) := s4.cell 2 rfl 2
    have e3 : w4.cell? ⟨M, 3, none⟩ = some (.int .i64 ss.b) := s4.cell 2 rfl 3
    have cm : w4.cell? ⟨M + 1, 0, none⟩ = some (.int .i64 m) := s4.cell 1 rfl 0
    have HS4 := hid s4
    clear s4 hbe hbk HR
    go_wp2_with fail
    refine (hb _).mono ?_
    clear hb r0 r1 r2 r3 r4 e1 e2 e3 cm p0
    rintro e w5 ⟨rfl, k5⟩
    have s5 := (HS4.out.calm k5).box #[.int .i64 (behindM (m : Int) (rowOf (m : Int)) ss).d, .bool (behindM (m : Int) (rowOf (m : Int)) ss).i, .int .i64 (behindM (m : Int) (rowOf (m : Int)) ss).b] 63
    generalize behindM (m : Int) (rowOf (m : Int)) ss = nx at *
    clear HS4 k5
    go_upto_region 7 with fail
    generalize w5.alloc (.cells #[.int .i64 nx.d, .bool nx.i, .int .i64 nx.b] 63) = w6 at *
    generalize w5.heap.size = M5 at *
    have n0 : w6.cell? ⟨M5, 0, none⟩ = some (.int .i64 nx.d) := s5.cell 0 rfl 0
    have n1 : w6.cell? ⟨M5, 1, none⟩ = some (.bool nx.i) := s5.cell 0 rfl 1
    have n2 : w6.cell? ⟨M5, 2, none⟩ = some (.int .i64 nx.b) := s5.cell 0 rfl 2
    have p0 : w6.cell? ⟨M, 0, none⟩ = some (.int .i64 p) := s5.cell 3 rfl 0
    have cm : w6.cell? ⟨M + 1, 0, none⟩ = some (.int .i64 m) := s5.cell 2 rfl 0
    have ca : w6.cell? ⟨M + 1, 1, none⟩ = some (.int .i64 xa) := s5.cell 2 rfl 1
    have HS5 := hid s5.pop.pop.pop.pop
    clear ha HRW
    by_cases e22 : (m : Int) = 22
    · have HX : Hid (R = V) := HR2.out.trans (if_pos e22)
      have t22 : ((m : Int) == 22) = true := by simp [e22]
      clear s5 HR2 e22
      go_wp2_with fail
      go_end0
      exact ⟨rfl, vt, by rw [HX.out]; exact HS5.out⟩
    · have HR3 := hid (HR2.out.trans (if_neg e22))
      have t22 : ((m : Int) == 22) = false := by simp [e22]
      have hnx := hlast e22
      clear HR2
      by_cases ej : (m : Int) = 14 ∨ (m : Int) = 20
      · have HX := hid (HR3.out.trans (if_pos ej))
        obtain ⟨q1, q2⟩ := hpl (by rcases ej with e | e; exact .inl e; exact .inr (.inr e))
        have hco := come_st HS5.out OK0.out hLm q2 hnk
        rw [show ((xa.toNat : Nat) : Int) = xa from Int.toNat_of_nonneg q1] at hco
        unfold Sst.val at hco
        clear s5 HR3 HS5
        by_cases e14 : (m : Int) = 14
        · have t14 : ((m : Int) == 14) = true := by simp [e14]
          clear ej e22 e14
          go_wp2_with (go_at_call 30; refine hco.mono ?_; rintro e w7 ⟨rfl, vt7, s7⟩; replace s7 := hid s7)
          go_end0
          exact ⟨rfl, vt7, by rw [HX.out]; exact s7.out⟩
        · have t14 : ((m : Int) == 14) = false := by simp [e14]
          have t20 : ((m : Int) == 20) = true := by rcases ej with e | e; exact absurd e e14; simp [e]
          clear ej e22 e14
          go_wp2_with (go_at_call 30; refine hco.mono ?_; rintro e w7 ⟨rfl, vt7, s7⟩; replace s7 := hid s7)
          go_end0
          exact ⟨rfl, vt7, by rw [HX.out]; exact s7.out⟩
      · have HR4 := hid (HR3.out.trans (if_neg ej))
        have t14 : ((m : Int) == 14) = false := by simp; exact fun e => ej (.inl e)
        have t20 : ((m : Int) == 20) = false := by simp; exact fun e => ej (.inr e)
        have hco := come_st HS5.out OK0.out hLm hnx hnk
        have hc1 : (((p + 1 : Nat)) : Int) = (p : Int) + 1 := by omega
        rw [hc1] at hco
        unfold Sst.val at hco
        clear HR3
        by_cases e15 : (m : Int) = 15
        · have HX := hid (HR4.out.trans (if_pos e15))
          have t15 : ((m : Int) == 15) = true := by simp [e15]
          obtain ⟨q1, q2⟩ := hpl (.inr (.inl e15))
          have ok1 := OK0.out.come hnx hnk
          have s6 : St o (wkL A L vt V ++ [boxI M5 #[.int .i64 nx.d, .bool nx.i, .int .i64 nx.b] 63, boxI M3 #[.string (rowOf (m : Int)).word, .int .i64 (rowOf (m : Int)).takes, .int .i64 (rowOf (m : Int)).pops, .int .i64 (rowOf (m : Int)).pushes, .int .i64 (rowOf (m : Int)).whr] 57, boxI (M + 1) #[.int .i64 m, .int .i64 xa] 48, boxI M #[.int .i64 p, .int .i64 ss.d, .bool ss.i, .int .i64 ss.b] 70]) w6 := s5.perm (List.perm_append_comm (l₁ := [_, _, _, _]) (l₂ := wkL A L vt V))
          have hco := come_sr s6 OK0.out hLm hnx hnk
          rw [hc1] at hco
          unfold Sst.val at hco
          clear HR4 ej e22 e15 s5 s6 HS5
          go_wp2_with fail
          refine hco.mono ?_
          clear hco n0 n1 n2 p0 cm ca
          rintro e w7 ⟨rfl, vt7, s7⟩
          have n0 : w7.cell? ⟨M5, 0, none⟩ = some (.int .i64 nx.d) := s7.cell 7 rfl 0
          have n1 : w7.cell? ⟨M5, 1, none⟩ = some (.bool nx.i) := s7.cell 7 rfl 1
          have n2 : w7.cell? ⟨M5, 2, none⟩ = some (.int .i64 nx.b) := s7.cell 7 rfl 2
          have ca : w7.cell? ⟨M + 1, 1, none⟩ = some (.int .i64 xa) := s7.cell 9 rfl 1
          have s8 := ((s7.perm (List.perm_append_comm (l₂ := [boxI M5 #[.int .i64 nx.d, .bool nx.i, .int .i64 nx.b] 63, boxI M3 #[.string (rowOf (m : Int)).word, .int .i64 (rowOf (m : Int)).takes, .int .i64 (rowOf (m : Int)).pops, .int .i64 (rowOf (m : Int)).pushes, .int .i64 (rowOf (m : Int)).whr] 57, boxI (M + 1) #[.int .i64 m, .int .i64 xa] 48, boxI M #[.int .i64 p, .int .i64 ss.d, .bool ss.i, .int .i64 ss.b] 70]))).pop.pop.pop.pop)
          have hc2 := come_st s8 ok1 hLm q2 hnk
          rw [show ((xa.toNat : Nat) : Int) = xa from Int.toNat_of_nonneg q1] at hc2
          unfold Sst.val at hc2
          clear s7 s8
          go_wp2_with (go_at_call 30; refine hc2.mono ?_; rintro e w8 ⟨rfl, vt8, s8⟩; replace s8 := hid s8)
          go_end0
          exact ⟨rfl, vt8, by rw [HX.out]; exact s8.out⟩
        · have HX := hid (HR4.out.trans (if_neg e15))
          have t15 : ((m : Int) == 15) = false := by simp [e15]
          clear HR4 ej e22 e15 s5 HS5
          go_wp2_with (go_at_call 30; refine hco.mono ?_; rintro e w7 ⟨rfl, vt7, s7⟩; replace s7 := hid s7)
          go_end0
          exact ⟨rfl, vt7, by rw [HX.out]; exact s7.out⟩
  · have HR2 := hid (HR.out.trans (if_neg ha))
    have hno := note_st s4.pop.pop.pop OK0.out hp (amissM (rowOf (m : Int)) ss)
    have t1 : (amissM (rowOf (m : Int)) ss != 0) = true := by simpa using ha
    generalize amissM (rowOf (m : Int)) ss = am at *
    clear s4 HR ha hbe hbk
    go_wp2_with (go_at_call 50; refine hno.mono ?_; rintro e w7 ⟨rfl, s7⟩; replace s7 := hid s7)
    first | go_end0 | refine bodyPost_ret (results_none rfl _ _ _) rfl ?_
    exact ⟨rfl, vt, by rw [HR2.out]; exact s7.out⟩
end
end Go.Proofs.YtcchflfeomainaaGreatDoor
