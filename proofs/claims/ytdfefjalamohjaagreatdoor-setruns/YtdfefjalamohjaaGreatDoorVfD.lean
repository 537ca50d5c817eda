/- A spot is left. A new walk. -/
import Derived.Test.YtdfefjalamohjaaGreatDoorVfB
import Derived.Test.YtdfefjalamohjaaGreatDoorPsE
import Derived.Maps.AppendAt
namespace Go.Proofs.YtdfefjalamohjaaGreatDoor
open Go.RowKit
set_option linter.unusedVariables false
set_option linter.unusedSimpArgs false
attribute [local go_sem ↓] Go.wp_at_zero Go.wp_at_succ

section
variable {o w : World} {A : Wad} {L : List Ins} {vt : Value} {V : Vst}
set_option maxRecDepth 100000 in
theorem note_st (h : St o (wkL A L vt V) w) (ok : Vok L.length V) {p : Nat} (hp : p < L.length) (e : Int) :
    Calls Tryz.prog 73 #[.pointer (some ⟨A.k, 0, none⟩), .int .i64 p, .int .i64 e] w fun x w' => x = .returned (.tuple #[]) ∧ St o (wkL A L vt (noteM p e V)) w' := by
  obtain ⟨A, bt, vl, gs, gc, gw⟩ := A
  have c5 : w.cell? ⟨A, 5, none⟩ = some (.slice (some ⟨gw, 0, none⟩) L.length L.length) := h.cell 0 rfl 5
  have cw : w.cell? ⟨gw, p, none⟩ = some (.int .i64 (V.wrong.getD p 0)) := (h.cell 5 rfl _).trans (nCells_at _ _ (by rw [ok.w]; exact hp))
  have fw : w.frozen? ⟨gw, p, none⟩ = false := h.frozen 5 rfl _
  have s2 := h.write 5 rfl p (.int .i64 e)
  rw [nCells_set] at s2
  have b1 : (0 : Int) ≤ (p : Int) := Int.natCast_nonneg _
  have b2 : (p : Int) < (L.length : Int) := by omega
  unfold noteM
  by_cases h1 : V.wrong.getD p 0 = 155
  · rw [if_pos h1]
    have t1 : (V.wrong.getD p 0 != 155) = false := by simp only [bne, h1]; rfl
    have HS := hid h
    clear h s2 ok h1
    generalize V.wrong.getD p 0 = x at *
    go_enter Tryz.func73, Tryz.ntmps73
    go_wp2
    go_end0
    exact ⟨rfl, HS.out⟩
  · rw [if_neg h1]
    have t1 : (V.wrong.getD p 0 != 155) = true := bne_iff_ne.2 h1
    have HS := hid s2
    clear h s2 ok h1
    generalize V.wrong.getD p 0 = x at *
    go_enter Tryz.func73, Tryz.ntmps73
    go_wp2
    go_end0
    exact ⟨rfl, HS.out⟩
set_option maxRecDepth 100000 in
set_option maxHeartbeats 4000000 in
theorem leave_st (hL : Lok L) (h : St o (wkL A L vt V) w) (ok : Vok L.length V) {x : Spt} (hp : x.p < L.length) (hs : x.s.ok) :
    Calls Tryz.prog 47 #[.pointer (some ⟨A.k, 0, none⟩), .agg #[.int .i64 x.p, .int .i64 x.s.d, .bool x.s.i, .int .i64 x.s.b]] w fun e w' => e = .returned (.tuple #[]) ∧ ∃ vt', St o (wkL A L vt' (leaveM L x V)) w' := by
  have hm : L.getD x.p Ins.zero ∈ L := by rw [List.getD_eq_getElem?_getD, List.getElem?_eq_getElem hp]; exact List.getElem_mem _
  have hk := hL.known _ hm
  obtain ⟨m, hm1, hm2, hm3⟩ := known_nat hk
  have hr := rowOk m hm3
  have hlo : w.ownsRow 0 87 2 A.vl L.length (insCells L) := h.get 2 rfl
  obtain ⟨gl, lc, hvl⟩ : ∃ gl lc, A.vl = .slice (some ⟨gl, 0, none⟩) L.length lc := by
    rcases hlo.2 with ⟨h1, h2⟩ | ⟨g, cap, cur, h1, _⟩
    · omega
    · exact ⟨g, cap, h1⟩
  obtain ⟨y0, y1⟩ := insCells_at L x.p hp
  rw [hvl] at hlo
  have hcell := fun k (hk : k < L.length * 2) => hlo.cellAt k hk
  have l0 := (hcell (x.p * 2) (by omega)).trans y0
  have l1 := (hcell (x.p * 2 + 1) (by omega)).trans y1
  have hpl := hL.place _ hm
  have hlast : (L.getD x.p Ins.zero).op ≠ 22 → x.p + 1 < L.length := fun h22 => by
    by_cases e : x.p = L.length - 1
    · rw [e] at h22; exact absurd hL.last h22
    · omega
  have hS := h.box #[.int .i64 x.p, .int .i64 x.s.d, .bool x.s.i, .int .i64 x.s.b] 101
  have HL := hid hL
  obtain ⟨R, hR⟩ : ∃ R, R = leaveM L x V := ⟨_, rfl⟩
  rw [← hR]
  unfold leaveM at hR
  have c1 : w.cell? ⟨A.k, 1, none⟩ = some (.slice (some ⟨gl, 0, none⟩) L.length lc) := by rw [← hvl]; exact h.cell 0 rfl 1
  obtain ⟨p, ss⟩ := x
  simp only at *
  have hmem := hm
  clear hm hcell y0 y1
  generalize L.getD p Ins.zero = xx at *
  obtain ⟨xo, xa⟩ := xx
  simp only at *
  subst hm1
  have HR := hid hR
  clear hR
  have b1 : (0 : Int) ≤ (p : Int) := Int.natCast_nonneg _
  have b2 : (p : Int) < (L.length : Int) := by omega
  have b3 : (0 : Int) ≤ (m : Int) := Int.natCast_nonneg _
  have b4 : (m : Int) < 23 := by omega
  have b5 : (p : Int) ≤ 401 := by have := hL.m; omega
  have hLm := hL.m
  have ham := fun W => amiss_st (rowOf (m : Int)) hr ss hs W
  have hbe := fun (ha : amissM (rowOf (m : Int)) ss = 0) W => behind_st (m : Int) (rowOf (m : Int)) hr ss hs ha W
  have hbk := fun (ha : amissM (rowOf (m : Int)) ss = 0) => behind_ok (op := (m : Int)) hs ha
  have hcl : w.cell? ⟨A.k, 0, none⟩ = some (.slice (some ⟨A.bt, 0, none⟩) 23 23) := h.cell 0 rfl 0
  have htb : TabAt 127 A.bt w := h.get 1 rfl
  have x0 := htb.word hm3
  have x1 := htb.takes hm3
  have x2 := htb.pops hm3
  have x3 := htb.pushes hm3
  have x4 := htb.whr hm3
  have s2 := (hS.box #[.int .i64 m, .int .i64 xa] 87).drew
  rw [alloc_size] at s2
  have hklt := World.block_lt_of_cell? w _ c1
  have hgl := World.block_lt_of_cell? w _ l0
  have hbt := World.block_lt_of_cell? w _ x0
  simp only at hklt hgl hbt
  have g1 : ∀ o, (w.alloc o).cell? ⟨A.k, 1, none⟩ = some (.slice (some ⟨gl, 0, none⟩) L.length lc) := fun o => by rw [World.cell?_of_block (Below.heap_alloc w o A.k hklt)]; exact c1
  have g2 : ∀ o, (w.alloc o).cell? ⟨gl, p * 2, none⟩ = some (.int .i64 m) := fun o => by rw [World.cell?_of_block (Below.heap_alloc w o gl hgl)]; exact l0
  have g3 : ∀ o, (w.alloc o).cell? ⟨gl, p * 2 + 1, none⟩ = some (.int .i64 xa) := fun o => by rw [World.cell?_of_block (Below.heap_alloc w o gl hgl)]; exact l1
  have OK0 := hid ok
  clear h hlo hs hL ok
  go_enter Tryz.func47, Tryz.ntmps47
  go_upto_region 1 with fail
  go_region
  clear g1 g2 g3 c1 l0 l1 hcl htb x0 x1 x2 x3 x4 hklt hgl hbt hS
  go_upto_region 2 with fail
  generalize ((w.alloc (.cells #[.int .i64 p, .int .i64 ss.d, .bool ss.i, .int .i64 ss.b] 101)).alloc (.cells #[.int .i64 m, .int .i64 xa] 87)).drew = w2 at *
  generalize w.heap.size = M at *
  have c0 : w2.cell? ⟨A.k, 0, none⟩ = some (.slice (some ⟨A.bt, 0, none⟩) 23 23) := s2.cell 2 rfl 0
  have cm : w2.cell? ⟨M + 1, 0, none⟩ = some (.int .i64 m) := s2.cell 0 rfl 0
  have htb : TabAt 127 A.bt w2 := s2.get 3 rfl
  have x0 := htb.word hm3
  have x1 := htb.takes hm3
  have x2 := htb.pops hm3
  have x3 := htb.pushes hm3
  have x4 := htb.whr hm3
  have s3 := (s2.box #[.string (rowOf (m : Int)).word, .int .i64 (rowOf (m : Int)).takes, .int .i64 (rowOf (m : Int)).pops, .int .i64 (rowOf (m : Int)).pushes, .int .i64 (rowOf (m : Int)).whr] 127).drew
  simp only [Row.val, Sst.val] at ham hbe
  have gz := fun o => s2.calm (kept_alloc w2 o)
  have z0 : ∀ o, (w2.alloc o).cell? ⟨A.k, 0, none⟩ = some (.slice (some ⟨A.bt, 0, none⟩) 23 23) := fun o => (gz o).cell 2 rfl 0
  have zm : ∀ o, (w2.alloc o).cell? ⟨M + 1, 0, none⟩ = some (.int .i64 m) := fun o => (gz o).cell 0 rfl 0
  have hz : ∀ o, TabAt 127 A.bt (w2.alloc o) := fun o => (gz o).get 3 rfl
  have z3 := fun o => (hz o).word hm3
  have z4 := fun o => (hz o).takes hm3
  have z5 := fun o => (hz o).pops hm3
  have z6 := fun o => (hz o).pushes hm3
  have z7 := fun o => (hz o).whr hm3
  clear s2 gz hz
  have HRW := hid hr
  clear hr htb
  go_region
  clear c0 cm x0 x1 x2 x3 x4 z0 zm z3 z4 z5 z6 z7
  go_upto_region 3 with fail
  generalize (w2.alloc (.cells #[.string (rowOf (m : Int)).word, .int .i64 (rowOf (m : Int)).takes, .int .i64 (rowOf (m : Int)).pops, .int .i64 (rowOf (m : Int)).pushes, .int .i64 (rowOf (m : Int)).whr] 127)).drew = w3 at *
  generalize w2.heap.size = M3 at *
  have r0 : w3.cell? ⟨M3, 0, none⟩ = some (.string (rowOf (m : Int)).word) := s3.cell 0 rfl 0
  have r1 : w3.cell? ⟨M3, 1, none⟩ = some (.int .i64 (rowOf (m : Int)).takes) := s3.cell 0 rfl 1
  have r2 : w3.cell? ⟨M3, 2, none⟩ = some (.int .i64 (rowOf (m : Int)).pops) := s3.cell 0 rfl 2
  have r3 : w3.cell? ⟨M3, 3, none⟩ = some (.int .i64 (rowOf (m : Int)).pushes) := s3.cell 0 rfl 3
  have r4 : w3.cell? ⟨M3, 4, none⟩ = some (.int .i64 (rowOf (m : Int)).whr) := s3.cell 0 rfl 4
  have e1 : w3.cell? ⟨M, 1, none⟩ = some (.int .i64 ss.d) := s3.cell 2 rfl 1
  have e2 : w3.cell? ⟨M, 2, none⟩ = some (.bool ss.i) := s3.cell 2 rfl 2
  have e3 : w3.cell? ⟨M, 3, none⟩ = some (.int .i64 ss.b) := s3.cell 2 rfl 3
  have HS3 : Hid (∀ W, Kept (fun _ => False) w3 W → St o (boxI M3 #[.string (rowOf (m : Int)).word, .int .i64 (rowOf (m : Int)).takes, .int .i64 (rowOf (m : Int)).pops, .int .i64 (rowOf (m : Int)).pushes, .int .i64 (rowOf (m : Int)).whr] 127 :: boxI (M + 1) #[.int .i64 m, .int .i64 xa] 87 :: boxI M #[.int .i64 p, .int .i64 ss.d, .bool ss.i, .int .i64 ss.b] 101 :: wkL A L vt V) W) := fun W k => s3.calm k
  clear s3
  go_wp2_with fail
  refine (ham _).mono ?_
  clear ham r0 r1 r2 r3 r4 e1 e2 e3
  rintro e w4 ⟨rfl, k4⟩
  have s4 := HS3.out _ k4
  clear HS3 k4
  have p0 : w4.cell? ⟨M, 0, none⟩ = some (.int .i64 p) := s4.cell 2 rfl 0
  by_cases ha : amissM (rowOf (m : Int)) ss = 0
  · have HR2 : Hid _ := hid (HR.out.trans (if_pos ha))
    rw [ha]
    have hb := hbe ha
    have hnk := hbk ha
    have r0 : w4.cell? ⟨M3, 0, none⟩ = some (.string (rowOf (m : Int)).word) := s4.cell 0 rfl 0
    have r1 : w4.cell? ⟨M3, 1, none⟩ = some (.int .i64 (rowOf (m : Int)).takes) := s4.cell 0 rfl 1
    have r2 : w4.cell? ⟨M3, 2, none⟩ = some (.int .i64 (rowOf (m : Int)).pops) := s4.cell 0 rfl 2
    have r3 : w4.cell? ⟨M3, 3, none⟩ = some (.int .i64 (rowOf (m : Int)).pushes) := s4.cell 0 rfl 3
    have r4 : w4.cell? ⟨M3, 4, none⟩ = some (.int .i64 (rowOf (m : Int)).whr) := s4.cell 0 rfl 4
    have e1 : w4.cell? ⟨M, 1, none⟩ = some (.int .i64 ss.d) := s4.cell 2 rfl 1
    have e2 : w4.cell? ⟨M, 2, none⟩ = some (.bool ss.i) := s4.cell 2 rfl 2
    have e3 : w4.cell? ⟨M, 3, none⟩ = some (.int .i64 ss.b) := s4.cell 2 rfl 3
    have cm : w4.cell? ⟨M + 1, 0, none⟩ = some (.int .i64 m) := s4.cell 1 rfl 0
    have HS4 := hid s4
    clear s4 hbe hbk HR
    go_wp2_with fail
    refine (hb _).mono ?_
    clear hb r0 r1 r2 r3 r4 e1 e2 e3 cm p0
    rintro e w5 ⟨rfl, k5⟩
    have s5 := (HS4.out.calm k5).box #[.int .i64 (behindM (m : Int) (rowOf (m : Int)) ss).d, .bool (behindM (m : Int) (rowOf (m : Int)) ss).i, .int .i64 (behindM (m : Int) (rowOf (m : Int)) ss).b] 95
    generalize behindM (m : Int) (rowOf (m : Int)) ss = nx at *
    clear HS4 k5
    go_upto_region 7 with fail
    generalize w5.alloc (.cells #[.int .i64 nx.d, .bool nx.i, .int .i64 nx.b] 95) = w6 at *
    generalize w5.heap.size = M5 at *
    have n0 : w6.cell? ⟨M5, 0, none⟩ = some (.int .i64 nx.d) := s5.cell 0 rfl 0
    have n1 : w6.cell? ⟨M5, 1, none⟩ = some (.bool nx.i) := s5.cell 0 rfl 1
    have n2 : w6.cell? ⟨M5, 2, none⟩ = some (.int .i64 nx.b) := s5.cell 0 rfl 2
    have p0 : w6.cell? ⟨M, 0, none⟩ = some (.int .i64 p) := s5.cell 3 rfl 0
    have cm : w6.cell? ⟨M + 1, 0, none⟩ = some (.int .i64 m) := s5.cell 2 rfl 0
    have ca : w6.cell? ⟨M + 1, 1, none⟩ = some (.int .i64 xa) := s5.cell 2 rfl 1
    have HS5 := hid s5.pop.pop.pop.pop
    clear ha HRW
    by_cases e22 : (m : Int) = 22
    · have HX : Hid (R = V) := HR2.out.trans (if_pos e22)
      have t22 : ((m : Int) == 22) = true := by simp [e22]
      clear s5 HR2 e22
      go_wp2_with fail
      go_end0
      exact ⟨rfl, vt, by rw [HX.out]; exact HS5.out⟩
    · have HR3 := hid (HR2.out.trans (if_neg e22))
      have t22 : ((m : Int) == 22) = false := by simp [e22]
      have hnx := hlast e22
      clear HR2
      by_cases ej : (m : Int) = 14 ∨ (m : Int) = 20
      · have HX := hid (HR3.out.trans (if_pos ej))
        obtain ⟨q1, q2⟩ := hpl (by rcases ej with e | e; exact .inl e; exact .inr (.inr e))
        have hco := come_st HS5.out OK0.out hLm q2 hnk
        rw [show ((xa.toNat : Nat) : Int) = xa from Int.toNat_of_nonneg q1] at hco
        unfold Sst.val at hco
        clear s5 HR3 HS5
        by_cases e14 : (m : Int) = 14
        · have t14 : ((m : Int) == 14) = true := by simp [e14]
          clear ej e22 e14
          go_wp2_with (go_at_call 46; refine hco.mono ?_; rintro e w7 ⟨rfl, vt7, s7⟩; replace s7 := hid s7)
          go_end0
          exact ⟨rfl, vt7, by rw [HX.out]; exact s7.out⟩
        · have t14 : ((m : Int) == 14) = false := by simp [e14]
          have t20 : ((m : Int) == 20) = true := by rcases ej with e | e; exact absurd e e14; simp [e]
          clear ej e22 e14
          go_wp2_with (go_at_call 46; refine hco.mono ?_; rintro e w7 ⟨rfl, vt7, s7⟩; replace s7 := hid s7)
          go_end0
          exact ⟨rfl, vt7, by rw [HX.out]; exact s7.out⟩
      · have HR4 := hid (HR3.out.trans (if_neg ej))
        have t14 : ((m : Int) == 14) = false := by simp; exact fun e => ej (.inl e)
        have t20 : ((m : Int) == 20) = false := by simp; exact fun e => ej (.inr e)
        have hco := come_st HS5.out OK0.out hLm hnx hnk
        have hc1 : (((p + 1 : Nat)) : Int) = (p : Int) + 1 := by omega
        rw [hc1] at hco
        unfold Sst.val at hco
        clear HR3
        by_cases e15 : (m : Int) = 15
        · have HX := hid (HR4.out.trans (if_pos e15))
          have t15 : ((m : Int) == 15) = true := by simp [e15]
          obtain ⟨q1, q2⟩ := hpl (.inr (.inl e15))
          have ok1 := OK0.out.come hnx hnk
          have s6 : St o (wkL A L vt V ++ [boxI M5 #[.int .i64 nx.d, .bool nx.i, .int .i64 nx.b] 95, boxI M3 #[.string (rowOf (m : Int)).word, .int .i64 (rowOf (m : Int)).takes, .int .i64 (rowOf (m : Int)).pops, .int .i64 (rowOf (m : Int)).pushes, .int .i64 (rowOf (m : Int)).whr] 127, boxI (M + 1) #[.int .i64 m, .int .i64 xa] 87, boxI M #[.int .i64 p, .int .i64 ss.d, .bool ss.i, .int .i64 ss.b] 101]) w6 := s5.perm (List.perm_append_comm (l₁ := [_, _, _, _]) (l₂ := wkL A L vt V))
          have hco := come_sr s6 OK0.out hLm hnx hnk
          rw [hc1] at hco
          unfold Sst.val at hco
          clear HR4 ej e22 e15 s5 s6 HS5
          go_wp2_with fail
          refine hco.mono ?_
          clear hco n0 n1 n2 p0 cm ca
          rintro e w7 ⟨rfl, vt7, s7⟩
          have n0 : w7.cell? ⟨M5, 0, none⟩ = some (.int .i64 nx.d) := s7.cell 7 rfl 0
          have n1 : w7.cell? ⟨M5, 1, none⟩ = some (.bool nx.i) := s7.cell 7 rfl 1
          have n2 : w7.cell? ⟨M5, 2, none⟩ = some (.int .i64 nx.b) := s7.cell 7 rfl 2
          have ca : w7.cell? ⟨M + 1, 1, none⟩ = some (.int .i64 xa) := s7.cell 9 rfl 1
          have s8 := ((s7.perm (List.perm_append_comm (l₂ := [boxI M5 #[.int .i64 nx.d, .bool nx.i, .int .i64 nx.b] 95, boxI M3 #[.string (rowOf (m : Int)).word, .int .i64 (rowOf (m : Int)).takes, .int .i64 (rowOf (m : Int)).pops, .int .i64 (rowOf (m : Int)).pushes, .int .i64 (rowOf (m : Int)).whr] 127, boxI (M + 1) #[.int .i64 m, .int .i64 xa] 87, boxI M #[.int .i64 p, .int .i64 ss.d, .bool ss.i, .int .i64 ss.b] 101]))).pop.pop.pop.pop)
          have hc2 := come_st s8 ok1 hLm q2 hnk
          rw [show ((xa.toNat : Nat) : Int) = xa from Int.toNat_of_nonneg q1] at hc2
          unfold Sst.val at hc2
          clear s7 s8
          go_wp2_with (go_at_call 46; refine hc2.mono ?_; rintro e w8 ⟨rfl, vt8, s8⟩; replace s8 := hid s8)
          go_end0
          exact ⟨rfl, vt8, by rw [HX.out]; exact s8.out⟩
        · have HX := hid (HR4.out.trans (if_neg e15))
          have t15 : ((m : Int) == 15) = false := by simp [e15]
          clear HR4 ej e22 e15 s5 HS5
          go_wp2_with (go_at_call 46; refine hco.mono ?_; rintro e w7 ⟨rfl, vt7, s7⟩; replace s7 := hid s7)
          go_end0
          exact ⟨rfl, vt7, by rw [HX.out]; exact s7.out⟩
  · have HR2 := hid (HR.out.trans (if_neg ha))
    have hno := note_st s4.pop.pop.pop OK0.out hp (amissM (rowOf (m : Int)) ss)
    have t1 : (amissM (rowOf (m : Int)) ss != 0) = true := by simpa using ha
    generalize amissM (rowOf (m : Int)) ss = am at *
    clear s4 HR ha hbe hbk
    go_wp2_with (go_at_call 73; refine hno.mono ?_; rintro e w7 ⟨rfl, s7⟩; replace s7 := hid s7)
    first | go_end0 | refine bodyPost_ret (results_none rfl _ _ _) rfl ?_
    exact ⟨rfl, vt, by rw [HR2.out]; exact s7.out⟩
end
end Go.Proofs.YtdfefjalamohjaaGreatDoor

namespace Go.Proofs.YtdfefjalamohjaaGreatDoor
open Go.RowKit
set_option linter.unusedVariables false
set_option linter.unusedSimpArgs false
attribute [local go_sem ↓] Go.wp_at_zero Go.wp_at_succ

theorem perm_idx (d : It) (l : List It) (k : Nat) (hk : l.length = k) (is : List Nat) (h : is.Perm (List.range k)) : l.Perm (is.map (fun i => l.getD i d)) := by
  subst hk
  have e : (List.range l.length).map (fun i => l.getD i d) = l := by
    apply List.ext_getElem
    · simp
    · intro i h1 h2
      simp [List.getD_eq_getElem?_getD, h2]
  have := (h.map (fun i => l.getD i d)).symm
  rwa [e] at this
theorem made_one {v : Value} (hv : v.cells = #[v]) (n : Nat) : madeCells v.cells (n * 1) = (List.replicate n v).toArray := by
  apply Array.ext'
  apply List.ext_getElem?
  intro j
  by_cases hj : j < n
  · simp [madeCells, hv, hj, Nat.mod_one]
  · rw [List.getElem?_eq_none (by simp [size_madeCells]; omega), List.getElem?_eq_none (by simp; omega)]
theorem Tryz.infoB4 : (Tryz.prog.info? 4).map (fun i => (i.zero, i.size, i.bytes)) = some (some (.bool false), 1, 1) := by kernel_rfl
theorem Tryz.infoI3 : (Tryz.prog.info? 3).map (fun i => (i.zero, i.size, i.bytes)) = some (some (.int .i64 0), 1, 8) := by kernel_rfl
theorem Tryz.infoE25 : (Tryz.prog.info? 25).map (fun i => (i.zero, i.size, i.bytes)) = some (some (.int .i64 0), 1, 8) := by kernel_rfl
theorem makeB (k : Nat) (K : Int) (hK : K = (k : Int)) (hk : k ≤ 1000000) (W : World) : (Instr.makeSlice 77 (.int .i64 K) (.int .i64 K)).run Tryz.prog W = .ok (.slice (some ⟨W.heap.size, 0, none⟩) k k) (W.alloc (.cells (bCells (List.replicate k false)) 4)) := by
  obtain ⟨i0, hi0, hz0, hz1, hz2⟩ := info_parts Tryz.infoB4
  subst hK
  have := run_make (P := Tryz.prog) W 77 4 i0 _ Tryz.underlying77 hi0 hz0 .i64 .i64 k k (by omega) (by omega) (by rw [hz2]; omega) (by omega)
  rw [this, hz1, Int.toNat_natCast, made_one rfl]
  simp [bCells]
theorem makeI (k : Nat) (K : Int) (hK : K = (k : Int)) (hk : k ≤ 1000000) (W : World) : (Instr.makeSlice 62 (.int .i64 K) (.int .i64 K)).run Tryz.prog W = .ok (.slice (some ⟨W.heap.size, 0, none⟩) k k) (W.alloc (.cells (nCells (List.replicate k 0)) 3)) := by
  obtain ⟨i0, hi0, hz0, hz1, hz2⟩ := info_parts Tryz.infoI3
  subst hK
  have := run_make (P := Tryz.prog) W 62 3 i0 _ Tryz.underlying62 hi0 hz0 .i64 .i64 k k (by omega) (by omega) (by rw [hz2]; omega) (by omega)
  rw [this, hz1, Int.toNat_natCast, made_one rfl]
  simp [nCells]
theorem makeE (k : Nat) (K : Int) (hK : K = (k : Int)) (hk : k ≤ 1000000) (W : World) : (Instr.makeSlice 97 (.int .i64 K) (.int .i64 K)).run Tryz.prog W = .ok (.slice (some ⟨W.heap.size, 0, none⟩) k k) (W.alloc (.cells (nCells (List.replicate k 0)) 25)) := by
  obtain ⟨i0, hi0, hz0, hz1, hz2⟩ := info_parts Tryz.infoE25
  subst hK
  have := run_make (P := Tryz.prog) W 97 25 i0 _ Tryz.underlying97 hi0 hz0 .i64 .i64 k k (by omega) (by omega) (by rw [hz2]; omega) (by omega)
  rw [this, hz1, Int.toNat_natCast, made_one rfl]
  simp [nCells]
set_option maxRecDepth 100000 in
set_option maxHeartbeats 2000000 in
theorem newWalk_st {o w : World} (bt : Nat) (la : Option Addr) (n lc : Nat) (l : List Ins) (hT : St o [boxI bt tabC 127] w) (hI : IIn w la n l) (h0 : 0 < n) (hn : n ≤ 400) :
    Calls Tryz.prog 45 #[.slice (some ⟨bt, 0, none⟩) 23 23, .slice la n lc] w fun e w' => ∃ A : Wad, A.bt = bt ∧ e = .returned (.pointer (some ⟨A.k, 0, none⟩)) ∧ St o (wkL A (withHalt l) (.slice none 0 0) ⟨List.replicate ((n + 1) * 1122) false, List.replicate (n + 1) 0, List.replicate (n + 1) 0, []⟩) w' := by
  obtain ⟨i0, hi0, hz0, hz1, hz2⟩ := info_parts Tryz.infoIn
  obtain ⟨g, off, rfl⟩ := hI.addr h0
  have HN : Hid (n = l.length) := hI.1
  obtain ⟨wm, hmk, hom, hgm⟩ := run_make_own (P := Tryz.prog) w w.heap.size 46 87 i0 _ 2 Tryz.underlying46 hi0 hz0 hz1 .i64 .i64 (n + 1) (by rw [hz2]; omega) (by unfold maxLen; omega) (Nat.le_refl _)
  have hkm : Kept (fun _ => False) w wm := (Kept.refl _ w).grown hgm (fun k e => by cases e)
  have s1 := hT.own hkm hom
  have hI2 := hI.kept hkm
  have hcells : ∀ j u, (insCells l)[j]? = some u → wm.cell? ((⟨g, off, none⟩ : Addr).add j) = some u := by
    intro j u hu
    obtain ⟨g', o', e, hc⟩ := hI2.2 h0
    simp only [Option.some.injEq, Addr.mk.injEq, and_true] at e
    obtain ⟨rfl, rfl⟩ := e
    rw [Addr.add_lit]
    exact hc j u hu
  have hlen : (insCells l).length = n * 2 := by rw [insCells_length, ← HN.out]
  have hom0 : wm.ownsRow 0 87 2 (.slice (some ⟨w.heap.size, 0, none⟩) 0 (n + 1)) 0 [] := own_zero hom
  have hmk2 : (Instr.makeSlice 46 (.int .i64 0) (.int .i64 ((n : Int) + 1))).run Tryz.prog w = .ok (.slice (some ⟨w.heap.size, 0, none⟩) 0 (n + 1)) wm := hmk
  have b1 : (0 : Int) ≤ (n : Int) := Int.natCast_nonneg _
  have b2 : (n : Int) ≤ 400 := by omega
  have HO : Hid (∀ v' w', w'.ownsRow 0 87 2 v' (0 + n) ([] ++ insCells l) → wm.grownBy w' (Value.ownBlock (.slice (some ⟨w.heap.size, 0, none⟩) 0 (n + 1))) → (v'.ownBlock = Value.ownBlock (.slice (some ⟨w.heap.size, 0, none⟩) 0 (n + 1)) ∨ v'.ownBlock = some wm.heap.size) → St o [ownI 87 2 v' n (insCells l), boxI bt tabC 127] w') := by
    intro v' w' p1 p2 p3
    rw [Nat.zero_add, List.nil_append] at p1
    exact s1.ownGrow 0 rfl p1 ((Kept.refl _ wm).grown p2 (fun k e => .inl e)) (by rcases p3 with e | e; exact .inl e; exact .inr ⟨_, e, Nat.le_refl _⟩)
  clear hom hgm hkm s1 hI2 hT hI hmk
  go_enter Tryz.func45, Tryz.ntmps45
  go_upto_region 3 with (first | simp only [hmk2] | (at_builtin; refine wpList_append_own_at _ rfl (.tmp 10) (.tmp 11) 46 rfl 0 87 i0 _ 2 16 Tryz.underlying46 hi0 hz0 hz1 hz2 rfl (by omega) (.slice (some ⟨w.heap.size, 0, none⟩) 0 (n + 1)) 0 [] rfl hom0 ⟨g, off, none⟩ n lc (insCells l) rfl hlen hcells (insCells_one l) (by unfold maxLen; omega) (by omega) (by simp) ?_; intro v2 w2 ho2 hg2 hn2 ha2; replace ho2 := hid (HO.out _ _ ho2 hg2 ha2); clear hg2 hn2 ha2))
  clear HO hcells hom0 hmk2
  have s2 := ho2.out
  clear ho2
  have hown2 : w2.ownsRow 0 87 2 v2 n (insCells l) := s2.get 0 rfl
  have hbs := buildIn w2 22 0
  have HO : Hid (∀ g2 cap2 w1, w1.ownsRow 0 87 2 (.slice (some ⟨g2, 0, none⟩) (n + 1) cap2) (n + 1) (insCells l ++ [.int .i64 22, .int .i64 0]) → (w2.alloc (.cells #[.int .i64 22, .int .i64 0] 87)).grownBy w1 v2.ownBlock → (v2.ownBlock = some g2 ∨ g2 = w2.heap.size + 1) → St o [ownI 87 2 (.slice (some ⟨g2, 0, none⟩) (n + 1) cap2) (withHalt l).length (insCells (withHalt l)), boxI bt tabC 127] w1) := by
    intro g2 cap2 w1 p1 p2 p3
    have a1 := s2.growAt 0 rfl p1 p2 p3
    unfold withHalt
    rw [insCells_append, show (l ++ [(⟨22, 0⟩ : Ins)]).length = n + 1 by rw [HN.out]; simp]
    exact a1
  generalize insCells l = IC at *
  clear s2
  go_upto_region 4 with (first | (at_builtin; refine wpList_append_lies _ rfl (.tmp 13) (.tmp 15) 46 rfl 0 87 i0 _ 2 16 Tryz.underlying46 hi0 hz0 hz1 hz2 rfl (by omega) v2 n IC rfl (hown2.alloc _) ⟨w2.heap.size, 0, none⟩ 1 1 [.int .i64 22, .int .i64 0] rfl rfl (World.news_of_block (cs := #[.int .i64 22, .int .i64 0]) (t := 87) (fr := (0, 0)) (heap_alloc_new w2 _)) (by simp [Value.oneCell']) (by omega) (by unfold maxLen; omega) (by omega) (Nat.zero_le _) (w2.heap.size + 1) (by simp) ?_; intro g3 cap3 w3 ho3 hg3 ha3 hl3; replace ho3 := hid (HO.out _ _ _ ho3 hg3 ha3); clear hg3 ha3 hl3) | simp only [hbs])
  clear HO hown2 hbs hlen
  have s3 := ho3.out
  clear ho3
  have hmB := makeB ((n + 1) * 1122) (((n : Int) + 1) * 1122) (by omega) (by omega)
  have hmI := makeI (n + 1) ((n : Int) + 1) (by omega) (by omega)
  have hmE := makeE (n + 1) ((n : Int) + 1) (by omega) (by omega)
  go_region
  all_goals first
    | (
      have s4 := ((((s3.box (bCells (List.replicate ((n + 1) * 1122) false)) 4).box (nCells (List.replicate (n + 1) 0)) 3).box (nCells (List.replicate (n + 1) 0)) 25).box #[.slice (some ⟨bt, 0, none⟩) 23 23, .slice (some ⟨g3, 0, none⟩) (n + 1) cap3, .slice (some ⟨w3.heap.size, 0, none⟩) ((n + 1) * 1122) ((n + 1) * 1122), .slice none 0 0, .slice (some ⟨w3.heap.size + 1, 0, none⟩) (n + 1) (n + 1), .slice (some ⟨w3.heap.size + 1 + 1, 0, none⟩) (n + 1) (n + 1)] 99).drew
      have s5 := (s4.own (e := 101) (z := 4) (Kept.refl _ _) (World.ownsRow_nil _ _ _ _)).perm (perm_idx (boxI 0 #[] 0) _ 7 rfl [1, 6, 5, 4, 3, 2, 0] (by decide))
      simp only [alloc_size] at s5
      have HS := hid s5
      clear s3 s4 s5
      go_wp2
      go_ret
      have hlw : (withHalt l).length = n + 1 := (by rw [HN.out]; simp [withHalt])
      refine ⟨⟨w3.heap.size + 1 + 1 + 1, bt, .slice (some ⟨g3, 0, none⟩) (n + 1) cap3, w3.heap.size, w3.heap.size + 1, w3.heap.size + 1 + 1⟩, rfl, rfl, ?_⟩
      unfold wkL wkC
      rw [hlw]
      have h9 := HS.out
      rw [hlw] at h9
      exact h9)
    | (
      have s4 := ((((s3.box (bCells (List.replicate ((n + 1) * 1122) false)) 4).box (nCells (List.replicate (n + 1) 0)) 25).box (nCells (List.replicate (n + 1) 0)) 3).box #[.slice (some ⟨bt, 0, none⟩) 23 23, .slice (some ⟨g3, 0, none⟩) (n + 1) cap3, .slice (some ⟨w3.heap.size, 0, none⟩) ((n + 1) * 1122) ((n + 1) * 1122), .slice none 0 0, .slice (some ⟨w3.heap.size + 1 + 1, 0, none⟩) (n + 1) (n + 1), .slice (some ⟨w3.heap.size + 1, 0, none⟩) (n + 1) (n + 1)] 99).drew
      have s5 := (s4.own (e := 101) (z := 4) (Kept.refl _ _) (World.ownsRow_nil _ _ _ _)).perm (perm_idx (boxI 0 #[] 0) _ 7 rfl [1, 6, 5, 4, 2, 3, 0] (by decide))
      simp only [alloc_size] at s5
      have HS := hid s5
      clear s3 s4 s5
      go_wp2
      go_ret
      have hlw : (withHalt l).length = n + 1 := (by rw [HN.out]; simp [withHalt])
      refine ⟨⟨w3.heap.size + 1 + 1 + 1, bt, .slice (some ⟨g3, 0, none⟩) (n + 1) cap3, w3.heap.size, w3.heap.size + 1 + 1, w3.heap.size + 1⟩, rfl, rfl, ?_⟩
      unfold wkL wkC
      rw [hlw]
      have h9 := HS.out
      rw [hlw] at h9
      exact h9)
    | (
      have s4 := ((((s3.box (nCells (List.replicate (n + 1) 0)) 3).box (bCells (List.replicate ((n + 1) * 1122) false)) 4).box (nCells (List.replicate (n + 1) 0)) 25).box #[.slice (some ⟨bt, 0, none⟩) 23 23, .slice (some ⟨g3, 0, none⟩) (n + 1) cap3, .slice (some ⟨w3.heap.size + 1, 0, none⟩) ((n + 1) * 1122) ((n + 1) * 1122), .slice none 0 0, .slice (some ⟨w3.heap.size, 0, none⟩) (n + 1) (n + 1), .slice (some ⟨w3.heap.size + 1 + 1, 0, none⟩) (n + 1) (n + 1)] 99).drew
      have s5 := (s4.own (e := 101) (z := 4) (Kept.refl _ _) (World.ownsRow_nil _ _ _ _)).perm (perm_idx (boxI 0 #[] 0) _ 7 rfl [1, 6, 5, 3, 4, 2, 0] (by decide))
      simp only [alloc_size] at s5
      have HS := hid s5
      clear s3 s4 s5
      go_wp2
      go_ret
      have hlw : (withHalt l).length = n + 1 := (by rw [HN.out]; simp [withHalt])
      refine ⟨⟨w3.heap.size + 1 + 1 + 1, bt, .slice (some ⟨g3, 0, none⟩) (n + 1) cap3, w3.heap.size + 1, w3.heap.size, w3.heap.size + 1 + 1⟩, rfl, rfl, ?_⟩
      unfold wkL wkC
      rw [hlw]
      have h9 := HS.out
      rw [hlw] at h9
      exact h9)
    | (
      have s4 := ((((s3.box (nCells (List.replicate (n + 1) 0)) 3).box (nCells (List.replicate (n + 1) 0)) 25).box (bCells (List.replicate ((n + 1) * 1122) false)) 4).box #[.slice (some ⟨bt, 0, none⟩) 23 23, .slice (some ⟨g3, 0, none⟩) (n + 1) cap3, .slice (some ⟨w3.heap.size + 1 + 1, 0, none⟩) ((n + 1) * 1122) ((n + 1) * 1122), .slice none 0 0, .slice (some ⟨w3.heap.size, 0, none⟩) (n + 1) (n + 1), .slice (some ⟨w3.heap.size + 1, 0, none⟩) (n + 1) (n + 1)] 99).drew
      have s5 := (s4.own (e := 101) (z := 4) (Kept.refl _ _) (World.ownsRow_nil _ _ _ _)).perm (perm_idx (boxI 0 #[] 0) _ 7 rfl [1, 6, 5, 2, 4, 3, 0] (by decide))
      simp only [alloc_size] at s5
      have HS := hid s5
      clear s3 s4 s5
      go_wp2
      go_ret
      have hlw : (withHalt l).length = n + 1 := (by rw [HN.out]; simp [withHalt])
      refine ⟨⟨w3.heap.size + 1 + 1 + 1, bt, .slice (some ⟨g3, 0, none⟩) (n + 1) cap3, w3.heap.size + 1 + 1, w3.heap.size, w3.heap.size + 1⟩, rfl, rfl, ?_⟩
      unfold wkL wkC
      rw [hlw]
      have h9 := HS.out
      rw [hlw] at h9
      exact h9)
    | (
      have s4 := ((((s3.box (nCells (List.replicate (n + 1) 0)) 25).box (bCells (List.replicate ((n + 1) * 1122) false)) 4).box (nCells (List.replicate (n + 1) 0)) 3).box #[.slice (some ⟨bt, 0, none⟩) 23 23, .slice (some ⟨g3, 0, none⟩) (n + 1) cap3, .slice (some ⟨w3.heap.size + 1, 0, none⟩) ((n + 1) * 1122) ((n + 1) * 1122), .slice none 0 0, .slice (some ⟨w3.heap.size + 1 + 1, 0, none⟩) (n + 1) (n + 1), .slice (some ⟨w3.heap.size, 0, none⟩) (n + 1) (n + 1)] 99).drew
      have s5 := (s4.own (e := 101) (z := 4) (Kept.refl _ _) (World.ownsRow_nil _ _ _ _)).perm (perm_idx (boxI 0 #[] 0) _ 7 rfl [1, 6, 5, 3, 2, 4, 0] (by decide))
      simp only [alloc_size] at s5
      have HS := hid s5
      clear s3 s4 s5
      go_wp2
      go_ret
      have hlw : (withHalt l).length = n + 1 := (by rw [HN.out]; simp [withHalt])
      refine ⟨⟨w3.heap.size + 1 + 1 + 1, bt, .slice (some ⟨g3, 0, none⟩) (n + 1) cap3, w3.heap.size + 1, w3.heap.size + 1 + 1, w3.heap.size⟩, rfl, rfl, ?_⟩
      unfold wkL wkC
      rw [hlw]
      have h9 := HS.out
      rw [hlw] at h9
      exact h9)
    | (
      have s4 := ((((s3.box (nCells (List.replicate (n + 1) 0)) 25).box (nCells (List.replicate (n + 1) 0)) 3).box (bCells (List.replicate ((n + 1) * 1122) false)) 4).box #[.slice (some ⟨bt, 0, none⟩) 23 23, .slice (some ⟨g3, 0, none⟩) (n + 1) cap3, .slice (some ⟨w3.heap.size + 1 + 1, 0, none⟩) ((n + 1) * 1122) ((n + 1) * 1122), .slice none 0 0, .slice (some ⟨w3.heap.size + 1, 0, none⟩) (n + 1) (n + 1), .slice (some ⟨w3.heap.size, 0, none⟩) (n + 1) (n + 1)] 99).drew
      have s5 := (s4.own (e := 101) (z := 4) (Kept.refl _ _) (World.ownsRow_nil _ _ _ _)).perm (perm_idx (boxI 0 #[] 0) _ 7 rfl [1, 6, 5, 2, 3, 4, 0] (by decide))
      simp only [alloc_size] at s5
      have HS := hid s5
      clear s3 s4 s5
      go_wp2
      go_ret
      have hlw : (withHalt l).length = n + 1 := (by rw [HN.out]; simp [withHalt])
      refine ⟨⟨w3.heap.size + 1 + 1 + 1, bt, .slice (some ⟨g3, 0, none⟩) (n + 1) cap3, w3.heap.size + 1 + 1, w3.heap.size + 1, w3.heap.size⟩, rfl, rfl, ?_⟩
      unfold wkL wkC
      rw [hlw]
      have h9 := HS.out
      rw [hlw] at h9
      exact h9)
end Go.Proofs.YtdfefjalamohjaaGreatDoor
