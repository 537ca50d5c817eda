/- The document's first example. -/
import Derived.Test.YtnchfomoaonbkaaGreatTxS
import Derived.Test.YtnchfomoaonbkaaGreatTxQ
import Derived.Test.YtnchfomoaonbkaaGreatTxR
namespace Go.Proofs.YtnchfomoaonbkaaGreat
open Go.RowKit
set_option linter.unusedVariables false
set_option linter.unusedSimpArgs false
attribute [local go_sem ↓] Go.wp_at_zero Go.wp_at_succ
def upc : Cfg := ⟨1, 1, 128, 1, 0, 0⟩
theorem upc_fits : upc.fits = true := by decide
/-- Steps of one thread. -/
def uS (s : SSt × Tt) : Nat → SSt × Tt
  | 0 => s
  | j + 1 => ((uS s j).1.steps upc (uS s j).2, (uS s j).2.next upc (uS s j).1)
structure uOk (s : SSt × Tt) (k : Nat) : Prop where
  z : s.1.ok upc k
  ws : WsOk s.1.ws
  x : s.2.fit upc s.1.hs.length k
theorem uOk.step {s : SSt × Tt} {k : Nat} (h : uOk s k) : uOk (uS s 1) (k + 3) := by
  refine ⟨h.z.steps _, h.ws.steps upc _ (fun r e => (h.x.rd r e).1), ?_⟩
  show ((s.2).next upc s.1).fit upc ((s.1).steps upc s.2).hs.length (k + 3)
  rw [SSt.steps_len h.z]
  exact (h.x.next rfl h.ws).more (by omega)
theorem uS_succ (s : SSt × Tt) (j : Nat) : uS s (j + 1) = uS (uS s j) 1 := rfl
theorem uOk.steps {s : SSt × Tt} {k : Nat} (h : uOk s k) (j : Nat) : uOk (uS s j) (k + 3 * j) := by
  induction j with
  | zero => exact h
  | succ j ih =>
    rw [uS_succ]
    have := ih.step
    rwa [show k + 3 * j + 3 = k + 3 * (j + 1) by omega] at this
def uz0 : SSt := (SSt.zero upc).fill [5]
def U0 : SSt × Tt := (uz0, (Tt.new 1).begin_ 3)
def U1 : SSt × Tt := uS U0 4
def U2 : SSt × Tt := (U1.1, U1.2.read upc 0)
def U3 : SSt × Tt := uS U2 7
def U4 : SSt × Tt := (U3.1.noted (U3.2.evn 3 0 9 false 0 0 0), U3.2.write upc 0 9)
def U5 : SSt × Tt := (U4.2.readZ 0 U4.1, U4.2.read upc 0)
def U6 : SSt × Tt := uS U5 1
def U7 : SSt × Tt := (U6.1, U6.2.commit upc U6.1.hs.length)
def U8 : SSt × Tt := uS U7 5
theorem u0_ok : uOk U0 1 := ⟨(SSt.ok_zero upc upc_fits 0).fill [5], WsOk.rep _, (Tt.fit_new (by decide) (by decide) upc (by decide) 1).begin_ (by decide) 3⟩
theorem u0_phase : U0.2.dg.phase = 1 := by decide +kernel
theorem u1_ok : uOk U1 13 := u0_ok.steps 4
theorem u1_phase : U1.2.dg.phase = 2 := by decide +kernel
theorem u1_get : wrGet U1.2.wr 0 = none := by decide +kernel
theorem u1_in : inN upc.sl U1.2.fr.sl = true := by decide +kernel
theorem u1_rz : U1.2.readZ 0 U1.1 = U1.1 := by
  unfold Tt.readZ
  rw [if_neg (by rw [u1_phase]; decide), u1_get]
theorem u2_ok : uOk U2 13 := ⟨u1_ok.z, u1_ok.ws, u1_ok.x.read 0⟩
theorem u3_ok : uOk U3 34 := u2_ok.steps 7
theorem u3_phase : U3.2.dg.phase = 2 := by decide +kernel
theorem u3_last : U3.2.lo = 2 ∧ U3.2.le = 0 ∧ U3.2.lx = 5 := ⟨by decide +kernel, by decide +kernel, by decide +kernel⟩
theorem u3_sp : U3.2.sp ≠ 0 := by decide +kernel
theorem u3_get : wrGet U3.2.wr 0 = none := by decide +kernel
theorem u3_len : U3.2.wr.length < 16 := by decide +kernel
theorem u3_we : U3.2.writeE upc 0 = 0 := by decide +kernel
theorem u4_x : { U3.2 with lo := 3, le := 0, lx := 9, wr := wrPut U3.2.wr 0 9 } = U3.2.write upc 0 9 := by
  unfold Tt.write
  rw [if_pos u3_we]
theorem uOk.noted {s : SSt × Tt} {k : Nat} (h : uOk s k) (e : Ev) {x : Tt} (hx : x.fit upc s.1.hs.length k) : uOk (s.1.noted e, x) (k + 1) := ⟨h.z.noted e, h.ws, hx.more (by omega)⟩
theorem u4_ok : uOk U4 35 := u3_ok.noted (U3.2.evn 3 0 9 false 0 0 0) (u3_ok.x.write 0 9)
theorem u4_phase : U4.2.dg.phase = 2 := by decide +kernel
theorem u4_sp : U4.2.sp ≠ 0 := by decide +kernel
theorem u4_get : wrGet U4.2.wr 0 = some 9 := by decide +kernel
theorem u5_z : U4.2.readZ 0 U4.1 = U4.1.noted (U4.2.evn 2 0 9 true 0 0 0) := by
  unfold Tt.readZ
  rw [if_neg (by rw [u4_phase]; decide), u4_get]
theorem u5_ok : uOk U5 36 := by
  unfold U5
  rw [u5_z]
  exact u4_ok.noted (U4.2.evn 2 0 9 true 0 0 0) (u4_ok.x.read 0)
theorem u5_last : U5.2.lo = 2 ∧ U5.2.le = 0 ∧ U5.2.lx = 9 := ⟨by decide +kernel, by decide +kernel, by decide +kernel⟩
theorem u5_ans : U5.2.ans U5.1 = 3 := by decide +kernel
theorem u6_ok : uOk U6 39 := u5_ok.steps 1
theorem u6_phase : U6.2.dg.phase = 2 := by decide +kernel
theorem u6_wr : U6.2.wr ≠ [] := by
  intro h
  have : U6.2.wr.length = 1 := by decide +kernel
  rw [h] at this
  cases this
theorem u6_sp : 1 ≤ U6.2.sp := by decide +kernel
theorem u6_wf : ∀ p, p ∈ U6.2.wr → (Lit.int .i64 p.ce).wf = true := by
  intro p hp
  have a := inN_iff.1 (u6_ok.x.wc p hp)
  have h : p.ce = 0 := by
    have := a.2
    simp only [upc] at this
    omega
  rw [h]
  decide
theorem u7_ok : uOk U7 39 := ⟨u6_ok.z, u6_ok.ws, u6_ok.x.commit u6_ok.z.hl u6_ok.z.h8⟩
theorem u8_ok : uOk U8 54 := u7_ok.steps 5
theorem u8_phase : U8.2.dg.phase = 0 := by decide +kernel
theorem u8_last : U8.2.lo = 4 ∧ U8.2.le = 0 ∧ U8.2.lx = 0 := ⟨by decide +kernel, by decide +kernel, by decide +kernel⟩
theorem u8_xs : U8.1.xs = [9] := by decide +kernel
theorem u8_ev : U8.1.ev.length = 5 ∧ (U8.1.ev.map Ev.kd)[4]? = some 4 ∧ (U8.1.ev.map Ev.ga)[4]? = some 1 ∧ (U8.1.ev.map Ev.ow)[3]? = some true := ⟨by decide +kernel, by decide +kernel, by decide +kernel, by decide +kernel⟩

/-- The thread and its space in memory, T its block. -/
def UQ (o : World) (A : Ad) (T : Nat) (R : List It) (s : SSt × Tt) (W : World) : Prop :=
  ∃ P v u, P.T = T ∧ (∀ y, s.2.dg = .com y → P.B.J = P.J) ∧ St o (txL upc A P s.2 ++ spI A upc s.1 v u :: R) W
section
variable {o w : World} {A : Ad} {T : Nat} {R : List It} {s : SSt × Tt} {k : Nat}
theorem UQ.step (h : UQ o A T R s w) (hk : uOk s k) (hn : k ≤ 1000000) : Calls Tryz.prog 42 #[.pointer (some ⟨T, 0, none⟩)] w fun e w' => e = .returned (.int .i64 (s.2.ans s.1)) ∧ UQ o A T R (uS s 1) w' := by
  obtain ⟨P, v, u, rfl, hJ, h⟩ := h
  refine (tStep h hk.z (by omega) hk.x (by omega) upc_fits hk.ws hJ).mono ?_
  rintro e w' ⟨he, P', v', u', hT, hJ', q⟩
  exact ⟨he, P', v', u', hT, hJ', q⟩
theorem UQ.last (h : UQ o A T R s w) : Calls Tryz.prog 39 #[.pointer (some ⟨T, 0, none⟩)] w fun e w' => e = .returned (.agg #[.int .i64 s.2.lo, .int .i64 s.2.le, .int .i64 s.2.lx]) ∧ UQ o A T R s w' := by
  obtain ⟨P, v, u, rfl, hJ, h⟩ := h
  refine (tLast h).mono ?_
  rintro e w' ⟨he, q⟩
  exact ⟨he, P, v, u, rfl, hJ, h.calm q⟩
theorem UQ.phase (h : UQ o A T R s w) : Calls Tryz.prog 36 #[.pointer (some ⟨T, 0, none⟩)] w fun e w' => e = .returned (.int .i64 s.2.dg.phase) ∧ UQ o A T R s w' := by
  obtain ⟨P, v, u, rfl, hJ, h⟩ := h
  refine (tPhase h).mono ?_
  rintro e w' ⟨he, q⟩
  exact ⟨he, P, v, u, rfl, hJ, q⟩
theorem UQ.box (h : UQ o A T R s w) (cs : Array Value) (t : TypeId) : UQ o A T (boxI w.heap.size cs t :: R) s (w.alloc (.cells cs t)) := by
  obtain ⟨P, v, u, hT, hJ, h⟩ := h
  refine ⟨P, v, u, hT, hJ, (h.box cs t).perm ?_⟩
  have p := (List.perm_middle (l₁ := txL upc A P s.2 ++ [spI A upc s.1 v u]) (l₂ := R) (a := boxI w.heap.size cs t)).symm
  simpa using p
theorem UQ.get (h : UQ o A T R s w) (i : Nat) {X : It} (hi : R[i]? = some X) : X.P w := by
  obtain ⟨P, v, u, hT, hJ, h⟩ := h
  exact h.get (7 + i) (by rw [Nat.add_comm]; exact hi)
theorem St.mv {c : Cfg} {P : TA} {x : Tt} {z : SSt} {v u : Value} {X : It} (h : St o (X :: (txL c A P x ++ spI A c z v u :: R)) w) : St o (txL c A P x ++ spI A c z v u :: X :: R) w := by
  have p := (List.perm_middle (l₁ := txL c A P x ++ [spI A c z v u]) (l₂ := R) (a := X)).symm
  exact h.perm (by simpa using p)
theorem UQ.view (h : UQ o A T R s w) (hk : uOk s k) : Calls Tryz.prog 23 #[.pointer (some ⟨A.sp, 0, none⟩)] w fun e w' => ∃ va vs, e = .returned (.agg #[va, .int .i64 s.1.x.n, .int .i64 s.1.x.o, vs]) ∧ UQ o A T (ownI 2 1 va s.1.xs.length (clCells s.1.xs) :: ownI 109 8 vs s.1.hs.length (slCells (slots s.1.hs s.1.ws)) :: R) s w' := by
  obtain ⟨P, v, u, hT, hJ, h⟩ := h
  refine (spView h 6 rfl hk.z.wl hk.z.h1 hk.z.h8).mono ?_
  rintro e w' ⟨va, vs, he, q⟩
  have q1 := q.swap
  have q2 : St o (ownI 109 8 vs s.1.hs.length (slCells (slots s.1.hs s.1.ws)) :: ownI 2 1 va s.1.xs.length (clCells s.1.xs) :: (txL upc A P s.2 ++ spI A upc s.1 v u :: R)) w' := q1
  have p := List.perm_append_comm (l₁ := [ownI 2 1 va s.1.xs.length (clCells s.1.xs), ownI 109 8 vs s.1.hs.length (slCells (slots s.1.hs s.1.ws))]) (l₂ := txL upc A P s.2 ++ [spI A upc s.1 v u])
  refine ⟨va, vs, he, P, v, u, hT, hJ, q.perm ?_⟩
  have := p.append_right R
  simpa using this
theorem UQ.events (h : UQ o A T R s w) (hl : s.1.ev.length ≤ 1000000) : Calls Tryz.prog 25 #[.pointer (some ⟨A.sp, 0, none⟩)] w fun e w' => ∃ v', e = .returned v' ∧ UQ o A T (ownI 104 10 v' s.1.ev.length (evCells s.1.ev) :: R) s w' := by
  obtain ⟨P, v, u, hT, hJ, h⟩ := h
  refine (spEvents h 6 rfl (by omega)).mono ?_
  rintro e w' ⟨v', he, q⟩
  exact ⟨v', he, P, v, u, hT, hJ, St.mv q⟩
theorem UQ.cell (h : UQ o A T R s w) (i : Nat) {k : Nat} {cs : Array Value} {t : TypeId} (hi : R[i]? = some (boxI k cs t)) (j : Nat) : w.cell? ⟨k, j, none⟩ = cs[j]? := cell_of_heap (h.get i hi)
theorem UQ.same (h : UQ o A T R s w) : Kept (fun _ => False) o w := by
  obtain ⟨P, v, u, hT, hJ, h⟩ := h
  exact h.same
end
theorem eqLastG (a b d a' b' d' : Int) (w : World) : (binOp .eql 53 (.agg #[.int .i64 a, .int .i64 b, .int .i64 d]) (.agg #[.int .i64 a', .int .i64 b', .int .i64 d'])).run Tryz.prog w = .ok (.bool (a == a' && b == b' && d == d')) w := by
  rw [run_eql_struct, run_equalIn_struct w 9999 53 _ _ (by kernel_rfl) (by kernel_rfl)]
  have hi0 : ∀ (x y : Int) (w : World), (Op.equalIn 9999 3 (.int .i64 x) (.int .i64 y)).run Tryz.prog w = .ok (x == y) w := fun x y w => run_equalIn_int w 9998 3 .i64 .i64 x y Tryz.underlying3
  have hi1 : ∀ (x y : Int) (w : World), (Op.equalIn 9999 28 (.int .i64 x) (.int .i64 y)).run Tryz.prog w = .ok (x == y) w := fun x y w => run_equalIn_int w 9998 28 .i64 .i64 x y Tryz.underlying28
  have hi2 : ∀ (x y : Int) (w : World), (Op.equalIn 9999 2 (.int .i64 x) (.int .i64 y)).run Tryz.prog w = .ok (x == y) w := fun x y w => run_equalIn_int w 9998 2 .i64 .i64 x y Tryz.underlying2
  have p0 : ∀ a b d w, (part 3 #[.int .i64 a, .int .i64 b, .int .i64 d] 0).run Tryz.prog w = .ok (.int .i64 a) w := fun a b d w => run_part_plain (P := Tryz.prog) w (by kernel_rfl) rfl
  have p1 : ∀ a b d w, (part 28 #[.int .i64 a, .int .i64 b, .int .i64 d] 1).run Tryz.prog w = .ok (.int .i64 b) w := fun a b d w => run_part_plain (P := Tryz.prog) w (by kernel_rfl) rfl
  have p2 : ∀ a b d w, (part 2 #[.int .i64 a, .int .i64 b, .int .i64 d] 2).run Tryz.prog w = .ok (.int .i64 d) w := fun a b d w => run_part_plain (P := Tryz.prog) w (by kernel_rfl) rfl
  cases h1 : (a == a') <;> cases h2 : (b == b') <;> cases h3 : (d == d') <;> simp [Program.fieldsOf, Tryz.underlying53, Op.eqFields, Sem.run_bind, p0, p1, p2, hi0, hi1, hi2, h1, h2, h3]
set_option maxRecDepth 100000 in
set_option maxHeartbeats 4000000 in
theorem up_any (w : World) : Calls Tryz.prog 9 #[] w fun e w' => e = .returned (.bool true) ∧ Kept (fun _ => False) w w' := by
  have hq := spNew_st (St.nil w) upc upc_fits
  rw [show upc.val = .agg #[.int .i64 1, .int .i64 1, .int .i64 128, .int .i64 1, .int .i64 0, .int .i64 0] from rfl] at hq
  have hb : ∀ W : World, (Instr.buildSlice 24 1 #[(0, .int .i64 5)]).run Tryz.prog W = .ok (.slice (some ⟨W.heap.size, 0, none⟩) 1 1) (W.alloc (.cells #[.int .i64 5] 2)) := fun W => by kernel_rfl
  go_enter Tryz.func9, Tryz.ntmps9
  go_wp2_with fail
  refine hq.mono ?_
  rintro e w1 ⟨A, rfl, s1⟩
  clear hq
  unfold spp
  have s2 := s1.box #[.int .i64 5] 2
  have e0 : (w1.alloc (.cells #[.int .i64 5] 2)).cell? ⟨w1.heap.size, 0, none⟩ = some (.int .i64 5) := s2.cell 0 rfl 0
  have hq := spFill s2 1 rfl (SSt.ok_zero upc upc_fits 0) (by omega) (zs := [5]) (la := some ⟨w1.heap.size, 0, none⟩) (n := 1) (lc := 1) ⟨rfl, fun _ => ⟨_, 0, rfl, fun j hj => by
    obtain rfl : j = 0 := by omega
    exact e0⟩⟩ (by omega)
  unfold spp at hq
  clear s1 s2 e0
  go_wp2_with (simp only [hb])
  refine hq.mono ?_
  rintro e w2 ⟨rfl, s3⟩
  have s4 : St w [spI A upc uz0 (.slice none 0 0) (.slice none 0 0)] w2 := s3.pop
  clear hq s3
  have hq := tNew_st (th := 1) s4 0 rfl upc_fits (by decide) (by decide)
  unfold spp at hq
  clear s4
  go_wp2_with fail
  refine hq.mono ?_
  rintro e w3 ⟨P, rfl, s5⟩
  clear hq
  have hq := tNew_out (.pointer (some ⟨A.sp, 0, none⟩)) 9 (by decide) w3
  go_wp2_with fail
  refine hq.mono ?_
  rintro e w4 ⟨rfl, rfl⟩
  clear hq
  have s6 : St w (txL upc A P (Tt.new 1) ++ spI A upc uz0 (.slice none 0 0) (.slice none 0 0) :: []) w4 := s5.split
  have hq := tBegin_ok s6 rfl (s := 3) (by decide) (by decide) (by decide)
  clear s5 s6
  go_wp2_with fail
  refine hq.mono ?_
  rintro e w5 ⟨rfl, P', hT, s7⟩
  clear hq
  obtain ⟨T, hTT⟩ : ∃ T, T = P.T := ⟨_, rfl⟩
  have HU : Hid (UQ w A T [] U0 w5) := ⟨P', _, _, hT.trans hTT.symm, fun y e => (by rw [show U0.2.dg = Dg.beg (Bg.new 1 3) by rfl] at e; cases e), s7⟩
  rw [← hTT]
  clear s7 hT hTT
  have hq : Calls Tryz.prog 41 #[.pointer (some ⟨T, 0, none⟩), .int .i64 0] w5 fun e w' => e = .returned (.int .i64 4) ∧ Hid (UQ w A T [] U0 w') := by
    obtain ⟨P, v, u, rfl, hJ, h⟩ := HU.out
    refine (tRead_no h 0 (by rw [u0_phase]; decide)).mono ?_
    rintro e w' ⟨he, q⟩
    exact ⟨he, P, v, u, rfl, hJ, q⟩
  clear HU
  go_wp2_with fail
  refine hq.mono ?_
  rintro e w6 ⟨rfl, HU⟩
  clear hq
  go_wp2_with fail
  go_loopw [9, 64, 65, 66, 67, 68, 69] (fun i _ _ _ _ _ _ wr => ∃ j : Nat, i = .int .i64 j ∧ j ≤ 4 ∧ Hid (UQ w A T [] (uS U0 j) wr)) (fun i _ _ _ _ _ _ _ => 4 - (intOf i).toNat)
  case atStart => exact ⟨0, rfl, by omega, HU⟩
  case round =>
    clear HU
    obtain ⟨j, rfl, hj, HR⟩ := hrel
    by_cases hlt : j < 4
    · have h1 : (j : Int) < 4 := by omega
      have hq := UQ.step HR.out (u0_ok.steps j) (by omega)
      clear HR
      generalize (uS U0 j).2.ans (uS U0 j).1 = an at *
      go_wp2_with fail
      refine hq.mono ?_
      rintro e w8 ⟨rfl, q8⟩
      have H8 := hid q8
      clear hq q8
      go_wp2_with fail
      go_roundw
      case rel => exact ⟨j + 1, by go_num, by omega, H8⟩
      case measure => simp [intOf]; omega
    · obtain rfl : j = 4 := by omega
      clear hlt hj
      have hq : Calls Tryz.prog 41 #[.pointer (some ⟨T, 0, none⟩), .int .i64 0] wr fun e w' => e = .returned (.int .i64 0) ∧ Hid (UQ w A T [] U2 w') := by
        obtain ⟨P, v, u, rfl, hJ, h⟩ := HR.out
        refine (tRead_in (x := U1.2) (z := U1.1) h u1_phase (by decide) u1_get u1_ok.x.sg u1_in (by decide)).mono ?_
        rintro e w' ⟨he, P', hT, q⟩
        rw [u1_rz] at q
        refine ⟨he, P', v, u, hT, fun y e => ?_, q⟩
        exfalso
        have h2 : U2.2.dg.phase = 3 := by decide +kernel
        rw [e] at h2
        cases h2
      clear HR
      go_wp2_with fail
      refine hq.mono ?_
      rintro e w9 ⟨rfl, HU⟩
      clear hq
      go_wp2_with fail
      go_loopw [11, 72, 73, 74, 75, 76, 77] (fun i _ _ _ _ _ _ wr => ∃ j : Nat, i = .int .i64 j ∧ j ≤ 7 ∧ Hid (UQ w A T [] (uS U2 j) wr)) (fun i _ _ _ _ _ _ _ => 7 - (intOf i).toNat)
      case atStart => exact ⟨0, rfl, by omega, HU⟩
      case round =>
        clear HU
        obtain ⟨j, rfl, hj, HR⟩ := hrel
        by_cases hlt : j < 7
        · have h1 : (j : Int) < 7 := by omega
          have hq := UQ.step HR.out (u2_ok.steps j) (by omega)
          clear HR
          generalize (uS U2 j).2.ans (uS U2 j).1 = an at *
          go_wp2_with fail
          refine hq.mono ?_
          rintro e w8 ⟨rfl, q8⟩
          have H8 := hid q8
          clear hq q8
          go_wp2_with fail
          go_roundw
          case rel => exact ⟨j + 1, by go_num, by omega, H8⟩
          case measure => simp [intOf]; omega
        · obtain rfl : j = 7 := by omega
          clear hlt hj
          obtain ⟨l1, l2, l3⟩ := u3_last
          have hq := UQ.last (s := U3) HR.out
          rw [l1, l2, l3] at hq
          clear HR l1 l2 l3
          go_wp2_with fail
          refine hq.mono ?_
          rintro e w10 ⟨rfl, q10⟩
          clear hq
          have q11 := q10.box #[.int .i64 2, .int .i64 0, .int .i64 5] 53
          clear q10
          go_upto_region 21 with fail
          generalize w10.alloc (.cells #[.int .i64 2, .int .i64 0, .int .i64 5] 53) = w11 at *
          generalize w10.heap.size = X1 at *
          have hq : Calls Tryz.prog 43 #[.pointer (some ⟨T, 0, none⟩), .int .i64 0, .int .i64 9] w11 fun e w' => e = .returned (.int .i64 0) ∧ Hid (UQ w A T [boxI X1 #[.int .i64 2, .int .i64 0, .int .i64 5] 53] U4 w') := by
            obtain ⟨P, v, u, rfl, hJ, h⟩ := q11
            refine (tWrite_new (x := U3.2) (z := U3.1) h u3_phase (by decide) (by decide) u3_sp (by have := u3_ok.z.el; omega) u3_get u3_len 9).mono ?_
            rintro e w' ⟨he, P', u', hT, q⟩
            rw [u4_x] at q
            refine ⟨he, P', v, u', hT, fun y e => ?_, q⟩
            exfalso
            have h2 : U4.2.dg.phase = 2 := u4_phase
            rw [e] at h2
            cases h2
          clear q11
          go_wp2_with fail
          refine hq.mono ?_
          rintro e w12 ⟨rfl, HU⟩
          clear hq
          have hq : Calls Tryz.prog 41 #[.pointer (some ⟨T, 0, none⟩), .int .i64 0] w12 fun e w' => e = .returned (.int .i64 0) ∧ Hid (UQ w A T [boxI X1 #[.int .i64 2, .int .i64 0, .int .i64 5] 53] U5 w') := by
            obtain ⟨P, v, u, rfl, hJ, h⟩ := HU.out
            refine (tRead_own (x := U4.2) (z := U4.1) h u4_phase u4_sp (by have := u4_ok.z.el; omega) u4_get).mono ?_
            rintro e w' ⟨he, u', q⟩
            refine ⟨he, P, v, u', rfl, fun y e => ?_, q⟩
            exfalso
            have h2 : U5.2.dg.phase = 2 := by decide +kernel
            rw [e] at h2
            cases h2
          clear HU
          go_wp2_with fail
          refine hq.mono ?_
          rintro e w13 ⟨rfl, HU⟩
          clear hq
          obtain ⟨l1, l2, l3⟩ := u5_last
          have hq := UQ.last (s := U5) HU.out
          rw [l1, l2, l3] at hq
          clear HU l1 l2 l3
          go_wp2_with fail
          refine hq.mono ?_
          rintro e w14 ⟨rfl, q14⟩
          clear hq
          have q15 := q14.box #[.int .i64 2, .int .i64 0, .int .i64 9] 53
          clear q14
          go_upto_region 24 with fail
          generalize w14.alloc (.cells #[.int .i64 2, .int .i64 0, .int .i64 9] 53) = w15 at *
          generalize w14.heap.size = X2 at *
          have hq := UQ.step q15 u5_ok (by omega)
          rw [u5_ans] at hq
          clear q15
          go_wp2_with fail
          refine hq.mono ?_
          rintro e w16 ⟨rfl, q16⟩
          clear hq
          have hq : Calls Tryz.prog 44 #[.pointer (some ⟨T, 0, none⟩)] w16 fun e w' => e = .returned (.int .i64 0) ∧ Hid (UQ w A T [boxI X2 #[.int .i64 2, .int .i64 0, .int .i64 9] 53, boxI X1 #[.int .i64 2, .int .i64 0, .int .i64 5] 53] U7 w') := by
            obtain ⟨P, v, u, rfl, hJ, h⟩ := q16
            refine (tCommit_ok (x := U6.2) (z := U6.1) h u6_phase u6_wr u6_ok.x.wl u6_wf upc_fits u6_ok.z.hl u6_ok.x.s0 (u6_ok.x.ck u6_ok.z.hl u6_wr u6_sp)).mono ?_
            rintro e w' ⟨he, P', hT, hJ', q⟩
            exact ⟨he, P', v, u, hT, fun _ _ => hJ', q⟩
          clear q16
          go_wp2_with fail
          refine hq.mono ?_
          rintro e w17 ⟨rfl, HU⟩
          clear hq
          go_wp2_with fail
          go_loopw [18, 90, 91, 92, 93, 94, 95] (fun i _ _ _ _ _ _ wr => ∃ j : Nat, i = .int .i64 j ∧ j ≤ 5 ∧ Hid (UQ w A T [boxI X2 #[.int .i64 2, .int .i64 0, .int .i64 9] 53, boxI X1 #[.int .i64 2, .int .i64 0, .int .i64 5] 53] (uS U7 j) wr)) (fun i _ _ _ _ _ _ _ => 5 - (intOf i).toNat)
          case atStart => exact ⟨0, rfl, by omega, HU⟩
          case round =>
            clear HU
            obtain ⟨j, rfl, hj, HR⟩ := hrel
            by_cases hlt : j < 5
            · have h1 : (j : Int) < 5 := by omega
              have hq := UQ.step HR.out (u7_ok.steps j) (by omega)
              clear HR
              generalize (uS U7 j).2.ans (uS U7 j).1 = an at *
              go_wp2_with fail
              refine hq.mono ?_
              rintro e w8 ⟨rfl, q8⟩
              have H8 := hid q8
              clear hq q8
              go_wp2_with fail
              go_roundw
              case rel => exact ⟨j + 1, by go_num, by omega, H8⟩
              case measure => simp [intOf]; omega
            · obtain rfl : j = 5 := by omega
              clear hlt hj
              have hq := UQ.view (s := U8) HR.out u8_ok
              rw [u8_xs] at hq
              clear HR
              generalize hXN : U8.1.x.n = XN at *
              generalize hXO : U8.1.x.o = XO at *
              clear hXN hXO
              go_wp2_with fail
              refine hq.mono ?_
              rintro e w20 ⟨va, vs, rfl, q20⟩
              clear hq
              have o20 : w20.ownsRow 0 2 1 va 1 [.int .i64 9] := q20.get 0 rfl
              obtain ⟨gq, gc, rfl, _, _⟩ := o20.form (by simp)
              obtain ⟨pb, cb, rfl⟩ := own_form (n := U8.1.hs.length) (q20.get 1 rfl)
              generalize U8.1.hs.length = HL at *
              clear o20
              have q21 := q20.box #[.slice (some ⟨gq, 0, none⟩) 1 gc, .int .i64 XN, .int .i64 XO, .slice pb HL cb] 84
              clear q20
              go_upto_region 31 with fail
              generalize w20.alloc (.cells #[.slice (some ⟨gq, 0, none⟩) 1 gc, .int .i64 XN, .int .i64 XO, .slice pb HL cb] 84) = w21 at *
              generalize w20.heap.size = X3 at *
              obtain ⟨z1, z2, z3, z4⟩ := u8_ev
              have hq := UQ.events q21 (by rw [show U8.1.ev.length = 5 from z1]; decide)
              rw [z1] at hq
              clear q21
              go_wp2_with fail
              refine hq.mono ?_
              rintro e w22 ⟨ve, rfl, q22⟩
              clear hq
              have o22 : w22.ownsRow 0 104 10 ve 5 (evCells U8.1.ev) := q22.get 0 rfl
              obtain ⟨ge, gf, rfl, _, _⟩ := o22.form (by simp)
              clear o22
              have CF : Hid (∀ W, UQ w A T [ownI 104 10 (.slice (some ⟨ge, 0, none⟩) 5 gf) 5 (evCells U8.1.ev), boxI X3 #[.slice (some ⟨gq, 0, none⟩) 1 gc, .int .i64 XN, .int .i64 XO, .slice pb HL cb] 84, ownI 2 1 (.slice (some ⟨gq, 0, none⟩) 1 gc) 1 (clCells [9]), ownI 109 8 (.slice pb HL cb) HL (slCells (slots U8.1.hs U8.1.ws)), boxI X2 #[.int .i64 2, .int .i64 0, .int .i64 9] 53, boxI X1 #[.int .i64 2, .int .i64 0, .int .i64 5] 53] U8 W → W.cell? ⟨ge, 40, none⟩ = some (.int .i64 4) ∧ W.cell? ⟨ge, 47, none⟩ = some (.int .i64 1) ∧ W.cell? ⟨ge, 36, none⟩ = some (.bool true) ∧ W.cell? ⟨X3, 0, none⟩ = some (.slice (some ⟨gq, 0, none⟩) 1 gc) ∧ W.cell? ⟨gq, 0, none⟩ = some (.int .i64 9)) := by
                intro W hW
                have o22 : W.ownsRow 0 104 10 (.slice (some ⟨ge, 0, none⟩) 5 gf) 5 (evCells U8.1.ev) := hW.get 0 rfl
                have o23 : W.ownsRow 0 2 1 (.slice (some ⟨gq, 0, none⟩) 1 gc) 1 (clCells [9]) := hW.get 2 rfl
                refine ⟨?_, ?_, ?_, hW.cell 1 rfl 0, (o23.cellAt 0 (by decide)).trans rfl⟩
                · rw [o22.cellAt 40 (by decide)]
                  have q := (ev_cells U8.1.ev 4 (by rw [z1]; decide)).1
                  rw [show 4 * 10 = 40 from rfl] at q
                  rw [q]
                  rw [List.getElem?_map, List.getElem?_eq_getElem (by rw [z1]; decide)] at z2
                  exact congrArg (fun t => t.map (Value.int .i64)) z2
                · rw [o22.cellAt 47 (by decide)]
                  have q := (ev_cells U8.1.ev 4 (by rw [z1]; decide)).2.2.2.2.2.2.2.1
                  rw [show 4 * 10 + 7 = 47 from rfl] at q
                  rw [q]
                  rw [List.getElem?_map, List.getElem?_eq_getElem (by rw [z1]; decide)] at z3
                  exact congrArg (fun t => t.map (Value.int .i64)) z3
                · rw [o22.cellAt 36 (by decide)]
                  have q := (ev_cells U8.1.ev 3 (by rw [z1]; decide)).2.2.2.2.2.2.1
                  rw [show 3 * 10 + 6 = 36 from rfl] at q
                  rw [q]
                  rw [List.getElem?_map, List.getElem?_eq_getElem (by rw [z1]; decide)] at z4
                  exact congrArg (fun t => t.map Value.bool) z4
              clear z1 z2 z3 z4
              have c10 : w22.cell? ⟨X1, 0, none⟩ = some (.int .i64 2) := q22.cell 5 rfl 0
              have c11 : w22.cell? ⟨X1, 1, none⟩ = some (.int .i64 0) := q22.cell 5 rfl 1
              have c12 : w22.cell? ⟨X1, 2, none⟩ = some (.int .i64 5) := q22.cell 5 rfl 2
              have c20 : w22.cell? ⟨X2, 0, none⟩ = some (.int .i64 2) := q22.cell 4 rfl 0
              have c21 : w22.cell? ⟨X2, 1, none⟩ = some (.int .i64 0) := q22.cell 4 rfl 1
              have c22 : w22.cell? ⟨X2, 2, none⟩ = some (.int .i64 9) := q22.cell 4 rfl 2
              have hq := UQ.phase q22
              rw [show U8.2.dg.phase = 0 from u8_phase] at hq
              have heq := fun a b d a' b' d' W => eqLastG a b d a' b' d' W
              clear q22
              go_wp2_with (simp only [heq, beq_self_eq_true, Bool.and_self])
              refine hq.mono ?_
              rintro e w23 ⟨rfl, q23⟩
              clear hq c10 c11 c12 c20 c21 c22
              obtain ⟨l1, l2, l3⟩ := u8_last
              have hq := UQ.last q23
              rw [l1, l2, l3] at hq
              clear q23 l1 l2 l3
              go_wp2_with (simp only [heq, beq_self_eq_true, Bool.and_self])
              refine hq.mono ?_
              rintro e w24 ⟨rfl, q24⟩
              clear hq
              obtain ⟨y1, y2, y3, y4, y5⟩ := CF.out w24 q24
              have HK := hid q24.same
              clear CF q24
              go_wp2_with (simp only [heq, beq_self_eq_true, Bool.and_self])
              go_ret
              exact ⟨rfl, HK.out⟩
end Go.Proofs.YtnchfomoaonbkaaGreat
