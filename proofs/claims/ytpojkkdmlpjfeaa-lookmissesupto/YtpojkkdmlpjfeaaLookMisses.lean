/- LookMisses, step by step. LookMisses holds for all arguments whose reading is of bulk at most 1048576: for every signature, list of seats and list of moves within that bound the law answers true (the bound is the statement's own; without it the log of accesses may pass 2^48 bytes). -/
import Derived.Test.YtpojkkdmlpjfeaaMiss
import Derived.OrdersHeld
import Derived.Test.YtpojkkdmlpjfeaaRows
import Derived.WalkKit
import Derived.ProofKit
import Derived.OpenShut
import Derived.ShutString
import Derived.ChangeOld
import Derived.Below
import Derived.JoinedCond
import Derived.Deep.CondSized
import Derived.Test.YtpojkkdmlpjfeaaOps
namespace Go.Proofs.Ytpojkkdmlpjfeaa
open Go.RowKit
set_option linter.unusedVariables false
set_option linter.unusedSimpArgs false
attribute [local go_sem ↓] Go.wp_at_zero Go.wp_at_succ

theorem vField_slots (p q : Option Addr) (n m k l : Nat) (a b : Int) (w : World) : (Instr.field 40 (.agg #[.slice p n k, .int .i64 a, .int .i64 b, .slice q m l]) 2).run Try.prog w = .ok (.slice q m l) w := by kernel_rfl
def boolA (tk : List Bool) : Array Value := (tk.map Value.bool).toArray
theorem boolA_at {tk : List Bool} {s : Nat} {b : Bool} (h : tk[s]? = some b) : (boolA tk)[s]? = some (.bool b) := by simp [boolA, h]
theorem boolA_set (tk : List Bool) (s : Nat) (b : Bool) : (boolA tk).setIfInBounds s (.bool b) = boolA (tk.set s b) := by simp [boolA, List.setIfInBounds_toArray, List.map_set]

set_option maxRecDepth 100000 in
set_option maxHeartbeats 8000000 in
theorem misses_walk (w : World) (wr : Sg) (hwr : wr.ok) {sa : Option Addr} {sl sc : Nat} {f : Nat → SeD} (hf : SesAt w sa sl f) (hs40 : sl * 40 ≤ 140737488351232) {ma : Option Addr} {ml mc : Nat} {fm : Nat → MvD} (hm : MvsAt w ma ml fm) (hml : ml ≤ 1048576) :
    Calls Try.prog 4 #[wr.val, .slice sa sl sc, .slice ma ml mc] w fun e w' => e = .returned (.bool true) ∧ Kept (fun _ => False) w w' := by
  have HSW : Hid (∀ i, i < min sl 8 → (f i).w_0 < 18446744073709551616 ∧ (f i).w_1 < 18446744073709551616) := fun i hi => by
    rcases hf with h | ⟨b, off, _, hat⟩
    · omega
    · exact ⟨(hat i (by omega)).r_w_0, (hat i (by omega)).r_w_1⟩
  have HM : Hid (MvsAt w ma ml fm) := hm
  clear hm
  have sb := (St.nil w).box #[.int .u64 wr.lo, .int .u64 wr.hi] 24
  obtain ⟨r0, r1⟩ := wr
  unfold Sg.val
  simp only at sb ⊢
  go_enter Try.func4, Try.ntmps4
  go_upto_region 1 with fail
  generalize w.alloc (.cells #[.int .u64 r0, .int .u64 r1] 24) = w0 at *
  generalize w.heap.size = F at *
  go_wp2_with fail
  refine (up_any _).mono ?_
  rintro e w1 ⟨rfl, k1⟩
  have hq := lkTable (sb.calm k1) 8 rfl
  clear k1 sb
  go_wp2_with fail
  refine hq.mono ?_
  rintro e w2 ⟨A, rfl, s2⟩
  clear hq
  unfold spp
  have hq := seats_st (cap := sc) s2 0 rfl (SSt.ok_zero (tbC 8) rfl 0) (by omega) rfl hf
  unfold spp at hq
  clear s2
  go_wp2_with fail
  refine hq.mono ?_
  rintro e w3 ⟨rfl, v3, s3⟩
  clear hq
  have okz : (seatsZ (SSt.zero (tbC 8)) f (min sl 8)).ok (tbC 8) 45 := (seatsZ_ok (SSt.ok_zero (tbC 8) rfl 0) f (min sl 8)).more (by omega)
  have hwz : WsOk (seatsZ (SSt.zero (tbC 8)) f (min sl 8)).ws := seatsZ_wok (WsOk.rep _) f (min sl 8) HSW.out
  have s3' : St w [spI A (tbC 8) (seatsZ (SSt.zero (tbC 8)) f (min sl 8)) v3 (.slice none 0 0), boxI F #[.int .u64 r0, .int .u64 r1] 24] w3 := s3
  have HGEN : Hid (GenOk (seatsZ (SSt.zero (tbC 8)) f (min sl 8)).hs) := seatsZ_gen (fun h hm => by rw [(List.mem_replicate.1 hm).2]; intro e; exact absurd rfl e) (SSt.ok_zero (tbC 8) rfl 0) f (min sl 8)
  clear s3 HSW
  generalize seatsZ (SSt.zero (tbC 8)) f (min sl 8) = z0 at *
  have h80 : z0.hs.length = 8 := by have := okz.hl; simp [tbC] at this; exact_mod_cast this
  have hw16 : z0.ws.length = 16 := by rw [okz.wl, h80]
  have hq := lkNew_st s3' 0 rfl 0 ⟨r0, r1⟩ (by omega) (by omega)
  unfold spp Sg.val at hq
  simp only at hq
  have hsl := spSlots s3' 0 rfl
  unfold spp at hsl
  have b0 : w3.cell? ⟨F, 0, none⟩ = some (.int .u64 r0) := s3'.cell 1 rfl 0
  have b1 : w3.cell? ⟨F, 1, none⟩ = some (.int .u64 r1) := s3'.cell 1 rfl 1
  clear s3'
  have H80 : Hid (z0.hs.length = 8) := h80
  have HW16 : Hid (z0.ws.length = 16) := hw16
  clear h80 hw16
  go_wp2_with (go_at_call 19; refine hsl.mono ?_; rintro e wq ⟨rfl, rfl⟩)
  refine hq.mono ?_
  rintro e w4 ⟨K, vl, rfl, s4⟩
  clear hq b0 b1 hsl
  have hq := spView s4 1 rfl okz.wl okz.h1 okz.h8
  unfold spp at hq
  clear s4
  go_wp2_with fail
  refine hq.mono ?_
  rintro e w6 ⟨va, vs0, rfl, s6⟩
  clear hq
  obtain ⟨g2, cap2, rfl⟩ := s6.form 1 rfl (by have := okz.h1; omega)
  obtain ⟨ga, capa, rfl⟩ := s6.form 0 rfl (by have := okz.c1; omega)
  have HX : ∃ XX, Hid (XX = ownI 2 1 (.slice (some ⟨ga, 0, none⟩) z0.xs.length capa) z0.xs.length (clCells z0.xs)) ∧ St w [XX, ownI 46 8 (.slice (some ⟨g2, 0, none⟩) z0.hs.length cap2) z0.hs.length (slCells (slots z0.hs z0.ws)), lkI K A.t (Lk.new ⟨r0, r1⟩ z0.hs.length 0) vl (.slice none 0 0) (.slice none 0 0), spI A (tbC 8) z0 v3 (.slice none 0 0), boxI F #[.int .u64 r0, .int .u64 r1] 24] w6 := ⟨_, rfl, s6⟩
  obtain ⟨XX, _, s7⟩ := HX
  clear s6
  generalize z0.xs.length = nx at *
  rw [H80.out]
  go_wp2_with (simp only [vField_slots])
  have hok0 : GenOk z0.hs := HGEN.out
  have s8 : St w [boxI (w6.heap.size + 1) (boolA (upTo (fun s => (nowAt z0.hs s).sa == 2) 1)) 59, boxI w6.heap.size (boolA (upTo (fun s => isVic z0.hs z0.ws ⟨r0, r1⟩ s) 1)) 59, XX, ownI 46 8 (.slice (some ⟨g2, 0, none⟩) z0.hs.length cap2) z0.hs.length (slCells (slots z0.hs z0.ws)), lkI K A.t (Lk.new ⟨r0, r1⟩ 8 0) vl (.slice none 0 0) (.slice none 0 0), spI A (tbC 8) z0 v3 (.slice none 0 0), boxI F #[.int .u64 r0, .int .u64 r1] 24] ((w6.alloc (.cells #[.bool false, .bool false, .bool false, .bool false, .bool false, .bool false, .bool false, .bool false] 59)).alloc (.cells #[.bool false, .bool false, .bool false, .bool false, .bool false, .bool false, .bool false, .bool false] 59)) := by
    rw [upTo_one, upTo_one]
    have e := H80.out
    have s7b := s7
    rw [show Lk.new ⟨r0, r1⟩ z0.hs.length 0 = Lk.new ⟨r0, r1⟩ 8 0 by rw [e]] at s7b
    have a1 := s7b.box #[.bool false, .bool false, .bool false, .bool false, .bool false, .bool false, .bool false, .bool false] 59
    have a2 := a1.box #[.bool false, .bool false, .bool false, .bool false, .bool false, .bool false, .bool false, .bool false] 59
    rw [alloc_size] at a2
    exact a2
  clear s7
  generalize (w6.alloc (.cells #[.bool false, .bool false, .bool false, .bool false, .bool false, .bool false, .bool false, .bool false] 59)).alloc (.cells #[.bool false, .bool false, .bool false, .bool false, .bool false, .bool false, .bool false, .bool false] 59) = w8 at *
  generalize w6.heap.size + 1 = B2 at *
  generalize w6.heap.size = B1 at *
  have HSL : Hid (∀ W (lv sy : List Bool) (KK SP : It), St w [boxI B2 (boolA lv) 59, boxI B1 (boolA sy) 59, XX, ownI 46 8 (.slice (some ⟨g2, 0, none⟩) z0.hs.length cap2) z0.hs.length (slCells (slots z0.hs z0.ws)), KK, SP, boxI F #[.int .u64 r0, .int .u64 r1] 24] W → ∀ p, p < 8 → ∃ x0 x1 : Nat, x0 < 18446744073709551616 ∧ x1 < 18446744073709551616 ∧ sgAt z0.hs z0.ws p = ⟨x0, x1⟩ ∧ (W.cell? ⟨g2, p * 8, none⟩ = some (.int .i64 (nowAt z0.hs p).gn) ∧ W.cell? ⟨g2, p * 8 + 1, none⟩ = some (.int .i64 (nowAt z0.hs p).sa) ∧ W.cell? ⟨g2, p * 8 + 4, none⟩ = some (.bool (nowAt z0.hs p).dm) ∧ W.cell? ⟨g2, p * 8 + 6, none⟩ = some (.int .u64 (x0 : Nat)) ∧ W.cell? ⟨g2, p * 8 + 7, none⟩ = some (.int .u64 (x1 : Nat))) ∧ W.cell? ⟨F, 0, none⟩ = some (.int .u64 r0) ∧ W.cell? ⟨F, 1, none⟩ = some (.int .u64 r1)) := by
    intro W lv sy KK SP sW p hp
    have hp' : p < z0.hs.length := by rw [H80.out]; exact hp
    obtain ⟨y0, y1⟩ := wordR_in (ws := z0.ws) hp'
    obtain ⟨x0, hx0, hx0'⟩ := hwz.word z0.hs.length p 0
    obtain ⟨x1, hx1, hx1'⟩ := hwz.word z0.hs.length p 1
    refine ⟨x0, x1, hx0', hx1', ?_, ?_, sW.cell 6 rfl 0, sW.cell 6 rfl 1⟩
    · unfold sgAt; rw [hx0, hx1]; simp
    · obtain ⟨a0, a1, _, _, a4, _, a6, a7⟩ := slot_cells sW 3 rfl okz.wl hp'
      rw [nowAt_in hp', ← hx0, ← hx1, y0, y1]
      exact ⟨a0, a1, a4, a6, a7⟩
  go_loopw [16] (fun i wr => ∃ (j : Nat), i = .int .i64 j ∧ 1 ≤ j ∧ j ≤ 8 ∧ St w [boxI B2 (boolA (upTo (fun s => (nowAt z0.hs s).sa == 2) j)) 59, boxI B1 (boolA (upTo (fun s => isVic z0.hs z0.ws ⟨r0, r1⟩ s) j)) 59, XX, ownI 46 8 (.slice (some ⟨g2, 0, none⟩) z0.hs.length cap2) z0.hs.length (slCells (slots z0.hs z0.ws)), lkI K A.t (Lk.new ⟨r0, r1⟩ 8 0) vl (.slice none 0 0) (.slice none 0 0), spI A (tbC 8) z0 v3 (.slice none 0 0), boxI F #[.int .u64 r0, .int .u64 r1] 24] wr) (fun i _ => 8 - (intOf i).toNat)
  case atStart => exact ⟨1, rfl, Nat.le_refl _, by omega, s8⟩
  case round =>
    clear s8
    obtain ⟨j, rfl, hj1, hj8, hS⟩ := hrel
    have e0 : (0 : Int) ≤ (j : Int) := by omega
    by_cases hlt : j < 8
    · have e1 : (j : Int) < 8 := by omega
      obtain ⟨x0, x1, hx0, hx1, hsg, ⟨c0, c1, c4, c6, c7⟩, f0, f1⟩ := HSL.out _ _ _ _ _ hS j hlt
      have HIV : Hid (isVic z0.hs z0.ws ⟨r0, r1⟩ j = ((nowAt z0.hs j).lives && (⟨x0, x1⟩ : Sg).meets ⟨r0, r1⟩)) := by show _ = _; unfold isVic; rw [hsg]
      have hA0 : bits .and .u64 ((x0 : Nat) : Int) ((r0 : Nat) : Int) = ((x0 &&& r0 : Nat) : Int) := bits_and_u64_nat _ _ hx0 hwr.1
      have hA1 : bits .and .u64 ((x1 : Nat) : Int) ((r1 : Nat) : Int) = ((x1 &&& r1 : Nat) : Int) := bits_and_u64_nat _ _ hx1 hwr.2
      have d1 : ∃ b, wr.cell? ⟨B1, j, none⟩ = some (.bool b) := ⟨_, (hS.cell 1 rfl j).trans (boolA_at (upTo_at _ j j hlt))⟩
      have d2 : ∃ b, wr.cell? ⟨B2, j, none⟩ = some (.bool b) := ⟨_, (hS.cell 0 rfl j).trans (boolA_at (upTo_at _ j j hlt))⟩
      obtain ⟨z1, d1⟩ := d1
      obtain ⟨z2, d2⟩ := d2
      have f1' := hS.frozen 1 rfl j
      have ng : g2 ≠ B1 := hS.ne 3 1 rfl rfl (by omega) (by simp [ownI, Value.ownBlock]) (by simp [boxI])
      have nf : F ≠ B1 := hS.ne 6 1 rfl rfl (by omega) (by simp [boxI]) (by simp [boxI])
      have kg : ∀ u q, ((wr.setCell ⟨B1, j, none⟩ u).drew).cell? ⟨g2, q, none⟩ = wr.cell? ⟨g2, q, none⟩ := fun u q => World.cell?_of_block (heap_setCell_far ng)
      have kg2 : ∀ u q, (wr.drew.setCell ⟨B1, j, none⟩ u).cell? ⟨g2, q, none⟩ = wr.cell? ⟨g2, q, none⟩ := fun u q => World.cell?_of_block (heap_setCell_far ng)
      have kf2 : ∀ u q, (wr.drew.setCell ⟨B1, j, none⟩ u).cell? ⟨F, q, none⟩ = wr.cell? ⟨F, q, none⟩ := fun u q => World.cell?_of_block (heap_setCell_far nf)
      have kf : ∀ u q, ((wr.setCell ⟨B1, j, none⟩ u).drew).cell? ⟨F, q, none⟩ = wr.cell? ⟨F, q, none⟩ := fun u q => World.cell?_of_block (heap_setCell_far nf)
      have HS2 : Hid (∀ b, b = isVic z0.hs z0.ws ⟨r0, r1⟩ j → St w [boxI B2 (boolA (upTo (fun s => (nowAt z0.hs s).sa == 2) j)) 59, boxI B1 (boolA (upTo (fun s => isVic z0.hs z0.ws ⟨r0, r1⟩ s) (j + 1))) 59, XX, ownI 46 8 (.slice (some ⟨g2, 0, none⟩) z0.hs.length cap2) z0.hs.length (slCells (slots z0.hs z0.ws)), lkI K A.t (Lk.new ⟨r0, r1⟩ 8 0) vl (.slice none 0 0) (.slice none 0 0), spI A (tbC 8) z0 v3 (.slice none 0 0), boxI F #[.int .u64 r0, .int .u64 r1] 24] ((wr.setCell ⟨B1, j, none⟩ (.bool b)).drew)) := by
        intro b hb
        have a1 := (hS.write 1 rfl j (.bool b)).drew
        rw [boolA_set, hb, upTo_set _ j hj1 hlt] at a1
        rw [hb]
        exact a1
      clear hS hsg
      generalize hHD : nowAt z0.hs j = HD at *
      obtain ⟨hg, hsa, hp, ht, hdm, hb⟩ := HD
      simp only at c0 c1 c4
      have HHD : Hid (nowAt z0.hs j = ⟨hg, hsa, hp, ht, hdm, hb⟩) := hHD
      clear hHD
      cases h2 : hsa == 2 with
      | false =>
        as_aux_lemma =>
          go_upto_region 16 with fail
          refine wp_region_held_drew (S := fun W => W.cell? ⟨g2, j * 8 + 1, none⟩ = some (.int .i64 hsa) ∧ W.cell? ⟨g2, j * 8 + 4, none⟩ = some (.bool hdm) ∧ W.cell? ⟨g2, j * 8 + 6, none⟩ = some (.int .u64 (x0 : Nat)) ∧ W.cell? ⟨g2, j * 8 + 7, none⟩ = some (.int .u64 (x1 : Nat)) ∧ W.cell? ⟨F, 0, none⟩ = some (.int .u64 r0) ∧ W.cell? ⟨F, 1, none⟩ = some (.int .u64 r1)) (by kernel_rfl) ⟨c1, c4, c6, c7, f0, f1⟩ (fun hHeld => ?_)
          refine wpAnyH_take (i := 0) (oi := { dst := some 62, op := Op.move (Operand.tmp 16), type := 3, pos := "law.go:317", after := #[], guard := none }) (v := ?vA0) rfl (by kernel_rfl) (by kernel_rfl) (by kernel_rfl) (fun _ _ _ h => h) (Or.inl ⟨by rfl, ?hyA0⟩) (by assumption) ?_
          case hyA0 => (intro W hSw; (try dsimp only at hSw); go_simp; (try with_reducible rfl))
          try simp only [Act.put, List.setIfInBounds_toArray, List.set_cons_zero, List.set_cons_succ]
          refine wpAnyH_take (i := 1) (oi := { dst := some 63, op := Op.move (Operand.tmp 13), type := 38, pos := "law.go:317", after := #[], guard := none }) (v := ?vA1) rfl (by kernel_rfl) (by kernel_rfl) (by kernel_rfl) (fun _ _ _ h => h) (Or.inl ⟨by rfl, ?hyA1⟩) (by assumption) ?_
          case hyA1 => (intro W hSw; (try dsimp only at hSw); go_simp; (try with_reducible rfl))
          try simp only [Act.put, List.setIfInBounds_toArray, List.set_cons_zero, List.set_cons_succ]
          refine wpAnyH_take (i := 2) (oi := { dst := some 64, op := Op.move (Operand.tmp 16), type := 3, pos := "law.go:317", after := #[], guard := none }) (v := ?vA2) rfl (by kernel_rfl) (by kernel_rfl) (by kernel_rfl) (fun _ _ _ h => h) (Or.inl ⟨by rfl, ?hyA2⟩) (by assumption) ?_
          case hyA2 => (intro W hSw; (try dsimp only at hSw); go_simp; (try with_reducible rfl))
          try simp only [Act.put, List.setIfInBounds_toArray, List.set_cons_zero, List.set_cons_succ]
          refine wpAnyH_take (i := 3) (oi := { dst := some 65, op := Op.indexAddr 38 (Operand.tmp 63) (Operand.tmp 64), type := 0, pos := "law.go:317", after := #[{ on := 1, ground := Ground.data }, { on := 2, ground := Ground.data }], guard := none }) (v := ?vA3) rfl (by kernel_rfl) (by kernel_rfl) (by kernel_rfl) (fun _ _ _ h => h) (Or.inl ⟨by rfl, ?hyA3⟩) (by assumption) ?_
          case hyA3 => (intro W hSw; (try dsimp only at hSw); go_simp; (try with_reducible rfl))
          try simp only [Act.put, List.setIfInBounds_toArray, List.set_cons_zero, List.set_cons_succ]
          refine wpAnyH_take (i := 4) (oi := { dst := some 66, op := Op.fieldAddr 46 (Operand.tmp 65) 0, type := 0, pos := "law.go:317", after := #[{ on := 3, ground := Ground.data }], guard := none }) (v := ?vA4) rfl (by kernel_rfl) (by kernel_rfl) (by kernel_rfl) (fun _ _ _ h => h) (Or.inl ⟨by rfl, ?hyA4⟩) (by assumption) ?_
          case hyA4 => (intro W hSw; (try dsimp only at hSw); go_simp; (try with_reducible rfl))
          try simp only [Act.put, List.setIfInBounds_toArray, List.set_cons_zero, List.set_cons_succ]
          refine wpAnyH_take (i := 5) (oi := { dst := some 67, op := Op.fieldAddr 44 (Operand.tmp 66) 1, type := 0, pos := "law.go:317", after := #[{ on := 4, ground := Ground.data }], guard := none }) (v := ?vA5) rfl (by kernel_rfl) (by kernel_rfl) (by kernel_rfl) (fun _ _ _ h => h) (Or.inl ⟨by rfl, ?hyA5⟩) (by assumption) ?_
          case hyA5 => (intro W hSw; (try dsimp only at hSw); go_simp; (try with_reducible rfl))
          try simp only [Act.put, List.setIfInBounds_toArray, List.set_cons_zero, List.set_cons_succ]
          refine wpAnyH_take (i := 6) (oi := { dst := some 68, op := Op.load 3 (Operand.tmp 67), type := 3, pos := "law.go:317", after := #[{ on := 5, ground := Ground.data }], guard := none }) (v := ?vA6) rfl (by kernel_rfl) (by kernel_rfl) (by kernel_rfl) (fun _ _ _ h => h) (Or.inl ⟨by rfl, ?hyA6⟩) (by assumption) ?_
          case hyA6 => (intro W hSw; (try dsimp only at hSw); go_simp; (try with_reducible rfl))
          try simp only [Act.put, List.setIfInBounds_toArray, List.set_cons_zero, List.set_cons_succ]
          refine wpAnyH_take (i := 7) (oi := { dst := some 69, op := Op.binOp BinOp.eql 3 (Operand.tmp 68) (Operand.const (Value.int IntKind.i64 2)) 3, type := 4, pos := "law.go:317", after := #[{ on := 6, ground := Ground.data }], guard := none }) (v := ?vA7) rfl (by kernel_rfl) (by kernel_rfl) (by kernel_rfl) (fun _ _ _ h => h) (Or.inl ⟨by rfl, ?hyA7⟩) (by assumption) ?_
          case hyA7 => (intro W hSw; (try dsimp only at hSw); go_simp; (try with_reducible rfl))
          try simp only [Act.put, List.setIfInBounds_toArray, List.set_cons_zero, List.set_cons_succ]
          refine wpAnyH_take (i := 8) (oi := { dst := some 70, op := Op.move (Operand.tmp 69), type := 4, pos := "law.go:317", after := #[{ on := 7, ground := Ground.data }], guard := none }) (v := ?vA8) rfl (by kernel_rfl) (by kernel_rfl) (by kernel_rfl) (fun _ _ _ h => h) (Or.inl ⟨by rfl, ?hyA8⟩) (by assumption) ?_
          case hyA8 => (intro W hSw; (try dsimp only at hSw); go_simp; (try with_reducible rfl))
          try simp only [Act.put, List.setIfInBounds_toArray, List.set_cons_zero, List.set_cons_succ]
          refine wpAnyH_take (i := 9) (oi := { dst := some 71, op := Op.move (Operand.tmp 13), type := 38, pos := "law.go:317", after := #[{ on := 8, ground := Ground.guard }], guard := some (8, true) }) (v := undef) rfl (by kernel_rfl) (by kernel_rfl) (by kernel_rfl) (fun _ _ _ h => h) (Or.inr ⟨by rfl, rfl⟩) (by assumption) ?_
          try simp only [Act.put, List.setIfInBounds_toArray, List.set_cons_zero, List.set_cons_succ]
          refine wpAnyH_take (i := 10) (oi := { dst := some 72, op := Op.move (Operand.tmp 16), type := 3, pos := "law.go:317", after := #[{ on := 8, ground := Ground.guard }], guard := some (8, true) }) (v := undef) rfl (by kernel_rfl) (by kernel_rfl) (by kernel_rfl) (fun _ _ _ h => h) (Or.inr ⟨by rfl, rfl⟩) (by assumption) ?_
          try simp only [Act.put, List.setIfInBounds_toArray, List.set_cons_zero, List.set_cons_succ]
          refine wpAnyH_take (i := 11) (oi := { dst := some 73, op := Op.indexAddr 38 (Operand.tmp 71) (Operand.tmp 72), type := 0, pos := "law.go:317", after := #[{ on := 9, ground := Ground.data }, { on := 10, ground := Ground.data }, { on := 8, ground := Ground.guard }], guard := some (8, true) }) (v := undef) rfl (by kernel_rfl) (by kernel_rfl) (by kernel_rfl) (fun _ _ _ h => h) (Or.inr ⟨by rfl, rfl⟩) (by assumption) ?_
          try simp only [Act.put, List.setIfInBounds_toArray, List.set_cons_zero, List.set_cons_succ]
          refine wpAnyH_take (i := 12) (oi := { dst := some 74, op := Op.fieldAddr 46 (Operand.tmp 73) 0, type := 0, pos := "law.go:317", after := #[{ on := 11, ground := Ground.data }, { on := 8, ground := Ground.guard }], guard := some (8, true) }) (v := undef) rfl (by kernel_rfl) (by kernel_rfl) (by kernel_rfl) (fun _ _ _ h => h) (Or.inr ⟨by rfl, rfl⟩) (by assumption) ?_
          try simp only [Act.put, List.setIfInBounds_toArray, List.set_cons_zero, List.set_cons_succ]
          refine wpAnyH_take (i := 13) (oi := { dst := some 75, op := Op.fieldAddr 44 (Operand.tmp 74) 4, type := 0, pos := "law.go:317", after := #[{ on := 12, ground := Ground.data }, { on := 8, ground := Ground.guard }], guard := some (8, true) }) (v := undef) rfl (by kernel_rfl) (by kernel_rfl) (by kernel_rfl) (fun _ _ _ h => h) (Or.inr ⟨by rfl, rfl⟩) (by assumption) ?_
          try simp only [Act.put, List.setIfInBounds_toArray, List.set_cons_zero, List.set_cons_succ]
          refine wpAnyH_take (i := 14) (oi := { dst := some 76, op := Op.load 4 (Operand.tmp 75), type := 4, pos := "law.go:317", after := #[{ on := 13, ground := Ground.data }, { on := 8, ground := Ground.guard }], guard := some (8, true) }) (v := undef) rfl (by kernel_rfl) (by kernel_rfl) (by kernel_rfl) (fun _ _ _ h => h) (Or.inr ⟨by rfl, rfl⟩) (by assumption) ?_
          try simp only [Act.put, List.setIfInBounds_toArray, List.set_cons_zero, List.set_cons_succ]
          refine wpAnyH_take (i := 15) (oi := { dst := some 77, op := Op.unOp UnOp.not 4 (Operand.tmp 76), type := 4, pos := "law.go:317", after := #[{ on := 14, ground := Ground.data }, { on := 8, ground := Ground.guard }], guard := some (8, true) }) (v := undef) rfl (by kernel_rfl) (by kernel_rfl) (by kernel_rfl) (fun _ _ _ h => h) (Or.inr ⟨by rfl, rfl⟩) (by assumption) ?_
          try simp only [Act.put, List.setIfInBounds_toArray, List.set_cons_zero, List.set_cons_succ]
          refine wpAnyH_take (i := 16) (oi := { dst := some 78, op := Op.pick (Operand.tmp 70) (Operand.tmp 77) (Operand.const (Value.bool false)), type := 4, pos := "law.go:317", after := #[{ on := 8, ground := Ground.data }, { on := 15, ground := Ground.data }], guard := none }) (v := ?vA16) rfl (by kernel_rfl) (by kernel_rfl) (by kernel_rfl) (fun _ _ _ h => h) (Or.inl ⟨by rfl, ?hyA16⟩) (by assumption) ?_
          case hyA16 => (intro W hSw; (try dsimp only at hSw); go_simp; (try with_reducible rfl))
          try simp only [Act.put, List.setIfInBounds_toArray, List.set_cons_zero, List.set_cons_succ]
          refine wpAnyH_take (i := 17) (oi := { dst := some 79, op := Op.move (Operand.tmp 78), type := 4, pos := "law.go:317", after := #[{ on := 16, ground := Ground.data }, { on := 8, ground := Ground.chain }], guard := none }) (v := ?vA17) rfl (by kernel_rfl) (by kernel_rfl) (by kernel_rfl) (fun _ _ _ h => h) (Or.inl ⟨by rfl, ?hyA17⟩) (by assumption) ?_
          case hyA17 => (intro W hSw; (try dsimp only at hSw); go_simp; (try with_reducible rfl))
          try simp only [Act.put, List.setIfInBounds_toArray, List.set_cons_zero, List.set_cons_succ]
          refine wpAnyH_take (i := 18) (oi := { dst := some 80, op := Op.move (Operand.tmp 13), type := 38, pos := "law.go:317", after := #[{ on := 17, ground := Ground.guard }], guard := some (17, true) }) (v := undef) rfl (by kernel_rfl) (by kernel_rfl) (by kernel_rfl) (fun _ _ _ h => h) (Or.inr ⟨by rfl, rfl⟩) (by assumption) ?_
          try simp only [Act.put, List.setIfInBounds_toArray, List.set_cons_zero, List.set_cons_succ]
          refine wpAnyH_take (i := 19) (oi := { dst := some 81, op := Op.move (Operand.tmp 16), type := 3, pos := "law.go:317", after := #[{ on := 17, ground := Ground.guard }], guard := some (17, true) }) (v := undef) rfl (by kernel_rfl) (by kernel_rfl) (by kernel_rfl) (fun _ _ _ h => h) (Or.inr ⟨by rfl, rfl⟩) (by assumption) ?_
          try simp only [Act.put, List.setIfInBounds_toArray, List.set_cons_zero, List.set_cons_succ]
          refine wpAnyH_take (i := 20) (oi := { dst := some 82, op := Op.indexAddr 38 (Operand.tmp 80) (Operand.tmp 81), type := 0, pos := "law.go:317", after := #[{ on := 18, ground := Ground.data }, { on := 19, ground := Ground.data }, { on := 17, ground := Ground.guard }], guard := some (17, true) }) (v := undef) rfl (by kernel_rfl) (by kernel_rfl) (by kernel_rfl) (fun _ _ _ h => h) (Or.inr ⟨by rfl, rfl⟩) (by assumption) ?_
          try simp only [Act.put, List.setIfInBounds_toArray, List.set_cons_zero, List.set_cons_succ]
          refine wpAnyH_take (i := 21) (oi := { dst := some 83, op := Op.fieldAddr 46 (Operand.tmp 82) 1, type := 0, pos := "law.go:317", after := #[{ on := 20, ground := Ground.data }, { on := 17, ground := Ground.guard }], guard := some (17, true) }) (v := undef) rfl (by kernel_rfl) (by kernel_rfl) (by kernel_rfl) (fun _ _ _ h => h) (Or.inr ⟨by rfl, rfl⟩) (by assumption) ?_
          try simp only [Act.put, List.setIfInBounds_toArray, List.set_cons_zero, List.set_cons_succ]
          refine wpAnyH_take (i := 22) (oi := { dst := some 84, op := Op.indexAddr 24 (Operand.tmp 83) (Operand.const (Value.int IntKind.i64 0)), type := 0, pos := "law.go:317", after := #[{ on := 21, ground := Ground.data }, { on := 17, ground := Ground.guard }], guard := some (17, true) }) (v := undef) rfl (by kernel_rfl) (by kernel_rfl) (by kernel_rfl) (fun _ _ _ h => h) (Or.inr ⟨by rfl, rfl⟩) (by assumption) ?_
          try simp only [Act.put, List.setIfInBounds_toArray, List.set_cons_zero, List.set_cons_succ]
          refine wpAnyH_take (i := 23) (oi := { dst := some 85, op := Op.load 22 (Operand.tmp 84), type := 22, pos := "law.go:317", after := #[{ on := 22, ground := Ground.data }, { on := 17, ground := Ground.guard }], guard := some (17, true) }) (v := undef) rfl (by kernel_rfl) (by kernel_rfl) (by kernel_rfl) (fun _ _ _ h => h) (Or.inr ⟨by rfl, rfl⟩) (by assumption) ?_
          try simp only [Act.put, List.setIfInBounds_toArray, List.set_cons_zero, List.set_cons_succ]
          refine wpAnyH_take (i := 24) (oi := { dst := some 86, op := Op.indexAddr 24 (Operand.tmp 3) (Operand.const (Value.int IntKind.i64 0)), type := 0, pos := "law.go:317", after := #[{ on := 17, ground := Ground.guard }], guard := some (17, true) }) (v := undef) rfl (by kernel_rfl) (by kernel_rfl) (by kernel_rfl) (fun _ _ _ h => h) (Or.inr ⟨by rfl, rfl⟩) (by assumption) ?_
          try simp only [Act.put, List.setIfInBounds_toArray, List.set_cons_zero, List.set_cons_succ]
          refine wpAnyH_take (i := 25) (oi := { dst := some 87, op := Op.load 22 (Operand.tmp 86), type := 22, pos := "law.go:317", after := #[{ on := 24, ground := Ground.data }, { on := 17, ground := Ground.guard }], guard := some (17, true) }) (v := undef) rfl (by kernel_rfl) (by kernel_rfl) (by kernel_rfl) (fun _ _ _ h => h) (Or.inr ⟨by rfl, rfl⟩) (by assumption) ?_
          try simp only [Act.put, List.setIfInBounds_toArray, List.set_cons_zero, List.set_cons_succ]
          refine wpAnyH_take (i := 26) (oi := { dst := some 88, op := Op.binOp BinOp.and 22 (Operand.tmp 85) (Operand.tmp 87) 22, type := 22, pos := "law.go:317", after := #[{ on := 23, ground := Ground.data }, { on := 25, ground := Ground.data }, { on := 17, ground := Ground.guard }], guard := some (17, true) }) (v := undef) rfl (by kernel_rfl) (by kernel_rfl) (by kernel_rfl) (fun _ _ _ h => h) (Or.inr ⟨by rfl, rfl⟩) (by assumption) ?_
          try simp only [Act.put, List.setIfInBounds_toArray, List.set_cons_zero, List.set_cons_succ]
          refine wpAnyH_take (i := 27) (oi := { dst := some 89, op := Op.binOp BinOp.neq 22 (Operand.tmp 88) (Operand.const (Value.int IntKind.u64 0)) 22, type := 4, pos := "law.go:317", after := #[{ on := 26, ground := Ground.data }, { on := 17, ground := Ground.guard }], guard := some (17, true) }) (v := undef) rfl (by kernel_rfl) (by kernel_rfl) (by kernel_rfl) (fun _ _ _ h => h) (Or.inr ⟨by rfl, rfl⟩) (by assumption) ?_
          try simp only [Act.put, List.setIfInBounds_toArray, List.set_cons_zero, List.set_cons_succ]
          refine wpAnyH_take (i := 28) (oi := { dst := some 90, op := Op.move (Operand.tmp 89), type := 4, pos := "law.go:317", after := #[{ on := 27, ground := Ground.data }, { on := 17, ground := Ground.chain }, { on := 17, ground := Ground.guard }], guard := some (17, true) }) (v := undef) rfl (by kernel_rfl) (by kernel_rfl) (by kernel_rfl) (fun _ _ _ h => h) (Or.inr ⟨by rfl, rfl⟩) (by assumption) ?_
          try simp only [Act.put, List.setIfInBounds_toArray, List.set_cons_zero, List.set_cons_succ]
          refine wpAnyH_take (i := 29) (oi := { dst := some 91, op := Op.move (Operand.tmp 13), type := 38, pos := "law.go:317", after := #[{ on := 28, ground := Ground.guard }], guard := some (28, false) }) (v := undef) rfl (by kernel_rfl) (by kernel_rfl) (by kernel_rfl) (fun _ _ _ h => h) (Or.inr ⟨by rfl, rfl⟩) (by assumption) ?_
          try simp only [Act.put, List.setIfInBounds_toArray, List.set_cons_zero, List.set_cons_succ]
          refine wpAnyH_take (i := 30) (oi := { dst := some 92, op := Op.move (Operand.tmp 16), type := 3, pos := "law.go:317", after := #[{ on := 28, ground := Ground.guard }], guard := some (28, false) }) (v := undef) rfl (by kernel_rfl) (by kernel_rfl) (by kernel_rfl) (fun _ _ _ h => h) (Or.inr ⟨by rfl, rfl⟩) (by assumption) ?_
          try simp only [Act.put, List.setIfInBounds_toArray, List.set_cons_zero, List.set_cons_succ]
          refine wpAnyH_take (i := 31) (oi := { dst := some 93, op := Op.indexAddr 38 (Operand.tmp 91) (Operand.tmp 92), type := 0, pos := "law.go:317", after := #[{ on := 29, ground := Ground.data }, { on := 30, ground := Ground.data }, { on := 28, ground := Ground.guard }], guard := some (28, false) }) (v := undef) rfl (by kernel_rfl) (by kernel_rfl) (by kernel_rfl) (fun _ _ _ h => h) (Or.inr ⟨by rfl, rfl⟩) (by assumption) ?_
          try simp only [Act.put, List.setIfInBounds_toArray, List.set_cons_zero, List.set_cons_succ]
          refine wpAnyH_take (i := 32) (oi := { dst := some 94, op := Op.fieldAddr 46 (Operand.tmp 93) 1, type := 0, pos := "law.go:317", after := #[{ on := 31, ground := Ground.data }, { on := 28, ground := Ground.guard }], guard := some (28, false) }) (v := undef) rfl (by kernel_rfl) (by kernel_rfl) (by kernel_rfl) (fun _ _ _ h => h) (Or.inr ⟨by rfl, rfl⟩) (by assumption) ?_
          try simp only [Act.put, List.setIfInBounds_toArray, List.set_cons_zero, List.set_cons_succ]
          refine wpAnyH_take (i := 33) (oi := { dst := some 95, op := Op.indexAddr 24 (Operand.tmp 94) (Operand.const (Value.int IntKind.i64 1)), type := 0, pos := "law.go:317", after := #[{ on := 32, ground := Ground.data }, { on := 28, ground := Ground.guard }], guard := some (28, false) }) (v := undef) rfl (by kernel_rfl) (by kernel_rfl) (by kernel_rfl) (fun _ _ _ h => h) (Or.inr ⟨by rfl, rfl⟩) (by assumption) ?_
          try simp only [Act.put, List.setIfInBounds_toArray, List.set_cons_zero, List.set_cons_succ]
          refine wpAnyH_take (i := 34) (oi := { dst := some 96, op := Op.load 22 (Operand.tmp 95), type := 22, pos := "law.go:317", after := #[{ on := 33, ground := Ground.data }, { on := 28, ground := Ground.guard }], guard := some (28, false) }) (v := undef) rfl (by kernel_rfl) (by kernel_rfl) (by kernel_rfl) (fun _ _ _ h => h) (Or.inr ⟨by rfl, rfl⟩) (by assumption) ?_
          try simp only [Act.put, List.setIfInBounds_toArray, List.set_cons_zero, List.set_cons_succ]
          refine wpAnyH_take (i := 35) (oi := { dst := some 97, op := Op.indexAddr 24 (Operand.tmp 3) (Operand.const (Value.int IntKind.i64 1)), type := 0, pos := "law.go:317", after := #[{ on := 28, ground := Ground.guard }], guard := some (28, false) }) (v := undef) rfl (by kernel_rfl) (by kernel_rfl) (by kernel_rfl) (fun _ _ _ h => h) (Or.inr ⟨by rfl, rfl⟩) (by assumption) ?_
          try simp only [Act.put, List.setIfInBounds_toArray, List.set_cons_zero, List.set_cons_succ]
          refine wpAnyH_take (i := 36) (oi := { dst := some 98, op := Op.load 22 (Operand.tmp 97), type := 22, pos := "law.go:317", after := #[{ on := 35, ground := Ground.data }, { on := 28, ground := Ground.guard }], guard := some (28, false) }) (v := undef) rfl (by kernel_rfl) (by kernel_rfl) (by kernel_rfl) (fun _ _ _ h => h) (Or.inr ⟨by rfl, rfl⟩) (by assumption) ?_
          try simp only [Act.put, List.setIfInBounds_toArray, List.set_cons_zero, List.set_cons_succ]
          refine wpAnyH_take (i := 37) (oi := { dst := some 99, op := Op.binOp BinOp.and 22 (Operand.tmp 96) (Operand.tmp 98) 22, type := 22, pos := "law.go:317", after := #[{ on := 34, ground := Ground.data }, { on := 36, ground := Ground.data }, { on := 28, ground := Ground.guard }], guard := some (28, false) }) (v := undef) rfl (by kernel_rfl) (by kernel_rfl) (by kernel_rfl) (fun _ _ _ h => h) (Or.inr ⟨by rfl, rfl⟩) (by assumption) ?_
          try simp only [Act.put, List.setIfInBounds_toArray, List.set_cons_zero, List.set_cons_succ]
          refine wpAnyH_take (i := 38) (oi := { dst := some 100, op := Op.binOp BinOp.neq 22 (Operand.tmp 99) (Operand.const (Value.int IntKind.u64 0)) 22, type := 4, pos := "law.go:317", after := #[{ on := 37, ground := Ground.data }, { on := 28, ground := Ground.guard }], guard := some (28, false) }) (v := undef) rfl (by kernel_rfl) (by kernel_rfl) (by kernel_rfl) (fun _ _ _ h => h) (Or.inr ⟨by rfl, rfl⟩) (by assumption) ?_
          try simp only [Act.put, List.setIfInBounds_toArray, List.set_cons_zero, List.set_cons_succ]
          refine wpAnyH_take (i := 39) (oi := { dst := some 101, op := Op.pick (Operand.tmp 90) (Operand.const (Value.bool true)) (Operand.tmp 100), type := 4, pos := "law.go:317", after := #[{ on := 28, ground := Ground.data }, { on := 38, ground := Ground.data }, { on := 17, ground := Ground.guard }], guard := some (17, true) }) (v := undef) rfl (by kernel_rfl) (by kernel_rfl) (by kernel_rfl) (fun _ _ _ h => h) (Or.inr ⟨by rfl, rfl⟩) (by assumption) ?_
          try simp only [Act.put, List.setIfInBounds_toArray, List.set_cons_zero, List.set_cons_succ]
          refine wpAnyH_take (i := 40) (oi := { dst := some 102, op := Op.pick (Operand.tmp 79) (Operand.tmp 101) (Operand.const (Value.bool false)), type := 4, pos := "law.go:317", after := #[{ on := 17, ground := Ground.data }, { on := 39, ground := Ground.data }], guard := none }) (v := ?vA40) rfl (by kernel_rfl) (by kernel_rfl) (by kernel_rfl) (fun _ _ _ h => h) (Or.inl ⟨by rfl, ?hyA40⟩) (by assumption) ?_
          case hyA40 => (intro W hSw; (try dsimp only at hSw); go_simp; (try with_reducible rfl))
          try simp only [Act.put, List.setIfInBounds_toArray, List.set_cons_zero, List.set_cons_succ]
          refine wpAnyH_take (i := 41) (oi := { dst := some 103, op := Op.indexAddr 59 (Operand.tmp 14) (Operand.tmp 62), type := 0, pos := "law.go:317", after := #[{ on := 0, ground := Ground.data }, { on := 0, ground := Ground.phase }, { on := 1, ground := Ground.phase }, { on := 2, ground := Ground.phase }, { on := 3, ground := Ground.phase }, { on := 4, ground := Ground.phase }, { on := 5, ground := Ground.phase }, { on := 6, ground := Ground.phase }, { on := 7, ground := Ground.phase }, { on := 8, ground := Ground.phase }, { on := 9, ground := Ground.phase }, { on := 10, ground := Ground.phase }, { on := 11, ground := Ground.phase }, { on := 12, ground := Ground.phase }, { on := 13, ground := Ground.phase }, { on := 14, ground := Ground.phase }, { on := 15, ground := Ground.phase }, { on := 16, ground := Ground.phase }, { on := 17, ground := Ground.phase }, { on := 18, ground := Ground.phase }, { on := 19, ground := Ground.phase }, { on := 20, ground := Ground.phase }, { on := 21, ground := Ground.phase }, { on := 22, ground := Ground.phase }, { on := 23, ground := Ground.phase }, { on := 24, ground := Ground.phase }, { on := 25, ground := Ground.phase }, { on := 26, ground := Ground.phase }, { on := 27, ground := Ground.phase }, { on := 28, ground := Ground.phase }, { on := 29, ground := Ground.phase }, { on := 30, ground := Ground.phase }, { on := 31, ground := Ground.phase }, { on := 32, ground := Ground.phase }, { on := 33, ground := Ground.phase }, { on := 34, ground := Ground.phase }, { on := 35, ground := Ground.phase }, { on := 36, ground := Ground.phase }, { on := 37, ground := Ground.phase }, { on := 38, ground := Ground.phase }, { on := 39, ground := Ground.phase }, { on := 40, ground := Ground.phase }], guard := none }) (v := ?vA41) rfl (by kernel_rfl) (by kernel_rfl) (by kernel_rfl) (fun _ _ _ h => h) (Or.inl ⟨by rfl, ?hyA41⟩) (by assumption) ?_
          case hyA41 => (intro W hSw; (try dsimp only at hSw); go_simp; (try with_reducible rfl))
          try simp only [Act.put, List.setIfInBounds_toArray, List.set_cons_zero, List.set_cons_succ]
          refine wpAnyH_ready (rs := [42]) (by kernel_rfl) (by simp) ?_
          refine AllReadyH.cons (o := { dst := none, op := Op.store 4 (Operand.tmp 103) (Operand.tmp 102), type := 0, pos := "law.go:317", after := #[{ on := 41, ground := Ground.data }, { on := 40, ground := Ground.data }, { on := 28, ground := Ground.chain }, { on := 0, ground := Ground.phase }, { on := 1, ground := Ground.phase }, { on := 2, ground := Ground.phase }, { on := 3, ground := Ground.phase }, { on := 4, ground := Ground.phase }, { on := 5, ground := Ground.phase }, { on := 6, ground := Ground.phase }, { on := 7, ground := Ground.phase }, { on := 8, ground := Ground.phase }, { on := 9, ground := Ground.phase }, { on := 10, ground := Ground.phase }, { on := 11, ground := Ground.phase }, { on := 12, ground := Ground.phase }, { on := 13, ground := Ground.phase }, { on := 14, ground := Ground.phase }, { on := 15, ground := Ground.phase }, { on := 16, ground := Ground.phase }, { on := 17, ground := Ground.phase }, { on := 18, ground := Ground.phase }, { on := 19, ground := Ground.phase }, { on := 20, ground := Ground.phase }, { on := 21, ground := Ground.phase }, { on := 22, ground := Ground.phase }, { on := 23, ground := Ground.phase }, { on := 24, ground := Ground.phase }, { on := 25, ground := Ground.phase }, { on := 26, ground := Ground.phase }, { on := 27, ground := Ground.phase }, { on := 28, ground := Ground.phase }, { on := 29, ground := Ground.phase }, { on := 30, ground := Ground.phase }, { on := 31, ground := Ground.phase }, { on := 32, ground := Ground.phase }, { on := 33, ground := Ground.phase }, { on := 34, ground := Ground.phase }, { on := 35, ground := Ground.phase }, { on := 36, ground := Ground.phase }, { on := 37, ground := Ground.phase }, { on := 38, ground := Ground.phase }, { on := 39, ground := Ground.phase }, { on := 40, ground := Ground.phase }], guard := none }) rfl (fun K hK => ?_) AllReadyH.nil
          go_simp
          refine hK.out _ _ (by first | exact ⟨(kg _ _).trans c1, (kg _ _).trans c4, (kg _ _).trans c6, (kg _ _).trans c7, (kf _ _).trans f0, (kf _ _).trans f1⟩ | exact ⟨(kg2 _ _).trans c1, (kg2 _ _).trans c4, (kg2 _ _).trans c6, (kg2 _ _).trans c7, (kf2 _ _).trans f0, (kf2 _ _).trans f1⟩) (fun hHeld => ?_)
          clear hK K
          try simp only [Act.put, List.setIfInBounds_toArray, List.set_cons_zero, List.set_cons_succ]
          refine wpAnyH_done (by kernel_rfl) ?_ _
          have s9 := HS2.out false (by rw [HIV.out]; simp [Hd.lives, h2])
          clear HS2 kg kf kg2 kf2
          generalize (wr.setCell ⟨B1, j, none⟩ (.bool false)).drew = w9 at *
          obtain ⟨_, _, _, _, _, ⟨_, c1b, _, _, _⟩, _, _⟩ := HSL.out _ _ _ _ _ s9 j hlt
          rw [HHD.out] at c1b
          simp only at c1b
          have d2b : ∃ b, w9.cell? ⟨B2, j, none⟩ = some (.bool b) := ⟨_, (s9.cell 0 rfl j).trans (boolA_at (upTo_at _ j j hlt))⟩
          obtain ⟨z3, d2b⟩ := d2b
          have f2b := s9.frozen 0 rfl j
          have HE : Hid (St w [boxI B2 (boolA (upTo (fun s => (nowAt z0.hs s).sa == 2) (j + 1))) 59, boxI B1 (boolA (upTo (fun s => isVic z0.hs z0.ws ⟨r0, r1⟩ s) (j + 1))) 59, XX, ownI 46 8 (.slice (some ⟨g2, 0, none⟩) z0.hs.length cap2) z0.hs.length (slCells (slots z0.hs z0.ws)), lkI K A.t (Lk.new ⟨r0, r1⟩ 8 0) vl (.slice none 0 0) (.slice none 0 0), spI A (tbC 8) z0 v3 (.slice none 0 0), boxI F #[.int .u64 r0, .int .u64 r1] 24] (w9.setCell ⟨B2, j, none⟩ (.bool false))) := by
            have a1 := s9.write 0 rfl j (.bool false)
            have eb : (upTo (fun s => (nowAt z0.hs s).sa == 2) j).set j false = upTo (fun s => (nowAt z0.hs s).sa == 2) (j + 1) := by
              rw [← upTo_set (fun s => (nowAt z0.hs s).sa == 2) j hj1 hlt]
              simp only [HHD.out, h2]
            rw [boolA_set, eb] at a1
            exact a1
          clear s9 c0 c1 c4 c6 c7 f0 f1 d1 d2 f1'
          go_wp2
          go_roundw
          case rel => exact ⟨j + 1, by go_num, by omega, by omega, HE.out⟩
          case measure => simp [intOf]; omega
      | true =>
        cases hdm with
        | true =>
          as_aux_lemma =>
            go_upto_region 16 with fail
            refine wp_region_held_drew (S := fun W => W.cell? ⟨g2, j * 8 + 1, none⟩ = some (.int .i64 hsa) ∧ W.cell? ⟨g2, j * 8 + 4, none⟩ = some (.bool true) ∧ W.cell? ⟨g2, j * 8 + 6, none⟩ = some (.int .u64 (x0 : Nat)) ∧ W.cell? ⟨g2, j * 8 + 7, none⟩ = some (.int .u64 (x1 : Nat)) ∧ W.cell? ⟨F, 0, none⟩ = some (.int .u64 r0) ∧ W.cell? ⟨F, 1, none⟩ = some (.int .u64 r1)) (by kernel_rfl) ⟨c1, c4, c6, c7, f0, f1⟩ (fun hHeld => ?_)
            refine wpAnyH_take (i := 0) (oi := { dst := some 62, op := Op.move (Operand.tmp 16), type := 3, pos := "law.go:317", after := #[], guard := none }) (v := ?vB0) rfl (by kernel_rfl) (by kernel_rfl) (by kernel_rfl) (fun _ _ _ h => h) (Or.inl ⟨by rfl, ?hyB0⟩) (by assumption) ?_
            case hyB0 => (intro W hSw; (try dsimp only at hSw); go_simp; (try with_reducible rfl))
            try simp only [Act.put, List.setIfInBounds_toArray, List.set_cons_zero, List.set_cons_succ]
            refine wpAnyH_take (i := 1) (oi := { dst := some 63, op := Op.move (Operand.tmp 13), type := 38, pos := "law.go:317", after := #[], guard := none }) (v := ?vB1) rfl (by kernel_rfl) (by kernel_rfl) (by kernel_rfl) (fun _ _ _ h => h) (Or.inl ⟨by rfl, ?hyB1⟩) (by assumption) ?_
            case hyB1 => (intro W hSw; (try dsimp only at hSw); go_simp; (try with_reducible rfl))
            try simp only [Act.put, List.setIfInBounds_toArray, List.set_cons_zero, List.set_cons_succ]
            refine wpAnyH_take (i := 2) (oi := { dst := some 64, op := Op.move (Operand.tmp 16), type := 3, pos := "law.go:317", after := #[], guard := none }) (v := ?vB2) rfl (by kernel_rfl) (by kernel_rfl) (by kernel_rfl) (fun _ _ _ h => h) (Or.inl ⟨by rfl, ?hyB2⟩) (by assumption) ?_
            case hyB2 => (intro W hSw; (try dsimp only at hSw); go_simp; (try with_reducible rfl))
            try simp only [Act.put, List.setIfInBounds_toArray, List.set_cons_zero, List.set_cons_succ]
            refine wpAnyH_take (i := 3) (oi := { dst := some 65, op := Op.indexAddr 38 (Operand.tmp 63) (Operand.tmp 64), type := 0, pos := "law.go:317", after := #[{ on := 1, ground := Ground.data }, { on := 2, ground := Ground.data }], guard := none }) (v := ?vB3) rfl (by kernel_rfl) (by kernel_rfl) (by kernel_rfl) (fun _ _ _ h => h) (Or.inl ⟨by rfl, ?hyB3⟩) (by assumption) ?_
            case hyB3 => (intro W hSw; (try dsimp only at hSw); go_simp; (try with_reducible rfl))
            try simp only [Act.put, List.setIfInBounds_toArray, List.set_cons_zero, List.set_cons_succ]
            refine wpAnyH_take (i := 4) (oi := { dst := some 66, op := Op.fieldAddr 46 (Operand.tmp 65) 0, type := 0, pos := "law.go:317", after := #[{ on := 3, ground := Ground.data }], guard := none }) (v := ?vB4) rfl (by kernel_rfl) (by kernel_rfl) (by kernel_rfl) (fun _ _ _ h => h) (Or.inl ⟨by rfl, ?hyB4⟩) (by assumption) ?_
            case hyB4 => (intro W hSw; (try dsimp only at hSw); go_simp; (try with_reducible rfl))
            try simp only [Act.put, List.setIfInBounds_toArray, List.set_cons_zero, List.set_cons_succ]
            refine wpAnyH_take (i := 5) (oi := { dst := some 67, op := Op.fieldAddr 44 (Operand.tmp 66) 1, type := 0, pos := "law.go:317", after := #[{ on := 4, ground := Ground.data }], guard := none }) (v := ?vB5) rfl (by kernel_rfl) (by kernel_rfl) (by kernel_rfl) (fun _ _ _ h => h) (Or.inl ⟨by rfl, ?hyB5⟩) (by assumption) ?_
            case hyB5 => (intro W hSw; (try dsimp only at hSw); go_simp; (try with_reducible rfl))
            try simp only [Act.put, List.setIfInBounds_toArray, List.set_cons_zero, List.set_cons_succ]
            refine wpAnyH_take (i := 6) (oi := { dst := some 68, op := Op.load 3 (Operand.tmp 67), type := 3, pos := "law.go:317", after := #[{ on := 5, ground := Ground.data }], guard := none }) (v := ?vB6) rfl (by kernel_rfl) (by kernel_rfl) (by kernel_rfl) (fun _ _ _ h => h) (Or.inl ⟨by rfl, ?hyB6⟩) (by assumption) ?_
            case hyB6 => (intro W hSw; (try dsimp only at hSw); go_simp; (try with_reducible rfl))
            try simp only [Act.put, List.setIfInBounds_toArray, List.set_cons_zero, List.set_cons_succ]
            refine wpAnyH_take (i := 7) (oi := { dst := some 69, op := Op.binOp BinOp.eql 3 (Operand.tmp 68) (Operand.const (Value.int IntKind.i64 2)) 3, type := 4, pos := "law.go:317", after := #[{ on := 6, ground := Ground.data }], guard := none }) (v := ?vB7) rfl (by kernel_rfl) (by kernel_rfl) (by kernel_rfl) (fun _ _ _ h => h) (Or.inl ⟨by rfl, ?hyB7⟩) (by assumption) ?_
            case hyB7 => (intro W hSw; (try dsimp only at hSw); go_simp; (try with_reducible rfl))
            try simp only [Act.put, List.setIfInBounds_toArray, List.set_cons_zero, List.set_cons_succ]
            refine wpAnyH_take (i := 8) (oi := { dst := some 70, op := Op.move (Operand.tmp 69), type := 4, pos := "law.go:317", after := #[{ on := 7, ground := Ground.data }], guard := none }) (v := ?vB8) rfl (by kernel_rfl) (by kernel_rfl) (by kernel_rfl) (fun _ _ _ h => h) (Or.inl ⟨by rfl, ?hyB8⟩) (by assumption) ?_
            case hyB8 => (intro W hSw; (try dsimp only at hSw); go_simp; (try with_reducible rfl))
            try simp only [Act.put, List.setIfInBounds_toArray, List.set_cons_zero, List.set_cons_succ]
            refine wpAnyH_take (i := 9) (oi := { dst := some 71, op := Op.move (Operand.tmp 13), type := 38, pos := "law.go:317", after := #[{ on := 8, ground := Ground.guard }], guard := some (8, true) }) (v := ?vB9) rfl (by kernel_rfl) (by kernel_rfl) (by kernel_rfl) (fun _ _ _ h => h) (Or.inl ⟨by rfl, ?hyB9⟩) (by assumption) ?_
            case hyB9 => (intro W hSw; (try dsimp only at hSw); go_simp; (try with_reducible rfl))
            try simp only [Act.put, List.setIfInBounds_toArray, List.set_cons_zero, List.set_cons_succ]
            refine wpAnyH_take (i := 10) (oi := { dst := some 72, op := Op.move (Operand.tmp 16), type := 3, pos := "law.go:317", after := #[{ on := 8, ground := Ground.guard }], guard := some (8, true) }) (v := ?vB10) rfl (by kernel_rfl) (by kernel_rfl) (by kernel_rfl) (fun _ _ _ h => h) (Or.inl ⟨by rfl, ?hyB10⟩) (by assumption) ?_
            case hyB10 => (intro W hSw; (try dsimp only at hSw); go_simp; (try with_reducible rfl))
            try simp only [Act.put, List.setIfInBounds_toArray, List.set_cons_zero, List.set_cons_succ]
            refine wpAnyH_take (i := 11) (oi := { dst := some 73, op := Op.indexAddr 38 (Operand.tmp 71) (Operand.tmp 72), type := 0, pos := "law.go:317", after := #[{ on := 9, ground := Ground.data }, { on := 10, ground := Ground.data }, { on := 8, ground := Ground.guard }], guard := some (8, true) }) (v := ?vB11) rfl (by kernel_rfl) (by kernel_rfl) (by kernel_rfl) (fun _ _ _ h => h) (Or.inl ⟨by rfl, ?hyB11⟩) (by assumption) ?_
            case hyB11 => (intro W hSw; (try dsimp only at hSw); go_simp; (try with_reducible rfl))
            try simp only [Act.put, List.setIfInBounds_toArray, List.set_cons_zero, List.set_cons_succ]
            refine wpAnyH_take (i := 12) (oi := { dst := some 74, op := Op.fieldAddr 46 (Operand.tmp 73) 0, type := 0, pos := "law.go:317", after := #[{ on := 11, ground := Ground.data }, { on := 8, ground := Ground.guard }], guard := some (8, true) }) (v := ?vB12) rfl (by kernel_rfl) (by kernel_rfl) (by kernel_rfl) (fun _ _ _ h => h) (Or.inl ⟨by rfl, ?hyB12⟩) (by assumption) ?_
            case hyB12 => (intro W hSw; (try dsimp only at hSw); go_simp; (try with_reducible rfl))
            try simp only [Act.put, List.setIfInBounds_toArray, List.set_cons_zero, List.set_cons_succ]
            refine wpAnyH_take (i := 13) (oi := { dst := some 75, op := Op.fieldAddr 44 (Operand.tmp 74) 4, type := 0, pos := "law.go:317", after := #[{ on := 12, ground := Ground.data }, { on := 8, ground := Ground.guard }], guard := some (8, true) }) (v := ?vB13) rfl (by kernel_rfl) (by kernel_rfl) (by kernel_rfl) (fun _ _ _ h => h) (Or.inl ⟨by rfl, ?hyB13⟩) (by assumption) ?_
            case hyB13 => (intro W hSw; (try dsimp only at hSw); go_simp; (try with_reducible rfl))
            try simp only [Act.put, List.setIfInBounds_toArray, List.set_cons_zero, List.set_cons_succ]
            refine wpAnyH_take (i := 14) (oi := { dst := some 76, op := Op.load 4 (Operand.tmp 75), type := 4, pos := "law.go:317", after := #[{ on := 13, ground := Ground.data }, { on := 8, ground := Ground.guard }], guard := some (8, true) }) (v := ?vB14) rfl (by kernel_rfl) (by kernel_rfl) (by kernel_rfl) (fun _ _ _ h => h) (Or.inl ⟨by rfl, ?hyB14⟩) (by assumption) ?_
            case hyB14 => (intro W hSw; (try dsimp only at hSw); go_simp; (try with_reducible rfl))
            try simp only [Act.put, List.setIfInBounds_toArray, List.set_cons_zero, List.set_cons_succ]
            refine wpAnyH_take (i := 15) (oi := { dst := some 77, op := Op.unOp UnOp.not 4 (Operand.tmp 76), type := 4, pos := "law.go:317", after := #[{ on := 14, ground := Ground.data }, { on := 8, ground := Ground.guard }], guard := some (8, true) }) (v := ?vB15) rfl (by kernel_rfl) (by kernel_rfl) (by kernel_rfl) (fun _ _ _ h => h) (Or.inl ⟨by rfl, ?hyB15⟩) (by assumption) ?_
            case hyB15 => (intro W hSw; (try dsimp only at hSw); go_simp; (try with_reducible rfl))
            try simp only [Act.put, List.setIfInBounds_toArray, List.set_cons_zero, List.set_cons_succ]
            refine wpAnyH_take (i := 16) (oi := { dst := some 78, op := Op.pick (Operand.tmp 70) (Operand.tmp 77) (Operand.const (Value.bool false)), type := 4, pos := "law.go:317", after := #[{ on := 8, ground := Ground.data }, { on := 15, ground := Ground.data }], guard := none }) (v := ?vB16) rfl (by kernel_rfl) (by kernel_rfl) (by kernel_rfl) (fun _ _ _ h => h) (Or.inl ⟨by rfl, ?hyB16⟩) (by assumption) ?_
            case hyB16 => (intro W hSw; (try dsimp only at hSw); go_simp; (try with_reducible rfl))
            try simp only [Act.put, List.setIfInBounds_toArray, List.set_cons_zero, List.set_cons_succ]
            refine wpAnyH_take (i := 17) (oi := { dst := some 79, op := Op.move (Operand.tmp 78), type := 4, pos := "law.go:317", after := #[{ on := 16, ground := Ground.data }, { on := 8, ground := Ground.chain }], guard := none }) (v := ?vB17) rfl (by kernel_rfl) (by kernel_rfl) (by kernel_rfl) (fun _ _ _ h => h) (Or.inl ⟨by rfl, ?hyB17⟩) (by assumption) ?_
            case hyB17 => (intro W hSw; (try dsimp only at hSw); go_simp; (try with_reducible rfl))
            try simp only [Act.put, List.setIfInBounds_toArray, List.set_cons_zero, List.set_cons_succ]
            refine wpAnyH_take (i := 18) (oi := { dst := some 80, op := Op.move (Operand.tmp 13), type := 38, pos := "law.go:317", after := #[{ on := 17, ground := Ground.guard }], guard := some (17, true) }) (v := undef) rfl (by kernel_rfl) (by kernel_rfl) (by kernel_rfl) (fun _ _ _ h => h) (Or.inr ⟨by rfl, rfl⟩) (by assumption) ?_
            try simp only [Act.put, List.setIfInBounds_toArray, List.set_cons_zero, List.set_cons_succ]
            refine wpAnyH_take (i := 19) (oi := { dst := some 81, op := Op.move (Operand.tmp 16), type := 3, pos := "law.go:317", after := #[{ on := 17, ground := Ground.guard }], guard := some (17, true) }) (v := undef) rfl (by kernel_rfl) (by kernel_rfl) (by kernel_rfl) (fun _ _ _ h => h) (Or.inr ⟨by rfl, rfl⟩) (by assumption) ?_
            try simp only [Act.put, List.setIfInBounds_toArray, List.set_cons_zero, List.set_cons_succ]
            refine wpAnyH_take (i := 20) (oi := { dst := some 82, op := Op.indexAddr 38 (Operand.tmp 80) (Operand.tmp 81), type := 0, pos := "law.go:317", after := #[{ on := 18, ground := Ground.data }, { on := 19, ground := Ground.data }, { on := 17, ground := Ground.guard }], guard := some (17, true) }) (v := undef) rfl (by kernel_rfl) (by kernel_rfl) (by kernel_rfl) (fun _ _ _ h => h) (Or.inr ⟨by rfl, rfl⟩) (by assumption) ?_
            try simp only [Act.put, List.setIfInBounds_toArray, List.set_cons_zero, List.set_cons_succ]
            refine wpAnyH_take (i := 21) (oi := { dst := some 83, op := Op.fieldAddr 46 (Operand.tmp 82) 1, type := 0, pos := "law.go:317", after := #[{ on := 20, ground := Ground.data }, { on := 17, ground := Ground.guard }], guard := some (17, true) }) (v := undef) rfl (by kernel_rfl) (by kernel_rfl) (by kernel_rfl) (fun _ _ _ h => h) (Or.inr ⟨by rfl, rfl⟩) (by assumption) ?_
            try simp only [Act.put, List.setIfInBounds_toArray, List.set_cons_zero, List.set_cons_succ]
            refine wpAnyH_take (i := 22) (oi := { dst := some 84, op := Op.indexAddr 24 (Operand.tmp 83) (Operand.const (Value.int IntKind.i64 0)), type := 0, pos := "law.go:317", after := #[{ on := 21, ground := Ground.data }, { on := 17, ground := Ground.guard }], guard := some (17, true) }) (v := undef) rfl (by kernel_rfl) (by kernel_rfl) (by kernel_rfl) (fun _ _ _ h => h) (Or.inr ⟨by rfl, rfl⟩) (by assumption) ?_
            try simp only [Act.put, List.setIfInBounds_toArray, List.set_cons_zero, List.set_cons_succ]
            refine wpAnyH_take (i := 23) (oi := { dst := some 85, op := Op.load 22 (Operand.tmp 84), type := 22, pos := "law.go:317", after := #[{ on := 22, ground := Ground.data }, { on := 17, ground := Ground.guard }], guard := some (17, true) }) (v := undef) rfl (by kernel_rfl) (by kernel_rfl) (by kernel_rfl) (fun _ _ _ h => h) (Or.inr ⟨by rfl, rfl⟩) (by assumption) ?_
            try simp only [Act.put, List.setIfInBounds_toArray, List.set_cons_zero, List.set_cons_succ]
            refine wpAnyH_take (i := 24) (oi := { dst := some 86, op := Op.indexAddr 24 (Operand.tmp 3) (Operand.const (Value.int IntKind.i64 0)), type := 0, pos := "law.go:317", after := #[{ on := 17, ground := Ground.guard }], guard := some (17, true) }) (v := undef) rfl (by kernel_rfl) (by kernel_rfl) (by kernel_rfl) (fun _ _ _ h => h) (Or.inr ⟨by rfl, rfl⟩) (by assumption) ?_
            try simp only [Act.put, List.setIfInBounds_toArray, List.set_cons_zero, List.set_cons_succ]
            refine wpAnyH_take (i := 25) (oi := { dst := some 87, op := Op.load 22 (Operand.tmp 86), type := 22, pos := "law.go:317", after := #[{ on := 24, ground := Ground.data }, { on := 17, ground := Ground.guard }], guard := some (17, true) }) (v := undef) rfl (by kernel_rfl) (by kernel_rfl) (by kernel_rfl) (fun _ _ _ h => h) (Or.inr ⟨by rfl, rfl⟩) (by assumption) ?_
            try simp only [Act.put, List.setIfInBounds_toArray, List.set_cons_zero, List.set_cons_succ]
            refine wpAnyH_take (i := 26) (oi := { dst := some 88, op := Op.binOp BinOp.and 22 (Operand.tmp 85) (Operand.tmp 87) 22, type := 22, pos := "law.go:317", after := #[{ on := 23, ground := Ground.data }, { on := 25, ground := Ground.data }, { on := 17, ground := Ground.guard }], guard := some (17, true) }) (v := undef) rfl (by kernel_rfl) (by kernel_rfl) (by kernel_rfl) (fun _ _ _ h => h) (Or.inr ⟨by rfl, rfl⟩) (by assumption) ?_
            try simp only [Act.put, List.setIfInBounds_toArray, List.set_cons_zero, List.set_cons_succ]
            refine wpAnyH_take (i := 27) (oi := { dst := some 89, op := Op.binOp BinOp.neq 22 (Operand.tmp 88) (Operand.const (Value.int IntKind.u64 0)) 22, type := 4, pos := "law.go:317", after := #[{ on := 26, ground := Ground.data }, { on := 17, ground := Ground.guard }], guard := some (17, true) }) (v := undef) rfl (by kernel_rfl) (by kernel_rfl) (by kernel_rfl) (fun _ _ _ h => h) (Or.inr ⟨by rfl, rfl⟩) (by assumption) ?_
            try simp only [Act.put, List.setIfInBounds_toArray, List.set_cons_zero, List.set_cons_succ]
            refine wpAnyH_take (i := 28) (oi := { dst := some 90, op := Op.move (Operand.tmp 89), type := 4, pos := "law.go:317", after := #[{ on := 27, ground := Ground.data }, { on := 17, ground := Ground.chain }, { on := 17, ground := Ground.guard }], guard := some (17, true) }) (v := undef) rfl (by kernel_rfl) (by kernel_rfl) (by kernel_rfl) (fun _ _ _ h => h) (Or.inr ⟨by rfl, rfl⟩) (by assumption) ?_
            try simp only [Act.put, List.setIfInBounds_toArray, List.set_cons_zero, List.set_cons_succ]
            refine wpAnyH_take (i := 29) (oi := { dst := some 91, op := Op.move (Operand.tmp 13), type := 38, pos := "law.go:317", after := #[{ on := 28, ground := Ground.guard }], guard := some (28, false) }) (v := undef) rfl (by kernel_rfl) (by kernel_rfl) (by kernel_rfl) (fun _ _ _ h => h) (Or.inr ⟨by rfl, rfl⟩) (by assumption) ?_
            try simp only [Act.put, List.setIfInBounds_toArray, List.set_cons_zero, List.set_cons_succ]
            refine wpAnyH_take (i := 30) (oi := { dst := some 92, op := Op.move (Operand.tmp 16), type := 3, pos := "law.go:317", after := #[{ on := 28, ground := Ground.guard }], guard := some (28, false) }) (v := undef) rfl (by kernel_rfl) (by kernel_rfl) (by kernel_rfl) (fun _ _ _ h => h) (Or.inr ⟨by rfl, rfl⟩) (by assumption) ?_
            try simp only [Act.put, List.setIfInBounds_toArray, List.set_cons_zero, List.set_cons_succ]
            refine wpAnyH_take (i := 31) (oi := { dst := some 93, op := Op.indexAddr 38 (Operand.tmp 91) (Operand.tmp 92), type := 0, pos := "law.go:317", after := #[{ on := 29, ground := Ground.data }, { on := 30, ground := Ground.data }, { on := 28, ground := Ground.guard }], guard := some (28, false) }) (v := undef) rfl (by kernel_rfl) (by kernel_rfl) (by kernel_rfl) (fun _ _ _ h => h) (Or.inr ⟨by rfl, rfl⟩) (by assumption) ?_
            try simp only [Act.put, List.setIfInBounds_toArray, List.set_cons_zero, List.set_cons_succ]
            refine wpAnyH_take (i := 32) (oi := { dst := some 94, op := Op.fieldAddr 46 (Operand.tmp 93) 1, type := 0, pos := "law.go:317", after := #[{ on := 31, ground := Ground.data }, { on := 28, ground := Ground.guard }], guard := some (28, false) }) (v := undef) rfl (by kernel_rfl) (by kernel_rfl) (by kernel_rfl) (fun _ _ _ h => h) (Or.inr ⟨by rfl, rfl⟩) (by assumption) ?_
            try simp only [Act.put, List.setIfInBounds_toArray, List.set_cons_zero, List.set_cons_succ]
            refine wpAnyH_take (i := 33) (oi := { dst := some 95, op := Op.indexAddr 24 (Operand.tmp 94) (Operand.const (Value.int IntKind.i64 1)), type := 0, pos := "law.go:317", after := #[{ on := 32, ground := Ground.data }, { on := 28, ground := Ground.guard }], guard := some (28, false) }) (v := undef) rfl (by kernel_rfl) (by kernel_rfl) (by kernel_rfl) (fun _ _ _ h => h) (Or.inr ⟨by rfl, rfl⟩) (by assumption) ?_
            try simp only [Act.put, List.setIfInBounds_toArray, List.set_cons_zero, List.set_cons_succ]
            refine wpAnyH_take (i := 34) (oi := { dst := some 96, op := Op.load 22 (Operand.tmp 95), type := 22, pos := "law.go:317", after := #[{ on := 33, ground := Ground.data }, { on := 28, ground := Ground.guard }], guard := some (28, false) }) (v := undef) rfl (by kernel_rfl) (by kernel_rfl) (by kernel_rfl) (fun _ _ _ h => h) (Or.inr ⟨by rfl, rfl⟩) (by assumption) ?_
            try simp only [Act.put, List.setIfInBounds_toArray, List.set_cons_zero, List.set_cons_succ]
            refine wpAnyH_take (i := 35) (oi := { dst := some 97, op := Op.indexAddr 24 (Operand.tmp 3) (Operand.const (Value.int IntKind.i64 1)), type := 0, pos := "law.go:317", after := #[{ on := 28, ground := Ground.guard }], guard := some (28, false) }) (v := undef) rfl (by kernel_rfl) (by kernel_rfl) (by kernel_rfl) (fun _ _ _ h => h) (Or.inr ⟨by rfl, rfl⟩) (by assumption) ?_
            try simp only [Act.put, List.setIfInBounds_toArray, List.set_cons_zero, List.set_cons_succ]
            refine wpAnyH_take (i := 36) (oi := { dst := some 98, op := Op.load 22 (Operand.tmp 97), type := 22, pos := "law.go:317", after := #[{ on := 35, ground := Ground.data }, { on := 28, ground := Ground.guard }], guard := some (28, false) }) (v := undef) rfl (by kernel_rfl) (by kernel_rfl) (by kernel_rfl) (fun _ _ _ h => h) (Or.inr ⟨by rfl, rfl⟩) (by assumption) ?_
            try simp only [Act.put, List.setIfInBounds_toArray, List.set_cons_zero, List.set_cons_succ]
            refine wpAnyH_take (i := 37) (oi := { dst := some 99, op := Op.binOp BinOp.and 22 (Operand.tmp 96) (Operand.tmp 98) 22, type := 22, pos := "law.go:317", after := #[{ on := 34, ground := Ground.data }, { on := 36, ground := Ground.data }, { on := 28, ground := Ground.guard }], guard := some (28, false) }) (v := undef) rfl (by kernel_rfl) (by kernel_rfl) (by kernel_rfl) (fun _ _ _ h => h) (Or.inr ⟨by rfl, rfl⟩) (by assumption) ?_
            try simp only [Act.put, List.setIfInBounds_toArray, List.set_cons_zero, List.set_cons_succ]
            refine wpAnyH_take (i := 38) (oi := { dst := some 100, op := Op.binOp BinOp.neq 22 (Operand.tmp 99) (Operand.const (Value.int IntKind.u64 0)) 22, type := 4, pos := "law.go:317", after := #[{ on := 37, ground := Ground.data }, { on := 28, ground := Ground.guard }], guard := some (28, false) }) (v := undef) rfl (by kernel_rfl) (by kernel_rfl) (by kernel_rfl) (fun _ _ _ h => h) (Or.inr ⟨by rfl, rfl⟩) (by assumption) ?_
            try simp only [Act.put, List.setIfInBounds_toArray, List.set_cons_zero, List.set_cons_succ]
            refine wpAnyH_take (i := 39) (oi := { dst := some 101, op := Op.pick (Operand.tmp 90) (Operand.const (Value.bool true)) (Operand.tmp 100), type := 4, pos := "law.go:317", after := #[{ on := 28, ground := Ground.data }, { on := 38, ground := Ground.data }, { on := 17, ground := Ground.guard }], guard := some (17, true) }) (v := undef) rfl (by kernel_rfl) (by kernel_rfl) (by kernel_rfl) (fun _ _ _ h => h) (Or.inr ⟨by rfl, rfl⟩) (by assumption) ?_
            try simp only [Act.put, List.setIfInBounds_toArray, List.set_cons_zero, List.set_cons_succ]
            refine wpAnyH_take (i := 40) (oi := { dst := some 102, op := Op.pick (Operand.tmp 79) (Operand.tmp 101) (Operand.const (Value.bool false)), type := 4, pos := "law.go:317", after := #[{ on := 17, ground := Ground.data }, { on := 39, ground := Ground.data }], guard := none }) (v := ?vB40) rfl (by kernel_rfl) (by kernel_rfl) (by kernel_rfl) (fun _ _ _ h => h) (Or.inl ⟨by rfl, ?hyB40⟩) (by assumption) ?_
            case hyB40 => (intro W hSw; (try dsimp only at hSw); go_simp; (try with_reducible rfl))
            try simp only [Act.put, List.setIfInBounds_toArray, List.set_cons_zero, List.set_cons_succ]
            refine wpAnyH_take (i := 41) (oi := { dst := some 103, op := Op.indexAddr 59 (Operand.tmp 14) (Operand.tmp 62), type := 0, pos := "law.go:317", after := #[{ on := 0, ground := Ground.data }, { on := 0, ground := Ground.phase }, { on := 1, ground := Ground.phase }, { on := 2, ground := Ground.phase }, { on := 3, ground := Ground.phase }, { on := 4, ground := Ground.phase }, { on := 5, ground := Ground.phase }, { on := 6, ground := Ground.phase }, { on := 7, ground := Ground.phase }, { on := 8, ground := Ground.phase }, { on := 9, ground := Ground.phase }, { on := 10, ground := Ground.phase }, { on := 11, ground := Ground.phase }, { on := 12, ground := Ground.phase }, { on := 13, ground := Ground.phase }, { on := 14, ground := Ground.phase }, { on := 15, ground := Ground.phase }, { on := 16, ground := Ground.phase }, { on := 17, ground := Ground.phase }, { on := 18, ground := Ground.phase }, { on := 19, ground := Ground.phase }, { on := 20, ground := Ground.phase }, { on := 21, ground := Ground.phase }, { on := 22, ground := Ground.phase }, { on := 23, ground := Ground.phase }, { on := 24, ground := Ground.phase }, { on := 25, ground := Ground.phase }, { on := 26, ground := Ground.phase }, { on := 27, ground := Ground.phase }, { on := 28, ground := Ground.phase }, { on := 29, ground := Ground.phase }, { on := 30, ground := Ground.phase }, { on := 31, ground := Ground.phase }, { on := 32, ground := Ground.phase }, { on := 33, ground := Ground.phase }, { on := 34, ground := Ground.phase }, { on := 35, ground := Ground.phase }, { on := 36, ground := Ground.phase }, { on := 37, ground := Ground.phase }, { on := 38, ground := Ground.phase }, { on := 39, ground := Ground.phase }, { on := 40, ground := Ground.phase }], guard := none }) (v := ?vB41) rfl (by kernel_rfl) (by kernel_rfl) (by kernel_rfl) (fun _ _ _ h => h) (Or.inl ⟨by rfl, ?hyB41⟩) (by assumption) ?_
            case hyB41 => (intro W hSw; (try dsimp only at hSw); go_simp; (try with_reducible rfl))
            try simp only [Act.put, List.setIfInBounds_toArray, List.set_cons_zero, List.set_cons_succ]
            refine wpAnyH_ready (rs := [42]) (by kernel_rfl) (by simp) ?_
            refine AllReadyH.cons (o := { dst := none, op := Op.store 4 (Operand.tmp 103) (Operand.tmp 102), type := 0, pos := "law.go:317", after := #[{ on := 41, ground := Ground.data }, { on := 40, ground := Ground.data }, { on := 28, ground := Ground.chain }, { on := 0, ground := Ground.phase }, { on := 1, ground := Ground.phase }, { on := 2, ground := Ground.phase }, { on := 3, ground := Ground.phase }, { on := 4, ground := Ground.phase }, { on := 5, ground := Ground.phase }, { on := 6, ground := Ground.phase }, { on := 7, ground := Ground.phase }, { on := 8, ground := Ground.phase }, { on := 9, ground := Ground.phase }, { on := 10, ground := Ground.phase }, { on := 11, ground := Ground.phase }, { on := 12, ground := Ground.phase }, { on := 13, ground := Ground.phase }, { on := 14, ground := Ground.phase }, { on := 15, ground := Ground.phase }, { on := 16, ground := Ground.phase }, { on := 17, ground := Ground.phase }, { on := 18, ground := Ground.phase }, { on := 19, ground := Ground.phase }, { on := 20, ground := Ground.phase }, { on := 21, ground := Ground.phase }, { on := 22, ground := Ground.phase }, { on := 23, ground := Ground.phase }, { on := 24, ground := Ground.phase }, { on := 25, ground := Ground.phase }, { on := 26, ground := Ground.phase }, { on := 27, ground := Ground.phase }, { on := 28, ground := Ground.phase }, { on := 29, ground := Ground.phase }, { on := 30, ground := Ground.phase }, { on := 31, ground := Ground.phase }, { on := 32, ground := Ground.phase }, { on := 33, ground := Ground.phase }, { on := 34, ground := Ground.phase }, { on := 35, ground := Ground.phase }, { on := 36, ground := Ground.phase }, { on := 37, ground := Ground.phase }, { on := 38, ground := Ground.phase }, { on := 39, ground := Ground.phase }, { on := 40, ground := Ground.phase }], guard := none }) rfl (fun K hK => ?_) AllReadyH.nil
            go_simp
            refine hK.out _ _ (by first | exact ⟨(kg _ _).trans c1, (kg _ _).trans c4, (kg _ _).trans c6, (kg _ _).trans c7, (kf _ _).trans f0, (kf _ _).trans f1⟩ | exact ⟨(kg2 _ _).trans c1, (kg2 _ _).trans c4, (kg2 _ _).trans c6, (kg2 _ _).trans c7, (kf2 _ _).trans f0, (kf2 _ _).trans f1⟩) (fun hHeld => ?_)
            clear hK K
            try simp only [Act.put, List.setIfInBounds_toArray, List.set_cons_zero, List.set_cons_succ]
            refine wpAnyH_done (by kernel_rfl) ?_ _
            have s9 := HS2.out false (by rw [HIV.out]; simp [Hd.lives, h2])
            clear HS2 kg kf kg2 kf2
            generalize (wr.setCell ⟨B1, j, none⟩ (.bool false)).drew = w9 at *
            obtain ⟨_, _, _, _, _, ⟨_, c1b, _, _, _⟩, _, _⟩ := HSL.out _ _ _ _ _ s9 j hlt
            rw [HHD.out] at c1b
            simp only at c1b
            have d2b : ∃ b, w9.cell? ⟨B2, j, none⟩ = some (.bool b) := ⟨_, (s9.cell 0 rfl j).trans (boolA_at (upTo_at _ j j hlt))⟩
            obtain ⟨z3, d2b⟩ := d2b
            have f2b := s9.frozen 0 rfl j
            have HE : Hid (St w [boxI B2 (boolA (upTo (fun s => (nowAt z0.hs s).sa == 2) (j + 1))) 59, boxI B1 (boolA (upTo (fun s => isVic z0.hs z0.ws ⟨r0, r1⟩ s) (j + 1))) 59, XX, ownI 46 8 (.slice (some ⟨g2, 0, none⟩) z0.hs.length cap2) z0.hs.length (slCells (slots z0.hs z0.ws)), lkI K A.t (Lk.new ⟨r0, r1⟩ 8 0) vl (.slice none 0 0) (.slice none 0 0), spI A (tbC 8) z0 v3 (.slice none 0 0), boxI F #[.int .u64 r0, .int .u64 r1] 24] (w9.setCell ⟨B2, j, none⟩ (.bool true))) := by
              have a1 := s9.write 0 rfl j (.bool true)
              have eb : (upTo (fun s => (nowAt z0.hs s).sa == 2) j).set j true = upTo (fun s => (nowAt z0.hs s).sa == 2) (j + 1) := by
                rw [← upTo_set (fun s => (nowAt z0.hs s).sa == 2) j hj1 hlt]
                simp only [HHD.out, h2]
              rw [boolA_set, eb] at a1
              exact a1
            clear s9 c0 c1 c4 c6 c7 f0 f1 d1 d2 f1'
            go_wp2
            go_roundw
            case rel => exact ⟨j + 1, by go_num, by omega, by omega, HE.out⟩
            case measure => simp [intOf]; omega
        | false =>
          by_cases hn0 : x0 &&& r0 = 0
          · rw [hn0] at hA0
            by_cases hn1 : x1 &&& r1 = 0
            · as_aux_lemma =>
                rw [hn1] at hA1
                have hmt : (⟨x0, x1⟩ : Sg).meets ⟨r0, r1⟩ = false := by rw [meets_eq]; simp [hn0, hn1]
                go_upto_region 16 with fail
                refine wp_region_held_drew (S := fun W => W.cell? ⟨g2, j * 8 + 1, none⟩ = some (.int .i64 hsa) ∧ W.cell? ⟨g2, j * 8 + 4, none⟩ = some (.bool false) ∧ W.cell? ⟨g2, j * 8 + 6, none⟩ = some (.int .u64 (x0 : Nat)) ∧ W.cell? ⟨g2, j * 8 + 7, none⟩ = some (.int .u64 (x1 : Nat)) ∧ W.cell? ⟨F, 0, none⟩ = some (.int .u64 r0) ∧ W.cell? ⟨F, 1, none⟩ = some (.int .u64 r1)) (by kernel_rfl) ⟨c1, c4, c6, c7, f0, f1⟩ (fun hHeld => ?_)
                refine wpAnyH_take (i := 0) (oi := { dst := some 62, op := Op.move (Operand.tmp 16), type := 3, pos := "law.go:317", after := #[], guard := none }) (v := ?vE0) rfl (by kernel_rfl) (by kernel_rfl) (by kernel_rfl) (fun _ _ _ h => h) (Or.inl ⟨by rfl, ?hyE0⟩) (by assumption) ?_
                case hyE0 => (intro W hSw; (try dsimp only at hSw); go_simp; (try with_reducible rfl))
                try simp only [Act.put, List.setIfInBounds_toArray, List.set_cons_zero, List.set_cons_succ]
                refine wpAnyH_take (i := 1) (oi := { dst := some 63, op := Op.move (Operand.tmp 13), type := 38, pos := "law.go:317", after := #[], guard := none }) (v := ?vE1) rfl (by kernel_rfl) (by kernel_rfl) (by kernel_rfl) (fun _ _ _ h => h) (Or.inl ⟨by rfl, ?hyE1⟩) (by assumption) ?_
                case hyE1 => (intro W hSw; (try dsimp only at hSw); go_simp; (try with_reducible rfl))
                try simp only [Act.put, List.setIfInBounds_toArray, List.set_cons_zero, List.set_cons_succ]
                refine wpAnyH_take (i := 2) (oi := { dst := some 64, op := Op.move (Operand.tmp 16), type := 3, pos := "law.go:317", after := #[], guard := none }) (v := ?vE2) rfl (by kernel_rfl) (by kernel_rfl) (by kernel_rfl) (fun _ _ _ h => h) (Or.inl ⟨by rfl, ?hyE2⟩) (by assumption) ?_
                case hyE2 => (intro W hSw; (try dsimp only at hSw); go_simp; (try with_reducible rfl))
                try simp only [Act.put, List.setIfInBounds_toArray, List.set_cons_zero, List.set_cons_succ]
                refine wpAnyH_take (i := 3) (oi := { dst := some 65, op := Op.indexAddr 38 (Operand.tmp 63) (Operand.tmp 64), type := 0, pos := "law.go:317", after := #[{ on := 1, ground := Ground.data }, { on := 2, ground := Ground.data }], guard := none }) (v := ?vE3) rfl (by kernel_rfl) (by kernel_rfl) (by kernel_rfl) (fun _ _ _ h => h) (Or.inl ⟨by rfl, ?hyE3⟩) (by assumption) ?_
                case hyE3 => (intro W hSw; (try dsimp only at hSw); go_simp; (try with_reducible rfl))
                try simp only [Act.put, List.setIfInBounds_toArray, List.set_cons_zero, List.set_cons_succ]
                refine wpAnyH_take (i := 4) (oi := { dst := some 66, op := Op.fieldAddr 46 (Operand.tmp 65) 0, type := 0, pos := "law.go:317", after := #[{ on := 3, ground := Ground.data }], guard := none }) (v := ?vE4) rfl (by kernel_rfl) (by kernel_rfl) (by kernel_rfl) (fun _ _ _ h => h) (Or.inl ⟨by rfl, ?hyE4⟩) (by assumption) ?_
                case hyE4 => (intro W hSw; (try dsimp only at hSw); go_simp; (try with_reducible rfl))
                try simp only [Act.put, List.setIfInBounds_toArray, List.set_cons_zero, List.set_cons_succ]
                refine wpAnyH_take (i := 5) (oi := { dst := some 67, op := Op.fieldAddr 44 (Operand.tmp 66) 1, type := 0, pos := "law.go:317", after := #[{ on := 4, ground := Ground.data }], guard := none }) (v := ?vE5) rfl (by kernel_rfl) (by kernel_rfl) (by kernel_rfl) (fun _ _ _ h => h) (Or.inl ⟨by rfl, ?hyE5⟩) (by assumption) ?_
                case hyE5 => (intro W hSw; (try dsimp only at hSw); go_simp; (try with_reducible rfl))
                try simp only [Act.put, List.setIfInBounds_toArray, List.set_cons_zero, List.set_cons_succ]
                refine wpAnyH_take (i := 6) (oi := { dst := some 68, op := Op.load 3 (Operand.tmp 67), type := 3, pos := "law.go:317", after := #[{ on := 5, ground := Ground.data }], guard := none }) (v := ?vE6) rfl (by kernel_rfl) (by kernel_rfl) (by kernel_rfl) (fun _ _ _ h => h) (Or.inl ⟨by rfl, ?hyE6⟩) (by assumption) ?_
                case hyE6 => (intro W hSw; (try dsimp only at hSw); go_simp; (try with_reducible rfl))
                try simp only [Act.put, List.setIfInBounds_toArray, List.set_cons_zero, List.set_cons_succ]
                refine wpAnyH_take (i := 7) (oi := { dst := some 69, op := Op.binOp BinOp.eql 3 (Operand.tmp 68) (Operand.const (Value.int IntKind.i64 2)) 3, type := 4, pos := "law.go:317", after := #[{ on := 6, ground := Ground.data }], guard := none }) (v := ?vE7) rfl (by kernel_rfl) (by kernel_rfl) (by kernel_rfl) (fun _ _ _ h => h) (Or.inl ⟨by rfl, ?hyE7⟩) (by assumption) ?_
                case hyE7 => (intro W hSw; (try dsimp only at hSw); go_simp; (try with_reducible rfl))
                try simp only [Act.put, List.setIfInBounds_toArray, List.set_cons_zero, List.set_cons_succ]
                refine wpAnyH_take (i := 8) (oi := { dst := some 70, op := Op.move (Operand.tmp 69), type := 4, pos := "law.go:317", after := #[{ on := 7, ground := Ground.data }], guard := none }) (v := ?vE8) rfl (by kernel_rfl) (by kernel_rfl) (by kernel_rfl) (fun _ _ _ h => h) (Or.inl ⟨by rfl, ?hyE8⟩) (by assumption) ?_
                case hyE8 => (intro W hSw; (try dsimp only at hSw); go_simp; (try with_reducible rfl))
                try simp only [Act.put, List.setIfInBounds_toArray, List.set_cons_zero, List.set_cons_succ]
                refine wpAnyH_take (i := 9) (oi := { dst := some 71, op := Op.move (Operand.tmp 13), type := 38, pos := "law.go:317", after := #[{ on := 8, ground := Ground.guard }], guard := some (8, true) }) (v := ?vE9) rfl (by kernel_rfl) (by kernel_rfl) (by kernel_rfl) (fun _ _ _ h => h) (Or.inl ⟨by rfl, ?hyE9⟩) (by assumption) ?_
                case hyE9 => (intro W hSw; (try dsimp only at hSw); go_simp; (try with_reducible rfl))
                try simp only [Act.put, List.setIfInBounds_toArray, List.set_cons_zero, List.set_cons_succ]
                refine wpAnyH_take (i := 10) (oi := { dst := some 72, op := Op.move (Operand.tmp 16), type := 3, pos := "law.go:317", after := #[{ on := 8, ground := Ground.guard }], guard := some (8, true) }) (v := ?vE10) rfl (by kernel_rfl) (by kernel_rfl) (by kernel_rfl) (fun _ _ _ h => h) (Or.inl ⟨by rfl, ?hyE10⟩) (by assumption) ?_
                case hyE10 => (intro W hSw; (try dsimp only at hSw); go_simp; (try with_reducible rfl))
                try simp only [Act.put, List.setIfInBounds_toArray, List.set_cons_zero, List.set_cons_succ]
                refine wpAnyH_take (i := 11) (oi := { dst := some 73, op := Op.indexAddr 38 (Operand.tmp 71) (Operand.tmp 72), type := 0, pos := "law.go:317", after := #[{ on := 9, ground := Ground.data }, { on := 10, ground := Ground.data }, { on := 8, ground := Ground.guard }], guard := some (8, true) }) (v := ?vE11) rfl (by kernel_rfl) (by kernel_rfl) (by kernel_rfl) (fun _ _ _ h => h) (Or.inl ⟨by rfl, ?hyE11⟩) (by assumption) ?_
                case hyE11 => (intro W hSw; (try dsimp only at hSw); go_simp; (try with_reducible rfl))
                try simp only [Act.put, List.setIfInBounds_toArray, List.set_cons_zero, List.set_cons_succ]
                refine wpAnyH_take (i := 12) (oi := { dst := some 74, op := Op.fieldAddr 46 (Operand.tmp 73) 0, type := 0, pos := "law.go:317", after := #[{ on := 11, ground := Ground.data }, { on := 8, ground := Ground.guard }], guard := some (8, true) }) (v := ?vE12) rfl (by kernel_rfl) (by kernel_rfl) (by kernel_rfl) (fun _ _ _ h => h) (Or.inl ⟨by rfl, ?hyE12⟩) (by assumption) ?_
                case hyE12 => (intro W hSw; (try dsimp only at hSw); go_simp; (try with_reducible rfl))
                try simp only [Act.put, List.setIfInBounds_toArray, List.set_cons_zero, List.set_cons_succ]
                refine wpAnyH_take (i := 13) (oi := { dst := some 75, op := Op.fieldAddr 44 (Operand.tmp 74) 4, type := 0, pos := "law.go:317", after := #[{ on := 12, ground := Ground.data }, { on := 8, ground := Ground.guard }], guard := some (8, true) }) (v := ?vE13) rfl (by kernel_rfl) (by kernel_rfl) (by kernel_rfl) (fun _ _ _ h => h) (Or.inl ⟨by rfl, ?hyE13⟩) (by assumption) ?_
                case hyE13 => (intro W hSw; (try dsimp only at hSw); go_simp; (try with_reducible rfl))
                try simp only [Act.put, List.setIfInBounds_toArray, List.set_cons_zero, List.set_cons_succ]
                refine wpAnyH_take (i := 14) (oi := { dst := some 76, op := Op.load 4 (Operand.tmp 75), type := 4, pos := "law.go:317", after := #[{ on := 13, ground := Ground.data }, { on := 8, ground := Ground.guard }], guard := some (8, true) }) (v := ?vE14) rfl (by kernel_rfl) (by kernel_rfl) (by kernel_rfl) (fun _ _ _ h => h) (Or.inl ⟨by rfl, ?hyE14⟩) (by assumption) ?_
                case hyE14 => (intro W hSw; (try dsimp only at hSw); go_simp; (try with_reducible rfl))
                try simp only [Act.put, List.setIfInBounds_toArray, List.set_cons_zero, List.set_cons_succ]
                refine wpAnyH_take (i := 15) (oi := { dst := some 77, op := Op.unOp UnOp.not 4 (Operand.tmp 76), type := 4, pos := "law.go:317", after := #[{ on := 14, ground := Ground.data }, { on := 8, ground := Ground.guard }], guard := some (8, true) }) (v := ?vE15) rfl (by kernel_rfl) (by kernel_rfl) (by kernel_rfl) (fun _ _ _ h => h) (Or.inl ⟨by rfl, ?hyE15⟩) (by assumption) ?_
                case hyE15 => (intro W hSw; (try dsimp only at hSw); go_simp; (try with_reducible rfl))
                try simp only [Act.put, List.setIfInBounds_toArray, List.set_cons_zero, List.set_cons_succ]
                refine wpAnyH_take (i := 16) (oi := { dst := some 78, op := Op.pick (Operand.tmp 70) (Operand.tmp 77) (Operand.const (Value.bool false)), type := 4, pos := "law.go:317", after := #[{ on := 8, ground := Ground.data }, { on := 15, ground := Ground.data }], guard := none }) (v := ?vE16) rfl (by kernel_rfl) (by kernel_rfl) (by kernel_rfl) (fun _ _ _ h => h) (Or.inl ⟨by rfl, ?hyE16⟩) (by assumption) ?_
                case hyE16 => (intro W hSw; (try dsimp only at hSw); go_simp; (try with_reducible rfl))
                try simp only [Act.put, List.setIfInBounds_toArray, List.set_cons_zero, List.set_cons_succ]
                refine wpAnyH_take (i := 17) (oi := { dst := some 79, op := Op.move (Operand.tmp 78), type := 4, pos := "law.go:317", after := #[{ on := 16, ground := Ground.data }, { on := 8, ground := Ground.chain }], guard := none }) (v := ?vE17) rfl (by kernel_rfl) (by kernel_rfl) (by kernel_rfl) (fun _ _ _ h => h) (Or.inl ⟨by rfl, ?hyE17⟩) (by assumption) ?_
                case hyE17 => (intro W hSw; (try dsimp only at hSw); go_simp; (try with_reducible rfl))
                try simp only [Act.put, List.setIfInBounds_toArray, List.set_cons_zero, List.set_cons_succ]
                refine wpAnyH_take (i := 18) (oi := { dst := some 80, op := Op.move (Operand.tmp 13), type := 38, pos := "law.go:317", after := #[{ on := 17, ground := Ground.guard }], guard := some (17, true) }) (v := ?vE18) rfl (by kernel_rfl) (by kernel_rfl) (by kernel_rfl) (fun _ _ _ h => h) (Or.inl ⟨by rfl, ?hyE18⟩) (by assumption) ?_
                case hyE18 => (intro W hSw; (try dsimp only at hSw); go_simp; (try with_reducible rfl))
                try simp only [Act.put, List.setIfInBounds_toArray, List.set_cons_zero, List.set_cons_succ]
                refine wpAnyH_take (i := 19) (oi := { dst := some 81, op := Op.move (Operand.tmp 16), type := 3, pos := "law.go:317", after := #[{ on := 17, ground := Ground.guard }], guard := some (17, true) }) (v := ?vE19) rfl (by kernel_rfl) (by kernel_rfl) (by kernel_rfl) (fun _ _ _ h => h) (Or.inl ⟨by rfl, ?hyE19⟩) (by assumption) ?_
                case hyE19 => (intro W hSw; (try dsimp only at hSw); go_simp; (try with_reducible rfl))
                try simp only [Act.put, List.setIfInBounds_toArray, List.set_cons_zero, List.set_cons_succ]
                refine wpAnyH_take (i := 20) (oi := { dst := some 82, op := Op.indexAddr 38 (Operand.tmp 80) (Operand.tmp 81), type := 0, pos := "law.go:317", after := #[{ on := 18, ground := Ground.data }, { on := 19, ground := Ground.data }, { on := 17, ground := Ground.guard }], guard := some (17, true) }) (v := ?vE20) rfl (by kernel_rfl) (by kernel_rfl) (by kernel_rfl) (fun _ _ _ h => h) (Or.inl ⟨by rfl, ?hyE20⟩) (by assumption) ?_
                case hyE20 => (intro W hSw; (try dsimp only at hSw); go_simp; (try with_reducible rfl))
                try simp only [Act.put, List.setIfInBounds_toArray, List.set_cons_zero, List.set_cons_succ]
                refine wpAnyH_take (i := 21) (oi := { dst := some 83, op := Op.fieldAddr 46 (Operand.tmp 82) 1, type := 0, pos := "law.go:317", after := #[{ on := 20, ground := Ground.data }, { on := 17, ground := Ground.guard }], guard := some (17, true) }) (v := ?vE21) rfl (by kernel_rfl) (by kernel_rfl) (by kernel_rfl) (fun _ _ _ h => h) (Or.inl ⟨by rfl, ?hyE21⟩) (by assumption) ?_
                case hyE21 => (intro W hSw; (try dsimp only at hSw); go_simp; (try with_reducible rfl))
                try simp only [Act.put, List.setIfInBounds_toArray, List.set_cons_zero, List.set_cons_succ]
                refine wpAnyH_take (i := 22) (oi := { dst := some 84, op := Op.indexAddr 24 (Operand.tmp 83) (Operand.const (Value.int IntKind.i64 0)), type := 0, pos := "law.go:317", after := #[{ on := 21, ground := Ground.data }, { on := 17, ground := Ground.guard }], guard := some (17, true) }) (v := ?vE22) rfl (by kernel_rfl) (by kernel_rfl) (by kernel_rfl) (fun _ _ _ h => h) (Or.inl ⟨by rfl, ?hyE22⟩) (by assumption) ?_
                case hyE22 => (intro W hSw; (try dsimp only at hSw); go_simp; (try with_reducible rfl))
                try simp only [Act.put, List.setIfInBounds_toArray, List.set_cons_zero, List.set_cons_succ]
                refine wpAnyH_take (i := 23) (oi := { dst := some 85, op := Op.load 22 (Operand.tmp 84), type := 22, pos := "law.go:317", after := #[{ on := 22, ground := Ground.data }, { on := 17, ground := Ground.guard }], guard := some (17, true) }) (v := ?vE23) rfl (by kernel_rfl) (by kernel_rfl) (by kernel_rfl) (fun _ _ _ h => h) (Or.inl ⟨by rfl, ?hyE23⟩) (by assumption) ?_
                case hyE23 => (intro W hSw; (try dsimp only at hSw); go_simp; (try with_reducible rfl))
                try simp only [Act.put, List.setIfInBounds_toArray, List.set_cons_zero, List.set_cons_succ]
                refine wpAnyH_take (i := 24) (oi := { dst := some 86, op := Op.indexAddr 24 (Operand.tmp 3) (Operand.const (Value.int IntKind.i64 0)), type := 0, pos := "law.go:317", after := #[{ on := 17, ground := Ground.guard }], guard := some (17, true) }) (v := ?vE24) rfl (by kernel_rfl) (by kernel_rfl) (by kernel_rfl) (fun _ _ _ h => h) (Or.inl ⟨by rfl, ?hyE24⟩) (by assumption) ?_
                case hyE24 => (intro W hSw; (try dsimp only at hSw); go_simp; (try with_reducible rfl))
                try simp only [Act.put, List.setIfInBounds_toArray, List.set_cons_zero, List.set_cons_succ]
                refine wpAnyH_take (i := 25) (oi := { dst := some 87, op := Op.load 22 (Operand.tmp 86), type := 22, pos := "law.go:317", after := #[{ on := 24, ground := Ground.data }, { on := 17, ground := Ground.guard }], guard := some (17, true) }) (v := ?vE25) rfl (by kernel_rfl) (by kernel_rfl) (by kernel_rfl) (fun _ _ _ h => h) (Or.inl ⟨by rfl, ?hyE25⟩) (by assumption) ?_
                case hyE25 => (intro W hSw; (try dsimp only at hSw); go_simp; (try with_reducible rfl))
                try simp only [Act.put, List.setIfInBounds_toArray, List.set_cons_zero, List.set_cons_succ]
                refine wpAnyH_take (i := 26) (oi := { dst := some 88, op := Op.binOp BinOp.and 22 (Operand.tmp 85) (Operand.tmp 87) 22, type := 22, pos := "law.go:317", after := #[{ on := 23, ground := Ground.data }, { on := 25, ground := Ground.data }, { on := 17, ground := Ground.guard }], guard := some (17, true) }) (v := ?vE26) rfl (by kernel_rfl) (by kernel_rfl) (by kernel_rfl) (fun _ _ _ h => h) (Or.inl ⟨by rfl, ?hyE26⟩) (by assumption) ?_
                case hyE26 => (intro W hSw; (try dsimp only at hSw); go_simp; (try with_reducible rfl))
                try simp only [Act.put, List.setIfInBounds_toArray, List.set_cons_zero, List.set_cons_succ]
                refine wpAnyH_take (i := 27) (oi := { dst := some 89, op := Op.binOp BinOp.neq 22 (Operand.tmp 88) (Operand.const (Value.int IntKind.u64 0)) 22, type := 4, pos := "law.go:317", after := #[{ on := 26, ground := Ground.data }, { on := 17, ground := Ground.guard }], guard := some (17, true) }) (v := ?vE27) rfl (by kernel_rfl) (by kernel_rfl) (by kernel_rfl) (fun _ _ _ h => h) (Or.inl ⟨by rfl, ?hyE27⟩) (by assumption) ?_
                case hyE27 => (intro W hSw; (try dsimp only at hSw); go_simp; (try with_reducible rfl))
                try simp only [Act.put, List.setIfInBounds_toArray, List.set_cons_zero, List.set_cons_succ]
                refine wpAnyH_take (i := 28) (oi := { dst := some 90, op := Op.move (Operand.tmp 89), type := 4, pos := "law.go:317", after := #[{ on := 27, ground := Ground.data }, { on := 17, ground := Ground.chain }, { on := 17, ground := Ground.guard }], guard := some (17, true) }) (v := ?vE28) rfl (by kernel_rfl) (by kernel_rfl) (by kernel_rfl) (fun _ _ _ h => h) (Or.inl ⟨by rfl, ?hyE28⟩) (by assumption) ?_
                case hyE28 => (intro W hSw; (try dsimp only at hSw); go_simp; (try with_reducible rfl))
                try simp only [Act.put, List.setIfInBounds_toArray, List.set_cons_zero, List.set_cons_succ]
                refine wpAnyH_take (i := 29) (oi := { dst := some 91, op := Op.move (Operand.tmp 13), type := 38, pos := "law.go:317", after := #[{ on := 28, ground := Ground.guard }], guard := some (28, false) }) (v := ?vE29) rfl (by kernel_rfl) (by kernel_rfl) (by kernel_rfl) (fun _ _ _ h => h) (Or.inl ⟨by rfl, ?hyE29⟩) (by assumption) ?_
                case hyE29 => (intro W hSw; (try dsimp only at hSw); go_simp; (try with_reducible rfl))
                try simp only [Act.put, List.setIfInBounds_toArray, List.set_cons_zero, List.set_cons_succ]
                refine wpAnyH_take (i := 30) (oi := { dst := some 92, op := Op.move (Operand.tmp 16), type := 3, pos := "law.go:317", after := #[{ on := 28, ground := Ground.guard }], guard := some (28, false) }) (v := ?vE30) rfl (by kernel_rfl) (by kernel_rfl) (by kernel_rfl) (fun _ _ _ h => h) (Or.inl ⟨by rfl, ?hyE30⟩) (by assumption) ?_
                case hyE30 => (intro W hSw; (try dsimp only at hSw); go_simp; (try with_reducible rfl))
                try simp only [Act.put, List.setIfInBounds_toArray, List.set_cons_zero, List.set_cons_succ]
                refine wpAnyH_take (i := 31) (oi := { dst := some 93, op := Op.indexAddr 38 (Operand.tmp 91) (Operand.tmp 92), type := 0, pos := "law.go:317", after := #[{ on := 29, ground := Ground.data }, { on := 30, ground := Ground.data }, { on := 28, ground := Ground.guard }], guard := some (28, false) }) (v := ?vE31) rfl (by kernel_rfl) (by kernel_rfl) (by kernel_rfl) (fun _ _ _ h => h) (Or.inl ⟨by rfl, ?hyE31⟩) (by assumption) ?_
                case hyE31 => (intro W hSw; (try dsimp only at hSw); go_simp; (try with_reducible rfl))
                try simp only [Act.put, List.setIfInBounds_toArray, List.set_cons_zero, List.set_cons_succ]
                refine wpAnyH_take (i := 32) (oi := { dst := some 94, op := Op.fieldAddr 46 (Operand.tmp 93) 1, type := 0, pos := "law.go:317", after := #[{ on := 31, ground := Ground.data }, { on := 28, ground := Ground.guard }], guard := some (28, false) }) (v := ?vE32) rfl (by kernel_rfl) (by kernel_rfl) (by kernel_rfl) (fun _ _ _ h => h) (Or.inl ⟨by rfl, ?hyE32⟩) (by assumption) ?_
                case hyE32 => (intro W hSw; (try dsimp only at hSw); go_simp; (try with_reducible rfl))
                try simp only [Act.put, List.setIfInBounds_toArray, List.set_cons_zero, List.set_cons_succ]
                refine wpAnyH_take (i := 33) (oi := { dst := some 95, op := Op.indexAddr 24 (Operand.tmp 94) (Operand.const (Value.int IntKind.i64 1)), type := 0, pos := "law.go:317", after := #[{ on := 32, ground := Ground.data }, { on := 28, ground := Ground.guard }], guard := some (28, false) }) (v := ?vE33) rfl (by kernel_rfl) (by kernel_rfl) (by kernel_rfl) (fun _ _ _ h => h) (Or.inl ⟨by rfl, ?hyE33⟩) (by assumption) ?_
                case hyE33 => (intro W hSw; (try dsimp only at hSw); go_simp; (try with_reducible rfl))
                try simp only [Act.put, List.setIfInBounds_toArray, List.set_cons_zero, List.set_cons_succ]
                refine wpAnyH_take (i := 34) (oi := { dst := some 96, op := Op.load 22 (Operand.tmp 95), type := 22, pos := "law.go:317", after := #[{ on := 33, ground := Ground.data }, { on := 28, ground := Ground.guard }], guard := some (28, false) }) (v := ?vE34) rfl (by kernel_rfl) (by kernel_rfl) (by kernel_rfl) (fun _ _ _ h => h) (Or.inl ⟨by rfl, ?hyE34⟩) (by assumption) ?_
                case hyE34 => (intro W hSw; (try dsimp only at hSw); go_simp; (try with_reducible rfl))
                try simp only [Act.put, List.setIfInBounds_toArray, List.set_cons_zero, List.set_cons_succ]
                refine wpAnyH_take (i := 35) (oi := { dst := some 97, op := Op.indexAddr 24 (Operand.tmp 3) (Operand.const (Value.int IntKind.i64 1)), type := 0, pos := "law.go:317", after := #[{ on := 28, ground := Ground.guard }], guard := some (28, false) }) (v := ?vE35) rfl (by kernel_rfl) (by kernel_rfl) (by kernel_rfl) (fun _ _ _ h => h) (Or.inl ⟨by rfl, ?hyE35⟩) (by assumption) ?_
                case hyE35 => (intro W hSw; (try dsimp only at hSw); go_simp; (try with_reducible rfl))
                try simp only [Act.put, List.setIfInBounds_toArray, List.set_cons_zero, List.set_cons_succ]
                refine wpAnyH_take (i := 36) (oi := { dst := some 98, op := Op.load 22 (Operand.tmp 97), type := 22, pos := "law.go:317", after := #[{ on := 35, ground := Ground.data }, { on := 28, ground := Ground.guard }], guard := some (28, false) }) (v := ?vE36) rfl (by kernel_rfl) (by kernel_rfl) (by kernel_rfl) (fun _ _ _ h => h) (Or.inl ⟨by rfl, ?hyE36⟩) (by assumption) ?_
                case hyE36 => (intro W hSw; (try dsimp only at hSw); go_simp; (try with_reducible rfl))
                try simp only [Act.put, List.setIfInBounds_toArray, List.set_cons_zero, List.set_cons_succ]
                refine wpAnyH_take (i := 37) (oi := { dst := some 99, op := Op.binOp BinOp.and 22 (Operand.tmp 96) (Operand.tmp 98) 22, type := 22, pos := "law.go:317", after := #[{ on := 34, ground := Ground.data }, { on := 36, ground := Ground.data }, { on := 28, ground := Ground.guard }], guard := some (28, false) }) (v := ?vE37) rfl (by kernel_rfl) (by kernel_rfl) (by kernel_rfl) (fun _ _ _ h => h) (Or.inl ⟨by rfl, ?hyE37⟩) (by assumption) ?_
                case hyE37 => (intro W hSw; (try dsimp only at hSw); go_simp; (try with_reducible rfl))
                try simp only [Act.put, List.setIfInBounds_toArray, List.set_cons_zero, List.set_cons_succ]
                refine wpAnyH_take (i := 38) (oi := { dst := some 100, op := Op.binOp BinOp.neq 22 (Operand.tmp 99) (Operand.const (Value.int IntKind.u64 0)) 22, type := 4, pos := "law.go:317", after := #[{ on := 37, ground := Ground.data }, { on := 28, ground := Ground.guard }], guard := some (28, false) }) (v := ?vE38) rfl (by kernel_rfl) (by kernel_rfl) (by kernel_rfl) (fun _ _ _ h => h) (Or.inl ⟨by rfl, ?hyE38⟩) (by assumption) ?_
                case hyE38 => (intro W hSw; (try dsimp only at hSw); go_simp; (try with_reducible rfl))
                try simp only [Act.put, List.setIfInBounds_toArray, List.set_cons_zero, List.set_cons_succ]
                refine wpAnyH_take (i := 39) (oi := { dst := some 101, op := Op.pick (Operand.tmp 90) (Operand.const (Value.bool true)) (Operand.tmp 100), type := 4, pos := "law.go:317", after := #[{ on := 28, ground := Ground.data }, { on := 38, ground := Ground.data }, { on := 17, ground := Ground.guard }], guard := some (17, true) }) (v := ?vE39) rfl (by kernel_rfl) (by kernel_rfl) (by kernel_rfl) (fun _ _ _ h => h) (Or.inl ⟨by rfl, ?hyE39⟩) (by assumption) ?_
                case hyE39 => (intro W hSw; (try dsimp only at hSw); go_simp; (try with_reducible rfl))
                try simp only [Act.put, List.setIfInBounds_toArray, List.set_cons_zero, List.set_cons_succ]
                refine wpAnyH_take (i := 40) (oi := { dst := some 102, op := Op.pick (Operand.tmp 79) (Operand.tmp 101) (Operand.const (Value.bool false)), type := 4, pos := "law.go:317", after := #[{ on := 17, ground := Ground.data }, { on := 39, ground := Ground.data }], guard := none }) (v := ?vE40) rfl (by kernel_rfl) (by kernel_rfl) (by kernel_rfl) (fun _ _ _ h => h) (Or.inl ⟨by rfl, ?hyE40⟩) (by assumption) ?_
                case hyE40 => (intro W hSw; (try dsimp only at hSw); go_simp; (try with_reducible rfl))
                try simp only [Act.put, List.setIfInBounds_toArray, List.set_cons_zero, List.set_cons_succ]
                refine wpAnyH_take (i := 41) (oi := { dst := some 103, op := Op.indexAddr 59 (Operand.tmp 14) (Operand.tmp 62), type := 0, pos := "law.go:317", after := #[{ on := 0, ground := Ground.data }, { on := 0, ground := Ground.phase }, { on := 1, ground := Ground.phase }, { on := 2, ground := Ground.phase }, { on := 3, ground := Ground.phase }, { on := 4, ground := Ground.phase }, { on := 5, ground := Ground.phase }, { on := 6, ground := Ground.phase }, { on := 7, ground := Ground.phase }, { on := 8, ground := Ground.phase }, { on := 9, ground := Ground.phase }, { on := 10, ground := Ground.phase }, { on := 11, ground := Ground.phase }, { on := 12, ground := Ground.phase }, { on := 13, ground := Ground.phase }, { on := 14, ground := Ground.phase }, { on := 15, ground := Ground.phase }, { on := 16, ground := Ground.phase }, { on := 17, ground := Ground.phase }, { on := 18, ground := Ground.phase }, { on := 19, ground := Ground.phase }, { on := 20, ground := Ground.phase }, { on := 21, ground := Ground.phase }, { on := 22, ground := Ground.phase }, { on := 23, ground := Ground.phase }, { on := 24, ground := Ground.phase }, { on := 25, ground := Ground.phase }, { on := 26, ground := Ground.phase }, { on := 27, ground := Ground.phase }, { on := 28, ground := Ground.phase }, { on := 29, ground := Ground.phase }, { on := 30, ground := Ground.phase }, { on := 31, ground := Ground.phase }, { on := 32, ground := Ground.phase }, { on := 33, ground := Ground.phase }, { on := 34, ground := Ground.phase }, { on := 35, ground := Ground.phase }, { on := 36, ground := Ground.phase }, { on := 37, ground := Ground.phase }, { on := 38, ground := Ground.phase }, { on := 39, ground := Ground.phase }, { on := 40, ground := Ground.phase }], guard := none }) (v := ?vE41) rfl (by kernel_rfl) (by kernel_rfl) (by kernel_rfl) (fun _ _ _ h => h) (Or.inl ⟨by rfl, ?hyE41⟩) (by assumption) ?_
                case hyE41 => (intro W hSw; (try dsimp only at hSw); go_simp; (try with_reducible rfl))
                try simp only [Act.put, List.setIfInBounds_toArray, List.set_cons_zero, List.set_cons_succ]
                refine wpAnyH_ready (rs := [42]) (by kernel_rfl) (by simp) ?_
                refine AllReadyH.cons (o := { dst := none, op := Op.store 4 (Operand.tmp 103) (Operand.tmp 102), type := 0, pos := "law.go:317", after := #[{ on := 41, ground := Ground.data }, { on := 40, ground := Ground.data }, { on := 28, ground := Ground.chain }, { on := 0, ground := Ground.phase }, { on := 1, ground := Ground.phase }, { on := 2, ground := Ground.phase }, { on := 3, ground := Ground.phase }, { on := 4, ground := Ground.phase }, { on := 5, ground := Ground.phase }, { on := 6, ground := Ground.phase }, { on := 7, ground := Ground.phase }, { on := 8, ground := Ground.phase }, { on := 9, ground := Ground.phase }, { on := 10, ground := Ground.phase }, { on := 11, ground := Ground.phase }, { on := 12, ground := Ground.phase }, { on := 13, ground := Ground.phase }, { on := 14, ground := Ground.phase }, { on := 15, ground := Ground.phase }, { on := 16, ground := Ground.phase }, { on := 17, ground := Ground.phase }, { on := 18, ground := Ground.phase }, { on := 19, ground := Ground.phase }, { on := 20, ground := Ground.phase }, { on := 21, ground := Ground.phase }, { on := 22, ground := Ground.phase }, { on := 23, ground := Ground.phase }, { on := 24, ground := Ground.phase }, { on := 25, ground := Ground.phase }, { on := 26, ground := Ground.phase }, { on := 27, ground := Ground.phase }, { on := 28, ground := Ground.phase }, { on := 29, ground := Ground.phase }, { on := 30, ground := Ground.phase }, { on := 31, ground := Ground.phase }, { on := 32, ground := Ground.phase }, { on := 33, ground := Ground.phase }, { on := 34, ground := Ground.phase }, { on := 35, ground := Ground.phase }, { on := 36, ground := Ground.phase }, { on := 37, ground := Ground.phase }, { on := 38, ground := Ground.phase }, { on := 39, ground := Ground.phase }, { on := 40, ground := Ground.phase }], guard := none }) rfl (fun K hK => ?_) AllReadyH.nil
                go_simp
                refine hK.out _ _ (by first | exact ⟨(kg _ _).trans c1, (kg _ _).trans c4, (kg _ _).trans c6, (kg _ _).trans c7, (kf _ _).trans f0, (kf _ _).trans f1⟩ | exact ⟨(kg2 _ _).trans c1, (kg2 _ _).trans c4, (kg2 _ _).trans c6, (kg2 _ _).trans c7, (kf2 _ _).trans f0, (kf2 _ _).trans f1⟩) (fun hHeld => ?_)
                clear hK K
                try simp only [Act.put, List.setIfInBounds_toArray, List.set_cons_zero, List.set_cons_succ]
                refine wpAnyH_done (by kernel_rfl) ?_ _
                have s9 := HS2.out false (by rw [HIV.out]; simp [Hd.lives, h2, hmt])
                clear HS2 kg kf kg2 kf2
                generalize (wr.setCell ⟨B1, j, none⟩ (.bool false)).drew = w9 at *
                obtain ⟨_, _, _, _, _, ⟨_, c1b, _, _, _⟩, _, _⟩ := HSL.out _ _ _ _ _ s9 j hlt
                rw [HHD.out] at c1b
                simp only at c1b
                have d2b : ∃ b, w9.cell? ⟨B2, j, none⟩ = some (.bool b) := ⟨_, (s9.cell 0 rfl j).trans (boolA_at (upTo_at _ j j hlt))⟩
                obtain ⟨z3, d2b⟩ := d2b
                have f2b := s9.frozen 0 rfl j
                have HE : Hid (St w [boxI B2 (boolA (upTo (fun s => (nowAt z0.hs s).sa == 2) (j + 1))) 59, boxI B1 (boolA (upTo (fun s => isVic z0.hs z0.ws ⟨r0, r1⟩ s) (j + 1))) 59, XX, ownI 46 8 (.slice (some ⟨g2, 0, none⟩) z0.hs.length cap2) z0.hs.length (slCells (slots z0.hs z0.ws)), lkI K A.t (Lk.new ⟨r0, r1⟩ 8 0) vl (.slice none 0 0) (.slice none 0 0), spI A (tbC 8) z0 v3 (.slice none 0 0), boxI F #[.int .u64 r0, .int .u64 r1] 24] (w9.setCell ⟨B2, j, none⟩ (.bool true))) := by
                  have a1 := s9.write 0 rfl j (.bool true)
                  have eb : (upTo (fun s => (nowAt z0.hs s).sa == 2) j).set j true = upTo (fun s => (nowAt z0.hs s).sa == 2) (j + 1) := by
                    rw [← upTo_set (fun s => (nowAt z0.hs s).sa == 2) j hj1 hlt]
                    simp only [HHD.out, h2]
                  rw [boolA_set, eb] at a1
                  exact a1
                clear s9 c0 c1 c4 c6 c7 f0 f1 d1 d2 f1'
                go_wp2
                go_roundw
                case rel => exact ⟨j + 1, by go_num, by omega, by omega, HE.out⟩
                case measure => simp [intOf]; omega
            · as_aux_lemma =>
                have hN1 : (((x1 &&& r1 : Nat) : Int) != 0) = true := by simp; omega
                have hmt : (⟨x0, x1⟩ : Sg).meets ⟨r0, r1⟩ = true := by rw [meets_eq]; simp [hn1]
                generalize hgx1 : x1 &&& r1 = X1 at *
                go_upto_region 16 with fail
                refine wp_region_held_drew (S := fun W => W.cell? ⟨g2, j * 8 + 1, none⟩ = some (.int .i64 hsa) ∧ W.cell? ⟨g2, j * 8 + 4, none⟩ = some (.bool false) ∧ W.cell? ⟨g2, j * 8 + 6, none⟩ = some (.int .u64 (x0 : Nat)) ∧ W.cell? ⟨g2, j * 8 + 7, none⟩ = some (.int .u64 (x1 : Nat)) ∧ W.cell? ⟨F, 0, none⟩ = some (.int .u64 r0) ∧ W.cell? ⟨F, 1, none⟩ = some (.int .u64 r1)) (by kernel_rfl) ⟨c1, c4, c6, c7, f0, f1⟩ (fun hHeld => ?_)
                refine wpAnyH_take (i := 0) (oi := { dst := some 62, op := Op.move (Operand.tmp 16), type := 3, pos := "law.go:317", after := #[], guard := none }) (v := ?vD0) rfl (by kernel_rfl) (by kernel_rfl) (by kernel_rfl) (fun _ _ _ h => h) (Or.inl ⟨by rfl, ?hyD0⟩) (by assumption) ?_
                case hyD0 => (intro W hSw; (try dsimp only at hSw); go_simp; (try with_reducible rfl))
                try simp only [Act.put, List.setIfInBounds_toArray, List.set_cons_zero, List.set_cons_succ]
                refine wpAnyH_take (i := 1) (oi := { dst := some 63, op := Op.move (Operand.tmp 13), type := 38, pos := "law.go:317", after := #[], guard := none }) (v := ?vD1) rfl (by kernel_rfl) (by kernel_rfl) (by kernel_rfl) (fun _ _ _ h => h) (Or.inl ⟨by rfl, ?hyD1⟩) (by assumption) ?_
                case hyD1 => (intro W hSw; (try dsimp only at hSw); go_simp; (try with_reducible rfl))
                try simp only [Act.put, List.setIfInBounds_toArray, List.set_cons_zero, List.set_cons_succ]
                refine wpAnyH_take (i := 2) (oi := { dst := some 64, op := Op.move (Operand.tmp 16), type := 3, pos := "law.go:317", after := #[], guard := none }) (v := ?vD2) rfl (by kernel_rfl) (by kernel_rfl) (by kernel_rfl) (fun _ _ _ h => h) (Or.inl ⟨by rfl, ?hyD2⟩) (by assumption) ?_
                case hyD2 => (intro W hSw; (try dsimp only at hSw); go_simp; (try with_reducible rfl))
                try simp only [Act.put, List.setIfInBounds_toArray, List.set_cons_zero, List.set_cons_succ]
                refine wpAnyH_take (i := 3) (oi := { dst := some 65, op := Op.indexAddr 38 (Operand.tmp 63) (Operand.tmp 64), type := 0, pos := "law.go:317", after := #[{ on := 1, ground := Ground.data }, { on := 2, ground := Ground.data }], guard := none }) (v := ?vD3) rfl (by kernel_rfl) (by kernel_rfl) (by kernel_rfl) (fun _ _ _ h => h) (Or.inl ⟨by rfl, ?hyD3⟩) (by assumption) ?_
                case hyD3 => (intro W hSw; (try dsimp only at hSw); go_simp; (try with_reducible rfl))
                try simp only [Act.put, List.setIfInBounds_toArray, List.set_cons_zero, List.set_cons_succ]
                refine wpAnyH_take (i := 4) (oi := { dst := some 66, op := Op.fieldAddr 46 (Operand.tmp 65) 0, type := 0, pos := "law.go:317", after := #[{ on := 3, ground := Ground.data }], guard := none }) (v := ?vD4) rfl (by kernel_rfl) (by kernel_rfl) (by kernel_rfl) (fun _ _ _ h => h) (Or.inl ⟨by rfl, ?hyD4⟩) (by assumption) ?_
                case hyD4 => (intro W hSw; (try dsimp only at hSw); go_simp; (try with_reducible rfl))
                try simp only [Act.put, List.setIfInBounds_toArray, List.set_cons_zero, List.set_cons_succ]
                refine wpAnyH_take (i := 5) (oi := { dst := some 67, op := Op.fieldAddr 44 (Operand.tmp 66) 1, type := 0, pos := "law.go:317", after := #[{ on := 4, ground := Ground.data }], guard := none }) (v := ?vD5) rfl (by kernel_rfl) (by kernel_rfl) (by kernel_rfl) (fun _ _ _ h => h) (Or.inl ⟨by rfl, ?hyD5⟩) (by assumption) ?_
                case hyD5 => (intro W hSw; (try dsimp only at hSw); go_simp; (try with_reducible rfl))
                try simp only [Act.put, List.setIfInBounds_toArray, List.set_cons_zero, List.set_cons_succ]
                refine wpAnyH_take (i := 6) (oi := { dst := some 68, op := Op.load 3 (Operand.tmp 67), type := 3, pos := "law.go:317", after := #[{ on := 5, ground := Ground.data }], guard := none }) (v := ?vD6) rfl (by kernel_rfl) (by kernel_rfl) (by kernel_rfl) (fun _ _ _ h => h) (Or.inl ⟨by rfl, ?hyD6⟩) (by assumption) ?_
                case hyD6 => (intro W hSw; (try dsimp only at hSw); go_simp; (try with_reducible rfl))
                try simp only [Act.put, List.setIfInBounds_toArray, List.set_cons_zero, List.set_cons_succ]
                refine wpAnyH_take (i := 7) (oi := { dst := some 69, op := Op.binOp BinOp.eql 3 (Operand.tmp 68) (Operand.const (Value.int IntKind.i64 2)) 3, type := 4, pos := "law.go:317", after := #[{ on := 6, ground := Ground.data }], guard := none }) (v := ?vD7) rfl (by kernel_rfl) (by kernel_rfl) (by kernel_rfl) (fun _ _ _ h => h) (Or.inl ⟨by rfl, ?hyD7⟩) (by assumption) ?_
                case hyD7 => (intro W hSw; (try dsimp only at hSw); go_simp; (try with_reducible rfl))
                try simp only [Act.put, List.setIfInBounds_toArray, List.set_cons_zero, List.set_cons_succ]
                refine wpAnyH_take (i := 8) (oi := { dst := some 70, op := Op.move (Operand.tmp 69), type := 4, pos := "law.go:317", after := #[{ on := 7, ground := Ground.data }], guard := none }) (v := ?vD8) rfl (by kernel_rfl) (by kernel_rfl) (by kernel_rfl) (fun _ _ _ h => h) (Or.inl ⟨by rfl, ?hyD8⟩) (by assumption) ?_
                case hyD8 => (intro W hSw; (try dsimp only at hSw); go_simp; (try with_reducible rfl))
                try simp only [Act.put, List.setIfInBounds_toArray, List.set_cons_zero, List.set_cons_succ]
                refine wpAnyH_take (i := 9) (oi := { dst := some 71, op := Op.move (Operand.tmp 13), type := 38, pos := "law.go:317", after := #[{ on := 8, ground := Ground.guard }], guard := some (8, true) }) (v := ?vD9) rfl (by kernel_rfl) (by kernel_rfl) (by kernel_rfl) (fun _ _ _ h => h) (Or.inl ⟨by rfl, ?hyD9⟩) (by assumption) ?_
                case hyD9 => (intro W hSw; (try dsimp only at hSw); go_simp; (try with_reducible rfl))
                try simp only [Act.put, List.setIfInBounds_toArray, List.set_cons_zero, List.set_cons_succ]
                refine wpAnyH_take (i := 10) (oi := { dst := some 72, op := Op.move (Operand.tmp 16), type := 3, pos := "law.go:317", after := #[{ on := 8, ground := Ground.guard }], guard := some (8, true) }) (v := ?vD10) rfl (by kernel_rfl) (by kernel_rfl) (by kernel_rfl) (fun _ _ _ h => h) (Or.inl ⟨by rfl, ?hyD10⟩) (by assumption) ?_
                case hyD10 => (intro W hSw; (try dsimp only at hSw); go_simp; (try with_reducible rfl))
                try simp only [Act.put, List.setIfInBounds_toArray, List.set_cons_zero, List.set_cons_succ]
                refine wpAnyH_take (i := 11) (oi := { dst := some 73, op := Op.indexAddr 38 (Operand.tmp 71) (Operand.tmp 72), type := 0, pos := "law.go:317", after := #[{ on := 9, ground := Ground.data }, { on := 10, ground := Ground.data }, { on := 8, ground := Ground.guard }], guard := some (8, true) }) (v := ?vD11) rfl (by kernel_rfl) (by kernel_rfl) (by kernel_rfl) (fun _ _ _ h => h) (Or.inl ⟨by rfl, ?hyD11⟩) (by assumption) ?_
                case hyD11 => (intro W hSw; (try dsimp only at hSw); go_simp; (try with_reducible rfl))
                try simp only [Act.put, List.setIfInBounds_toArray, List.set_cons_zero, List.set_cons_succ]
                refine wpAnyH_take (i := 12) (oi := { dst := some 74, op := Op.fieldAddr 46 (Operand.tmp 73) 0, type := 0, pos := "law.go:317", after := #[{ on := 11, ground := Ground.data }, { on := 8, ground := Ground.guard }], guard := some (8, true) }) (v := ?vD12) rfl (by kernel_rfl) (by kernel_rfl) (by kernel_rfl) (fun _ _ _ h => h) (Or.inl ⟨by rfl, ?hyD12⟩) (by assumption) ?_
                case hyD12 => (intro W hSw; (try dsimp only at hSw); go_simp; (try with_reducible rfl))
                try simp only [Act.put, List.setIfInBounds_toArray, List.set_cons_zero, List.set_cons_succ]
                refine wpAnyH_take (i := 13) (oi := { dst := some 75, op := Op.fieldAddr 44 (Operand.tmp 74) 4, type := 0, pos := "law.go:317", after := #[{ on := 12, ground := Ground.data }, { on := 8, ground := Ground.guard }], guard := some (8, true) }) (v := ?vD13) rfl (by kernel_rfl) (by kernel_rfl) (by kernel_rfl) (fun _ _ _ h => h) (Or.inl ⟨by rfl, ?hyD13⟩) (by assumption) ?_
                case hyD13 => (intro W hSw; (try dsimp only at hSw); go_simp; (try with_reducible rfl))
                try simp only [Act.put, List.setIfInBounds_toArray, List.set_cons_zero, List.set_cons_succ]
                refine wpAnyH_take (i := 14) (oi := { dst := some 76, op := Op.load 4 (Operand.tmp 75), type := 4, pos := "law.go:317", after := #[{ on := 13, ground := Ground.data }, { on := 8, ground := Ground.guard }], guard := some (8, true) }) (v := ?vD14) rfl (by kernel_rfl) (by kernel_rfl) (by kernel_rfl) (fun _ _ _ h => h) (Or.inl ⟨by rfl, ?hyD14⟩) (by assumption) ?_
                case hyD14 => (intro W hSw; (try dsimp only at hSw); go_simp; (try with_reducible rfl))
                try simp only [Act.put, List.setIfInBounds_toArray, List.set_cons_zero, List.set_cons_succ]
                refine wpAnyH_take (i := 15) (oi := { dst := some 77, op := Op.unOp UnOp.not 4 (Operand.tmp 76), type := 4, pos := "law.go:317", after := #[{ on := 14, ground := Ground.data }, { on := 8, ground := Ground.guard }], guard := some (8, true) }) (v := ?vD15) rfl (by kernel_rfl) (by kernel_rfl) (by kernel_rfl) (fun _ _ _ h => h) (Or.inl ⟨by rfl, ?hyD15⟩) (by assumption) ?_
                case hyD15 => (intro W hSw; (try dsimp only at hSw); go_simp; (try with_reducible rfl))
                try simp only [Act.put, List.setIfInBounds_toArray, List.set_cons_zero, List.set_cons_succ]
                refine wpAnyH_take (i := 16) (oi := { dst := some 78, op := Op.pick (Operand.tmp 70) (Operand.tmp 77) (Operand.const (Value.bool false)), type := 4, pos := "law.go:317", after := #[{ on := 8, ground := Ground.data }, { on := 15, ground := Ground.data }], guard := none }) (v := ?vD16) rfl (by kernel_rfl) (by kernel_rfl) (by kernel_rfl) (fun _ _ _ h => h) (Or.inl ⟨by rfl, ?hyD16⟩) (by assumption) ?_
                case hyD16 => (intro W hSw; (try dsimp only at hSw); go_simp; (try with_reducible rfl))
                try simp only [Act.put, List.setIfInBounds_toArray, List.set_cons_zero, List.set_cons_succ]
                refine wpAnyH_take (i := 17) (oi := { dst := some 79, op := Op.move (Operand.tmp 78), type := 4, pos := "law.go:317", after := #[{ on := 16, ground := Ground.data }, { on := 8, ground := Ground.chain }], guard := none }) (v := ?vD17) rfl (by kernel_rfl) (by kernel_rfl) (by kernel_rfl) (fun _ _ _ h => h) (Or.inl ⟨by rfl, ?hyD17⟩) (by assumption) ?_
                case hyD17 => (intro W hSw; (try dsimp only at hSw); go_simp; (try with_reducible rfl))
                try simp only [Act.put, List.setIfInBounds_toArray, List.set_cons_zero, List.set_cons_succ]
                refine wpAnyH_take (i := 18) (oi := { dst := some 80, op := Op.move (Operand.tmp 13), type := 38, pos := "law.go:317", after := #[{ on := 17, ground := Ground.guard }], guard := some (17, true) }) (v := ?vD18) rfl (by kernel_rfl) (by kernel_rfl) (by kernel_rfl) (fun _ _ _ h => h) (Or.inl ⟨by rfl, ?hyD18⟩) (by assumption) ?_
                case hyD18 => (intro W hSw; (try dsimp only at hSw); go_simp; (try with_reducible rfl))
                try simp only [Act.put, List.setIfInBounds_toArray, List.set_cons_zero, List.set_cons_succ]
                refine wpAnyH_take (i := 19) (oi := { dst := some 81, op := Op.move (Operand.tmp 16), type := 3, pos := "law.go:317", after := #[{ on := 17, ground := Ground.guard }], guard := some (17, true) }) (v := ?vD19) rfl (by kernel_rfl) (by kernel_rfl) (by kernel_rfl) (fun _ _ _ h => h) (Or.inl ⟨by rfl, ?hyD19⟩) (by assumption) ?_
                case hyD19 => (intro W hSw; (try dsimp only at hSw); go_simp; (try with_reducible rfl))
                try simp only [Act.put, List.setIfInBounds_toArray, List.set_cons_zero, List.set_cons_succ]
                refine wpAnyH_take (i := 20) (oi := { dst := some 82, op := Op.indexAddr 38 (Operand.tmp 80) (Operand.tmp 81), type := 0, pos := "law.go:317", after := #[{ on := 18, ground := Ground.data }, { on := 19, ground := Ground.data }, { on := 17, ground := Ground.guard }], guard := some (17, true) }) (v := ?vD20) rfl (by kernel_rfl) (by kernel_rfl) (by kernel_rfl) (fun _ _ _ h => h) (Or.inl ⟨by rfl, ?hyD20⟩) (by assumption) ?_
                case hyD20 => (intro W hSw; (try dsimp only at hSw); go_simp; (try with_reducible rfl))
                try simp only [Act.put, List.setIfInBounds_toArray, List.set_cons_zero, List.set_cons_succ]
                refine wpAnyH_take (i := 21) (oi := { dst := some 83, op := Op.fieldAddr 46 (Operand.tmp 82) 1, type := 0, pos := "law.go:317", after := #[{ on := 20, ground := Ground.data }, { on := 17, ground := Ground.guard }], guard := some (17, true) }) (v := ?vD21) rfl (by kernel_rfl) (by kernel_rfl) (by kernel_rfl) (fun _ _ _ h => h) (Or.inl ⟨by rfl, ?hyD21⟩) (by assumption) ?_
                case hyD21 => (intro W hSw; (try dsimp only at hSw); go_simp; (try with_reducible rfl))
                try simp only [Act.put, List.setIfInBounds_toArray, List.set_cons_zero, List.set_cons_succ]
                refine wpAnyH_take (i := 22) (oi := { dst := some 84, op := Op.indexAddr 24 (Operand.tmp 83) (Operand.const (Value.int IntKind.i64 0)), type := 0, pos := "law.go:317", after := #[{ on := 21, ground := Ground.data }, { on := 17, ground := Ground.guard }], guard := some (17, true) }) (v := ?vD22) rfl (by kernel_rfl) (by kernel_rfl) (by kernel_rfl) (fun _ _ _ h => h) (Or.inl ⟨by rfl, ?hyD22⟩) (by assumption) ?_
                case hyD22 => (intro W hSw; (try dsimp only at hSw); go_simp; (try with_reducible rfl))
                try simp only [Act.put, List.setIfInBounds_toArray, List.set_cons_zero, List.set_cons_succ]
                refine wpAnyH_take (i := 23) (oi := { dst := some 85, op := Op.load 22 (Operand.tmp 84), type := 22, pos := "law.go:317", after := #[{ on := 22, ground := Ground.data }, { on := 17, ground := Ground.guard }], guard := some (17, true) }) (v := ?vD23) rfl (by kernel_rfl) (by kernel_rfl) (by kernel_rfl) (fun _ _ _ h => h) (Or.inl ⟨by rfl, ?hyD23⟩) (by assumption) ?_
                case hyD23 => (intro W hSw; (try dsimp only at hSw); go_simp; (try with_reducible rfl))
                try simp only [Act.put, List.setIfInBounds_toArray, List.set_cons_zero, List.set_cons_succ]
                refine wpAnyH_take (i := 24) (oi := { dst := some 86, op := Op.indexAddr 24 (Operand.tmp 3) (Operand.const (Value.int IntKind.i64 0)), type := 0, pos := "law.go:317", after := #[{ on := 17, ground := Ground.guard }], guard := some (17, true) }) (v := ?vD24) rfl (by kernel_rfl) (by kernel_rfl) (by kernel_rfl) (fun _ _ _ h => h) (Or.inl ⟨by rfl, ?hyD24⟩) (by assumption) ?_
                case hyD24 => (intro W hSw; (try dsimp only at hSw); go_simp; (try with_reducible rfl))
                try simp only [Act.put, List.setIfInBounds_toArray, List.set_cons_zero, List.set_cons_succ]
                refine wpAnyH_take (i := 25) (oi := { dst := some 87, op := Op.load 22 (Operand.tmp 86), type := 22, pos := "law.go:317", after := #[{ on := 24, ground := Ground.data }, { on := 17, ground := Ground.guard }], guard := some (17, true) }) (v := ?vD25) rfl (by kernel_rfl) (by kernel_rfl) (by kernel_rfl) (fun _ _ _ h => h) (Or.inl ⟨by rfl, ?hyD25⟩) (by assumption) ?_
                case hyD25 => (intro W hSw; (try dsimp only at hSw); go_simp; (try with_reducible rfl))
                try simp only [Act.put, List.setIfInBounds_toArray, List.set_cons_zero, List.set_cons_succ]
                refine wpAnyH_take (i := 26) (oi := { dst := some 88, op := Op.binOp BinOp.and 22 (Operand.tmp 85) (Operand.tmp 87) 22, type := 22, pos := "law.go:317", after := #[{ on := 23, ground := Ground.data }, { on := 25, ground := Ground.data }, { on := 17, ground := Ground.guard }], guard := some (17, true) }) (v := ?vD26) rfl (by kernel_rfl) (by kernel_rfl) (by kernel_rfl) (fun _ _ _ h => h) (Or.inl ⟨by rfl, ?hyD26⟩) (by assumption) ?_
                case hyD26 => (intro W hSw; (try dsimp only at hSw); go_simp; (try with_reducible rfl))
                try simp only [Act.put, List.setIfInBounds_toArray, List.set_cons_zero, List.set_cons_succ]
                refine wpAnyH_take (i := 27) (oi := { dst := some 89, op := Op.binOp BinOp.neq 22 (Operand.tmp 88) (Operand.const (Value.int IntKind.u64 0)) 22, type := 4, pos := "law.go:317", after := #[{ on := 26, ground := Ground.data }, { on := 17, ground := Ground.guard }], guard := some (17, true) }) (v := ?vD27) rfl (by kernel_rfl) (by kernel_rfl) (by kernel_rfl) (fun _ _ _ h => h) (Or.inl ⟨by rfl, ?hyD27⟩) (by assumption) ?_
                case hyD27 => (intro W hSw; (try dsimp only at hSw); go_simp; (try with_reducible rfl))
                try simp only [Act.put, List.setIfInBounds_toArray, List.set_cons_zero, List.set_cons_succ]
                refine wpAnyH_take (i := 28) (oi := { dst := some 90, op := Op.move (Operand.tmp 89), type := 4, pos := "law.go:317", after := #[{ on := 27, ground := Ground.data }, { on := 17, ground := Ground.chain }, { on := 17, ground := Ground.guard }], guard := some (17, true) }) (v := ?vD28) rfl (by kernel_rfl) (by kernel_rfl) (by kernel_rfl) (fun _ _ _ h => h) (Or.inl ⟨by rfl, ?hyD28⟩) (by assumption) ?_
                case hyD28 => (intro W hSw; (try dsimp only at hSw); go_simp; (try with_reducible rfl))
                try simp only [Act.put, List.setIfInBounds_toArray, List.set_cons_zero, List.set_cons_succ]
                refine wpAnyH_take (i := 29) (oi := { dst := some 91, op := Op.move (Operand.tmp 13), type := 38, pos := "law.go:317", after := #[{ on := 28, ground := Ground.guard }], guard := some (28, false) }) (v := ?vD29) rfl (by kernel_rfl) (by kernel_rfl) (by kernel_rfl) (fun _ _ _ h => h) (Or.inl ⟨by rfl, ?hyD29⟩) (by assumption) ?_
                case hyD29 => (intro W hSw; (try dsimp only at hSw); go_simp; (try with_reducible rfl))
                try simp only [Act.put, List.setIfInBounds_toArray, List.set_cons_zero, List.set_cons_succ]
                refine wpAnyH_take (i := 30) (oi := { dst := some 92, op := Op.move (Operand.tmp 16), type := 3, pos := "law.go:317", after := #[{ on := 28, ground := Ground.guard }], guard := some (28, false) }) (v := ?vD30) rfl (by kernel_rfl) (by kernel_rfl) (by kernel_rfl) (fun _ _ _ h => h) (Or.inl ⟨by rfl, ?hyD30⟩) (by assumption) ?_
                case hyD30 => (intro W hSw; (try dsimp only at hSw); go_simp; (try with_reducible rfl))
                try simp only [Act.put, List.setIfInBounds_toArray, List.set_cons_zero, List.set_cons_succ]
                refine wpAnyH_take (i := 31) (oi := { dst := some 93, op := Op.indexAddr 38 (Operand.tmp 91) (Operand.tmp 92), type := 0, pos := "law.go:317", after := #[{ on := 29, ground := Ground.data }, { on := 30, ground := Ground.data }, { on := 28, ground := Ground.guard }], guard := some (28, false) }) (v := ?vD31) rfl (by kernel_rfl) (by kernel_rfl) (by kernel_rfl) (fun _ _ _ h => h) (Or.inl ⟨by rfl, ?hyD31⟩) (by assumption) ?_
                case hyD31 => (intro W hSw; (try dsimp only at hSw); go_simp; (try with_reducible rfl))
                try simp only [Act.put, List.setIfInBounds_toArray, List.set_cons_zero, List.set_cons_succ]
                refine wpAnyH_take (i := 32) (oi := { dst := some 94, op := Op.fieldAddr 46 (Operand.tmp 93) 1, type := 0, pos := "law.go:317", after := #[{ on := 31, ground := Ground.data }, { on := 28, ground := Ground.guard }], guard := some (28, false) }) (v := ?vD32) rfl (by kernel_rfl) (by kernel_rfl) (by kernel_rfl) (fun _ _ _ h => h) (Or.inl ⟨by rfl, ?hyD32⟩) (by assumption) ?_
                case hyD32 => (intro W hSw; (try dsimp only at hSw); go_simp; (try with_reducible rfl))
                try simp only [Act.put, List.setIfInBounds_toArray, List.set_cons_zero, List.set_cons_succ]
                refine wpAnyH_take (i := 33) (oi := { dst := some 95, op := Op.indexAddr 24 (Operand.tmp 94) (Operand.const (Value.int IntKind.i64 1)), type := 0, pos := "law.go:317", after := #[{ on := 32, ground := Ground.data }, { on := 28, ground := Ground.guard }], guard := some (28, false) }) (v := ?vD33) rfl (by kernel_rfl) (by kernel_rfl) (by kernel_rfl) (fun _ _ _ h => h) (Or.inl ⟨by rfl, ?hyD33⟩) (by assumption) ?_
                case hyD33 => (intro W hSw; (try dsimp only at hSw); go_simp; (try with_reducible rfl))
                try simp only [Act.put, List.setIfInBounds_toArray, List.set_cons_zero, List.set_cons_succ]
                refine wpAnyH_take (i := 34) (oi := { dst := some 96, op := Op.load 22 (Operand.tmp 95), type := 22, pos := "law.go:317", after := #[{ on := 33, ground := Ground.data }, { on := 28, ground := Ground.guard }], guard := some (28, false) }) (v := ?vD34) rfl (by kernel_rfl) (by kernel_rfl) (by kernel_rfl) (fun _ _ _ h => h) (Or.inl ⟨by rfl, ?hyD34⟩) (by assumption) ?_
                case hyD34 => (intro W hSw; (try dsimp only at hSw); go_simp; (try with_reducible rfl))
                try simp only [Act.put, List.setIfInBounds_toArray, List.set_cons_zero, List.set_cons_succ]
                refine wpAnyH_take (i := 35) (oi := { dst := some 97, op := Op.indexAddr 24 (Operand.tmp 3) (Operand.const (Value.int IntKind.i64 1)), type := 0, pos := "law.go:317", after := #[{ on := 28, ground := Ground.guard }], guard := some (28, false) }) (v := ?vD35) rfl (by kernel_rfl) (by kernel_rfl) (by kernel_rfl) (fun _ _ _ h => h) (Or.inl ⟨by rfl, ?hyD35⟩) (by assumption) ?_
                case hyD35 => (intro W hSw; (try dsimp only at hSw); go_simp; (try with_reducible rfl))
                try simp only [Act.put, List.setIfInBounds_toArray, List.set_cons_zero, List.set_cons_succ]
                refine wpAnyH_take (i := 36) (oi := { dst := some 98, op := Op.load 22 (Operand.tmp 97), type := 22, pos := "law.go:317", after := #[{ on := 35, ground := Ground.data }, { on := 28, ground := Ground.guard }], guard := some (28, false) }) (v := ?vD36) rfl (by kernel_rfl) (by kernel_rfl) (by kernel_rfl) (fun _ _ _ h => h) (Or.inl ⟨by rfl, ?hyD36⟩) (by assumption) ?_
                case hyD36 => (intro W hSw; (try dsimp only at hSw); go_simp; (try with_reducible rfl))
                try simp only [Act.put, List.setIfInBounds_toArray, List.set_cons_zero, List.set_cons_succ]
                refine wpAnyH_take (i := 37) (oi := { dst := some 99, op := Op.binOp BinOp.and 22 (Operand.tmp 96) (Operand.tmp 98) 22, type := 22, pos := "law.go:317", after := #[{ on := 34, ground := Ground.data }, { on := 36, ground := Ground.data }, { on := 28, ground := Ground.guard }], guard := some (28, false) }) (v := ?vD37) rfl (by kernel_rfl) (by kernel_rfl) (by kernel_rfl) (fun _ _ _ h => h) (Or.inl ⟨by rfl, ?hyD37⟩) (by assumption) ?_
                case hyD37 => (intro W hSw; (try dsimp only at hSw); go_simp; (try with_reducible rfl))
                try simp only [Act.put, List.setIfInBounds_toArray, List.set_cons_zero, List.set_cons_succ]
                refine wpAnyH_take (i := 38) (oi := { dst := some 100, op := Op.binOp BinOp.neq 22 (Operand.tmp 99) (Operand.const (Value.int IntKind.u64 0)) 22, type := 4, pos := "law.go:317", after := #[{ on := 37, ground := Ground.data }, { on := 28, ground := Ground.guard }], guard := some (28, false) }) (v := ?vD38) rfl (by kernel_rfl) (by kernel_rfl) (by kernel_rfl) (fun _ _ _ h => h) (Or.inl ⟨by rfl, ?hyD38⟩) (by assumption) ?_
                case hyD38 => (intro W hSw; (try dsimp only at hSw); go_simp; (try with_reducible rfl))
                try simp only [Act.put, List.setIfInBounds_toArray, List.set_cons_zero, List.set_cons_succ]
                refine wpAnyH_take (i := 39) (oi := { dst := some 101, op := Op.pick (Operand.tmp 90) (Operand.const (Value.bool true)) (Operand.tmp 100), type := 4, pos := "law.go:317", after := #[{ on := 28, ground := Ground.data }, { on := 38, ground := Ground.data }, { on := 17, ground := Ground.guard }], guard := some (17, true) }) (v := ?vD39) rfl (by kernel_rfl) (by kernel_rfl) (by kernel_rfl) (fun _ _ _ h => h) (Or.inl ⟨by rfl, ?hyD39⟩) (by assumption) ?_
                case hyD39 => (intro W hSw; (try dsimp only at hSw); go_simp; (try with_reducible rfl))
                try simp only [Act.put, List.setIfInBounds_toArray, List.set_cons_zero, List.set_cons_succ]
                refine wpAnyH_take (i := 40) (oi := { dst := some 102, op := Op.pick (Operand.tmp 79) (Operand.tmp 101) (Operand.const (Value.bool false)), type := 4, pos := "law.go:317", after := #[{ on := 17, ground := Ground.data }, { on := 39, ground := Ground.data }], guard := none }) (v := ?vD40) rfl (by kernel_rfl) (by kernel_rfl) (by kernel_rfl) (fun _ _ _ h => h) (Or.inl ⟨by rfl, ?hyD40⟩) (by assumption) ?_
                case hyD40 => (intro W hSw; (try dsimp only at hSw); go_simp; (try with_reducible rfl))
                try simp only [Act.put, List.setIfInBounds_toArray, List.set_cons_zero, List.set_cons_succ]
                refine wpAnyH_take (i := 41) (oi := { dst := some 103, op := Op.indexAddr 59 (Operand.tmp 14) (Operand.tmp 62), type := 0, pos := "law.go:317", after := #[{ on := 0, ground := Ground.data }, { on := 0, ground := Ground.phase }, { on := 1, ground := Ground.phase }, { on := 2, ground := Ground.phase }, { on := 3, ground := Ground.phase }, { on := 4, ground := Ground.phase }, { on := 5, ground := Ground.phase }, { on := 6, ground := Ground.phase }, { on := 7, ground := Ground.phase }, { on := 8, ground := Ground.phase }, { on := 9, ground := Ground.phase }, { on := 10, ground := Ground.phase }, { on := 11, ground := Ground.phase }, { on := 12, ground := Ground.phase }, { on := 13, ground := Ground.phase }, { on := 14, ground := Ground.phase }, { on := 15, ground := Ground.phase }, { on := 16, ground := Ground.phase }, { on := 17, ground := Ground.phase }, { on := 18, ground := Ground.phase }, { on := 19, ground := Ground.phase }, { on := 20, ground := Ground.phase }, { on := 21, ground := Ground.phase }, { on := 22, ground := Ground.phase }, { on := 23, ground := Ground.phase }, { on := 24, ground := Ground.phase }, { on := 25, ground := Ground.phase }, { on := 26, ground := Ground.phase }, { on := 27, ground := Ground.phase }, { on := 28, ground := Ground.phase }, { on := 29, ground := Ground.phase }, { on := 30, ground := Ground.phase }, { on := 31, ground := Ground.phase }, { on := 32, ground := Ground.phase }, { on := 33, ground := Ground.phase }, { on := 34, ground := Ground.phase }, { on := 35, ground := Ground.phase }, { on := 36, ground := Ground.phase }, { on := 37, ground := Ground.phase }, { on := 38, ground := Ground.phase }, { on := 39, ground := Ground.phase }, { on := 40, ground := Ground.phase }], guard := none }) (v := ?vD41) rfl (by kernel_rfl) (by kernel_rfl) (by kernel_rfl) (fun _ _ _ h => h) (Or.inl ⟨by rfl, ?hyD41⟩) (by assumption) ?_
                case hyD41 => (intro W hSw; (try dsimp only at hSw); go_simp; (try with_reducible rfl))
                try simp only [Act.put, List.setIfInBounds_toArray, List.set_cons_zero, List.set_cons_succ]
                refine wpAnyH_ready (rs := [42]) (by kernel_rfl) (by simp) ?_
                refine AllReadyH.cons (o := { dst := none, op := Op.store 4 (Operand.tmp 103) (Operand.tmp 102), type := 0, pos := "law.go:317", after := #[{ on := 41, ground := Ground.data }, { on := 40, ground := Ground.data }, { on := 28, ground := Ground.chain }, { on := 0, ground := Ground.phase }, { on := 1, ground := Ground.phase }, { on := 2, ground := Ground.phase }, { on := 3, ground := Ground.phase }, { on := 4, ground := Ground.phase }, { on := 5, ground := Ground.phase }, { on := 6, ground := Ground.phase }, { on := 7, ground := Ground.phase }, { on := 8, ground := Ground.phase }, { on := 9, ground := Ground.phase }, { on := 10, ground := Ground.phase }, { on := 11, ground := Ground.phase }, { on := 12, ground := Ground.phase }, { on := 13, ground := Ground.phase }, { on := 14, ground := Ground.phase }, { on := 15, ground := Ground.phase }, { on := 16, ground := Ground.phase }, { on := 17, ground := Ground.phase }, { on := 18, ground := Ground.phase }, { on := 19, ground := Ground.phase }, { on := 20, ground := Ground.phase }, { on := 21, ground := Ground.phase }, { on := 22, ground := Ground.phase }, { on := 23, ground := Ground.phase }, { on := 24, ground := Ground.phase }, { on := 25, ground := Ground.phase }, { on := 26, ground := Ground.phase }, { on := 27, ground := Ground.phase }, { on := 28, ground := Ground.phase }, { on := 29, ground := Ground.phase }, { on := 30, ground := Ground.phase }, { on := 31, ground := Ground.phase }, { on := 32, ground := Ground.phase }, { on := 33, ground := Ground.phase }, { on := 34, ground := Ground.phase }, { on := 35, ground := Ground.phase }, { on := 36, ground := Ground.phase }, { on := 37, ground := Ground.phase }, { on := 38, ground := Ground.phase }, { on := 39, ground := Ground.phase }, { on := 40, ground := Ground.phase }], guard := none }) rfl (fun K hK => ?_) AllReadyH.nil
                go_simp
                refine hK.out _ _ (by first | exact ⟨(kg _ _).trans c1, (kg _ _).trans c4, (kg _ _).trans c6, (kg _ _).trans c7, (kf _ _).trans f0, (kf _ _).trans f1⟩ | exact ⟨(kg2 _ _).trans c1, (kg2 _ _).trans c4, (kg2 _ _).trans c6, (kg2 _ _).trans c7, (kf2 _ _).trans f0, (kf2 _ _).trans f1⟩) (fun hHeld => ?_)
                clear hK K
                try simp only [Act.put, List.setIfInBounds_toArray, List.set_cons_zero, List.set_cons_succ]
                refine wpAnyH_done (by kernel_rfl) ?_ _
                have s9 := HS2.out true (by rw [HIV.out]; simp [Hd.lives, h2, hmt])
                clear HS2 kg kf kg2 kf2
                generalize (wr.setCell ⟨B1, j, none⟩ (.bool true)).drew = w9 at *
                obtain ⟨_, _, _, _, _, ⟨_, c1b, _, _, _⟩, _, _⟩ := HSL.out _ _ _ _ _ s9 j hlt
                rw [HHD.out] at c1b
                simp only at c1b
                have d2b : ∃ b, w9.cell? ⟨B2, j, none⟩ = some (.bool b) := ⟨_, (s9.cell 0 rfl j).trans (boolA_at (upTo_at _ j j hlt))⟩
                obtain ⟨z3, d2b⟩ := d2b
                have f2b := s9.frozen 0 rfl j
                have HE : Hid (St w [boxI B2 (boolA (upTo (fun s => (nowAt z0.hs s).sa == 2) (j + 1))) 59, boxI B1 (boolA (upTo (fun s => isVic z0.hs z0.ws ⟨r0, r1⟩ s) (j + 1))) 59, XX, ownI 46 8 (.slice (some ⟨g2, 0, none⟩) z0.hs.length cap2) z0.hs.length (slCells (slots z0.hs z0.ws)), lkI K A.t (Lk.new ⟨r0, r1⟩ 8 0) vl (.slice none 0 0) (.slice none 0 0), spI A (tbC 8) z0 v3 (.slice none 0 0), boxI F #[.int .u64 r0, .int .u64 r1] 24] (w9.setCell ⟨B2, j, none⟩ (.bool true))) := by
                  have a1 := s9.write 0 rfl j (.bool true)
                  have eb : (upTo (fun s => (nowAt z0.hs s).sa == 2) j).set j true = upTo (fun s => (nowAt z0.hs s).sa == 2) (j + 1) := by
                    rw [← upTo_set (fun s => (nowAt z0.hs s).sa == 2) j hj1 hlt]
                    simp only [HHD.out, h2]
                  rw [boolA_set, eb] at a1
                  exact a1
                clear s9 c0 c1 c4 c6 c7 f0 f1 d1 d2 f1'
                go_wp2
                go_roundw
                case rel => exact ⟨j + 1, by go_num, by omega, by omega, HE.out⟩
                case measure => simp [intOf]; omega
          · as_aux_lemma =>
              have hN0 : (((x0 &&& r0 : Nat) : Int) != 0) = true := by simp; omega
              have hmt : (⟨x0, x1⟩ : Sg).meets ⟨r0, r1⟩ = true := by rw [meets_eq]; simp [hn0]
              generalize hgx0 : x0 &&& r0 = X0 at *
              go_upto_region 16 with fail
              refine wp_region_held_drew (S := fun W => W.cell? ⟨g2, j * 8 + 1, none⟩ = some (.int .i64 hsa) ∧ W.cell? ⟨g2, j * 8 + 4, none⟩ = some (.bool false) ∧ W.cell? ⟨g2, j * 8 + 6, none⟩ = some (.int .u64 (x0 : Nat)) ∧ W.cell? ⟨g2, j * 8 + 7, none⟩ = some (.int .u64 (x1 : Nat)) ∧ W.cell? ⟨F, 0, none⟩ = some (.int .u64 r0) ∧ W.cell? ⟨F, 1, none⟩ = some (.int .u64 r1)) (by kernel_rfl) ⟨c1, c4, c6, c7, f0, f1⟩ (fun hHeld => ?_)
              refine wpAnyH_take (i := 0) (oi := { dst := some 62, op := Op.move (Operand.tmp 16), type := 3, pos := "law.go:317", after := #[], guard := none }) (v := ?vC0) rfl (by kernel_rfl) (by kernel_rfl) (by kernel_rfl) (fun _ _ _ h => h) (Or.inl ⟨by rfl, ?hyC0⟩) (by assumption) ?_
              case hyC0 => (intro W hSw; (try dsimp only at hSw); go_simp; (try with_reducible rfl))
              try simp only [Act.put, List.setIfInBounds_toArray, List.set_cons_zero, List.set_cons_succ]
              refine wpAnyH_take (i := 1) (oi := { dst := some 63, op := Op.move (Operand.tmp 13), type := 38, pos := "law.go:317", after := #[], guard := none }) (v := ?vC1) rfl (by kernel_rfl) (by kernel_rfl) (by kernel_rfl) (fun _ _ _ h => h) (Or.inl ⟨by rfl, ?hyC1⟩) (by assumption) ?_
              case hyC1 => (intro W hSw; (try dsimp only at hSw); go_simp; (try with_reducible rfl))
              try simp only [Act.put, List.setIfInBounds_toArray, List.set_cons_zero, List.set_cons_succ]
              refine wpAnyH_take (i := 2) (oi := { dst := some 64, op := Op.move (Operand.tmp 16), type := 3, pos := "law.go:317", after := #[], guard := none }) (v := ?vC2) rfl (by kernel_rfl) (by kernel_rfl) (by kernel_rfl) (fun _ _ _ h => h) (Or.inl ⟨by rfl, ?hyC2⟩) (by assumption) ?_
              case hyC2 => (intro W hSw; (try dsimp only at hSw); go_simp; (try with_reducible rfl))
              try simp only [Act.put, List.setIfInBounds_toArray, List.set_cons_zero, List.set_cons_succ]
              refine wpAnyH_take (i := 3) (oi := { dst := some 65, op := Op.indexAddr 38 (Operand.tmp 63) (Operand.tmp 64), type := 0, pos := "law.go:317", after := #[{ on := 1, ground := Ground.data }, { on := 2, ground := Ground.data }], guard := none }) (v := ?vC3) rfl (by kernel_rfl) (by kernel_rfl) (by kernel_rfl) (fun _ _ _ h => h) (Or.inl ⟨by rfl, ?hyC3⟩) (by assumption) ?_
              case hyC3 => (intro W hSw; (try dsimp only at hSw); go_simp; (try with_reducible rfl))
              try simp only [Act.put, List.setIfInBounds_toArray, List.set_cons_zero, List.set_cons_succ]
              refine wpAnyH_take (i := 4) (oi := { dst := some 66, op := Op.fieldAddr 46 (Operand.tmp 65) 0, type := 0, pos := "law.go:317", after := #[{ on := 3, ground := Ground.data }], guard := none }) (v := ?vC4) rfl (by kernel_rfl) (by kernel_rfl) (by kernel_rfl) (fun _ _ _ h => h) (Or.inl ⟨by rfl, ?hyC4⟩) (by assumption) ?_
              case hyC4 => (intro W hSw; (try dsimp only at hSw); go_simp; (try with_reducible rfl))
              try simp only [Act.put, List.setIfInBounds_toArray, List.set_cons_zero, List.set_cons_succ]
              refine wpAnyH_take (i := 5) (oi := { dst := some 67, op := Op.fieldAddr 44 (Operand.tmp 66) 1, type := 0, pos := "law.go:317", after := #[{ on := 4, ground := Ground.data }], guard := none }) (v := ?vC5) rfl (by kernel_rfl) (by kernel_rfl) (by kernel_rfl) (fun _ _ _ h => h) (Or.inl ⟨by rfl, ?hyC5⟩) (by assumption) ?_
              case hyC5 => (intro W hSw; (try dsimp only at hSw); go_simp; (try with_reducible rfl))
              try simp only [Act.put, List.setIfInBounds_toArray, List.set_cons_zero, List.set_cons_succ]
              refine wpAnyH_take (i := 6) (oi := { dst := some 68, op := Op.load 3 (Operand.tmp 67), type := 3, pos := "law.go:317", after := #[{ on := 5, ground := Ground.data }], guard := none }) (v := ?vC6) rfl (by kernel_rfl) (by kernel_rfl) (by kernel_rfl) (fun _ _ _ h => h) (Or.inl ⟨by rfl, ?hyC6⟩) (by assumption) ?_
              case hyC6 => (intro W hSw; (try dsimp only at hSw); go_simp; (try with_reducible rfl))
              try simp only [Act.put, List.setIfInBounds_toArray, List.set_cons_zero, List.set_cons_succ]
              refine wpAnyH_take (i := 7) (oi := { dst := some 69, op := Op.binOp BinOp.eql 3 (Operand.tmp 68) (Operand.const (Value.int IntKind.i64 2)) 3, type := 4, pos := "law.go:317", after := #[{ on := 6, ground := Ground.data }], guard := none }) (v := ?vC7) rfl (by kernel_rfl) (by kernel_rfl) (by kernel_rfl) (fun _ _ _ h => h) (Or.inl ⟨by rfl, ?hyC7⟩) (by assumption) ?_
              case hyC7 => (intro W hSw; (try dsimp only at hSw); go_simp; (try with_reducible rfl))
              try simp only [Act.put, List.setIfInBounds_toArray, List.set_cons_zero, List.set_cons_succ]
              refine wpAnyH_take (i := 8) (oi := { dst := some 70, op := Op.move (Operand.tmp 69), type := 4, pos := "law.go:317", after := #[{ on := 7, ground := Ground.data }], guard := none }) (v := ?vC8) rfl (by kernel_rfl) (by kernel_rfl) (by kernel_rfl) (fun _ _ _ h => h) (Or.inl ⟨by rfl, ?hyC8⟩) (by assumption) ?_
              case hyC8 => (intro W hSw; (try dsimp only at hSw); go_simp; (try with_reducible rfl))
              try simp only [Act.put, List.setIfInBounds_toArray, List.set_cons_zero, List.set_cons_succ]
              refine wpAnyH_take (i := 9) (oi := { dst := some 71, op := Op.move (Operand.tmp 13), type := 38, pos := "law.go:317", after := #[{ on := 8, ground := Ground.guard }], guard := some (8, true) }) (v := ?vC9) rfl (by kernel_rfl) (by kernel_rfl) (by kernel_rfl) (fun _ _ _ h => h) (Or.inl ⟨by rfl, ?hyC9⟩) (by assumption) ?_
              case hyC9 => (intro W hSw; (try dsimp only at hSw); go_simp; (try with_reducible rfl))
              try simp only [Act.put, List.setIfInBounds_toArray, List.set_cons_zero, List.set_cons_succ]
              refine wpAnyH_take (i := 10) (oi := { dst := some 72, op := Op.move (Operand.tmp 16), type := 3, pos := "law.go:317", after := #[{ on := 8, ground := Ground.guard }], guard := some (8, true) }) (v := ?vC10) rfl (by kernel_rfl) (by kernel_rfl) (by kernel_rfl) (fun _ _ _ h => h) (Or.inl ⟨by rfl, ?hyC10⟩) (by assumption) ?_
              case hyC10 => (intro W hSw; (try dsimp only at hSw); go_simp; (try with_reducible rfl))
              try simp only [Act.put, List.setIfInBounds_toArray, List.set_cons_zero, List.set_cons_succ]
              refine wpAnyH_take (i := 11) (oi := { dst := some 73, op := Op.indexAddr 38 (Operand.tmp 71) (Operand.tmp 72), type := 0, pos := "law.go:317", after := #[{ on := 9, ground := Ground.data }, { on := 10, ground := Ground.data }, { on := 8, ground := Ground.guard }], guard := some (8, true) }) (v := ?vC11) rfl (by kernel_rfl) (by kernel_rfl) (by kernel_rfl) (fun _ _ _ h => h) (Or.inl ⟨by rfl, ?hyC11⟩) (by assumption) ?_
              case hyC11 => (intro W hSw; (try dsimp only at hSw); go_simp; (try with_reducible rfl))
              try simp only [Act.put, List.setIfInBounds_toArray, List.set_cons_zero, List.set_cons_succ]
              refine wpAnyH_take (i := 12) (oi := { dst := some 74, op := Op.fieldAddr 46 (Operand.tmp 73) 0, type := 0, pos := "law.go:317", after := #[{ on := 11, ground := Ground.data }, { on := 8, ground := Ground.guard }], guard := some (8, true) }) (v := ?vC12) rfl (by kernel_rfl) (by kernel_rfl) (by kernel_rfl) (fun _ _ _ h => h) (Or.inl ⟨by rfl, ?hyC12⟩) (by assumption) ?_
              case hyC12 => (intro W hSw; (try dsimp only at hSw); go_simp; (try with_reducible rfl))
              try simp only [Act.put, List.setIfInBounds_toArray, List.set_cons_zero, List.set_cons_succ]
              refine wpAnyH_take (i := 13) (oi := { dst := some 75, op := Op.fieldAddr 44 (Operand.tmp 74) 4, type := 0, pos := "law.go:317", after := #[{ on := 12, ground := Ground.data }, { on := 8, ground := Ground.guard }], guard := some (8, true) }) (v := ?vC13) rfl (by kernel_rfl) (by kernel_rfl) (by kernel_rfl) (fun _ _ _ h => h) (Or.inl ⟨by rfl, ?hyC13⟩) (by assumption) ?_
              case hyC13 => (intro W hSw; (try dsimp only at hSw); go_simp; (try with_reducible rfl))
              try simp only [Act.put, List.setIfInBounds_toArray, List.set_cons_zero, List.set_cons_succ]
              refine wpAnyH_take (i := 14) (oi := { dst := some 76, op := Op.load 4 (Operand.tmp 75), type := 4, pos := "law.go:317", after := #[{ on := 13, ground := Ground.data }, { on := 8, ground := Ground.guard }], guard := some (8, true) }) (v := ?vC14) rfl (by kernel_rfl) (by kernel_rfl) (by kernel_rfl) (fun _ _ _ h => h) (Or.inl ⟨by rfl, ?hyC14⟩) (by assumption) ?_
              case hyC14 => (intro W hSw; (try dsimp only at hSw); go_simp; (try with_reducible rfl))
              try simp only [Act.put, List.setIfInBounds_toArray, List.set_cons_zero, List.set_cons_succ]
              refine wpAnyH_take (i := 15) (oi := { dst := some 77, op := Op.unOp UnOp.not 4 (Operand.tmp 76), type := 4, pos := "law.go:317", after := #[{ on := 14, ground := Ground.data }, { on := 8, ground := Ground.guard }], guard := some (8, true) }) (v := ?vC15) rfl (by kernel_rfl) (by kernel_rfl) (by kernel_rfl) (fun _ _ _ h => h) (Or.inl ⟨by rfl, ?hyC15⟩) (by assumption) ?_
              case hyC15 => (intro W hSw; (try dsimp only at hSw); go_simp; (try with_reducible rfl))
              try simp only [Act.put, List.setIfInBounds_toArray, List.set_cons_zero, List.set_cons_succ]
              refine wpAnyH_take (i := 16) (oi := { dst := some 78, op := Op.pick (Operand.tmp 70) (Operand.tmp 77) (Operand.const (Value.bool false)), type := 4, pos := "law.go:317", after := #[{ on := 8, ground := Ground.data }, { on := 15, ground := Ground.data }], guard := none }) (v := ?vC16) rfl (by kernel_rfl) (by kernel_rfl) (by kernel_rfl) (fun _ _ _ h => h) (Or.inl ⟨by rfl, ?hyC16⟩) (by assumption) ?_
              case hyC16 => (intro W hSw; (try dsimp only at hSw); go_simp; (try with_reducible rfl))
              try simp only [Act.put, List.setIfInBounds_toArray, List.set_cons_zero, List.set_cons_succ]
              refine wpAnyH_take (i := 17) (oi := { dst := some 79, op := Op.move (Operand.tmp 78), type := 4, pos := "law.go:317", after := #[{ on := 16, ground := Ground.data }, { on := 8, ground := Ground.chain }], guard := none }) (v := ?vC17) rfl (by kernel_rfl) (by kernel_rfl) (by kernel_rfl) (fun _ _ _ h => h) (Or.inl ⟨by rfl, ?hyC17⟩) (by assumption) ?_
              case hyC17 => (intro W hSw; (try dsimp only at hSw); go_simp; (try with_reducible rfl))
              try simp only [Act.put, List.setIfInBounds_toArray, List.set_cons_zero, List.set_cons_succ]
              refine wpAnyH_take (i := 18) (oi := { dst := some 80, op := Op.move (Operand.tmp 13), type := 38, pos := "law.go:317", after := #[{ on := 17, ground := Ground.guard }], guard := some (17, true) }) (v := ?vC18) rfl (by kernel_rfl) (by kernel_rfl) (by kernel_rfl) (fun _ _ _ h => h) (Or.inl ⟨by rfl, ?hyC18⟩) (by assumption) ?_
              case hyC18 => (intro W hSw; (try dsimp only at hSw); go_simp; (try with_reducible rfl))
              try simp only [Act.put, List.setIfInBounds_toArray, List.set_cons_zero, List.set_cons_succ]
              refine wpAnyH_take (i := 19) (oi := { dst := some 81, op := Op.move (Operand.tmp 16), type := 3, pos := "law.go:317", after := #[{ on := 17, ground := Ground.guard }], guard := some (17, true) }) (v := ?vC19) rfl (by kernel_rfl) (by kernel_rfl) (by kernel_rfl) (fun _ _ _ h => h) (Or.inl ⟨by rfl, ?hyC19⟩) (by assumption) ?_
              case hyC19 => (intro W hSw; (try dsimp only at hSw); go_simp; (try with_reducible rfl))
              try simp only [Act.put, List.setIfInBounds_toArray, List.set_cons_zero, List.set_cons_succ]
              refine wpAnyH_take (i := 20) (oi := { dst := some 82, op := Op.indexAddr 38 (Operand.tmp 80) (Operand.tmp 81), type := 0, pos := "law.go:317", after := #[{ on := 18, ground := Ground.data }, { on := 19, ground := Ground.data }, { on := 17, ground := Ground.guard }], guard := some (17, true) }) (v := ?vC20) rfl (by kernel_rfl) (by kernel_rfl) (by kernel_rfl) (fun _ _ _ h => h) (Or.inl ⟨by rfl, ?hyC20⟩) (by assumption) ?_
              case hyC20 => (intro W hSw; (try dsimp only at hSw); go_simp; (try with_reducible rfl))
              try simp only [Act.put, List.setIfInBounds_toArray, List.set_cons_zero, List.set_cons_succ]
              refine wpAnyH_take (i := 21) (oi := { dst := some 83, op := Op.fieldAddr 46 (Operand.tmp 82) 1, type := 0, pos := "law.go:317", after := #[{ on := 20, ground := Ground.data }, { on := 17, ground := Ground.guard }], guard := some (17, true) }) (v := ?vC21) rfl (by kernel_rfl) (by kernel_rfl) (by kernel_rfl) (fun _ _ _ h => h) (Or.inl ⟨by rfl, ?hyC21⟩) (by assumption) ?_
              case hyC21 => (intro W hSw; (try dsimp only at hSw); go_simp; (try with_reducible rfl))
              try simp only [Act.put, List.setIfInBounds_toArray, List.set_cons_zero, List.set_cons_succ]
              refine wpAnyH_take (i := 22) (oi := { dst := some 84, op := Op.indexAddr 24 (Operand.tmp 83) (Operand.const (Value.int IntKind.i64 0)), type := 0, pos := "law.go:317", after := #[{ on := 21, ground := Ground.data }, { on := 17, ground := Ground.guard }], guard := some (17, true) }) (v := ?vC22) rfl (by kernel_rfl) (by kernel_rfl) (by kernel_rfl) (fun _ _ _ h => h) (Or.inl ⟨by rfl, ?hyC22⟩) (by assumption) ?_
              case hyC22 => (intro W hSw; (try dsimp only at hSw); go_simp; (try with_reducible rfl))
              try simp only [Act.put, List.setIfInBounds_toArray, List.set_cons_zero, List.set_cons_succ]
              refine wpAnyH_take (i := 23) (oi := { dst := some 85, op := Op.load 22 (Operand.tmp 84), type := 22, pos := "law.go:317", after := #[{ on := 22, ground := Ground.data }, { on := 17, ground := Ground.guard }], guard := some (17, true) }) (v := ?vC23) rfl (by kernel_rfl) (by kernel_rfl) (by kernel_rfl) (fun _ _ _ h => h) (Or.inl ⟨by rfl, ?hyC23⟩) (by assumption) ?_
              case hyC23 => (intro W hSw; (try dsimp only at hSw); go_simp; (try with_reducible rfl))
              try simp only [Act.put, List.setIfInBounds_toArray, List.set_cons_zero, List.set_cons_succ]
              refine wpAnyH_take (i := 24) (oi := { dst := some 86, op := Op.indexAddr 24 (Operand.tmp 3) (Operand.const (Value.int IntKind.i64 0)), type := 0, pos := "law.go:317", after := #[{ on := 17, ground := Ground.guard }], guard := some (17, true) }) (v := ?vC24) rfl (by kernel_rfl) (by kernel_rfl) (by kernel_rfl) (fun _ _ _ h => h) (Or.inl ⟨by rfl, ?hyC24⟩) (by assumption) ?_
              case hyC24 => (intro W hSw; (try dsimp only at hSw); go_simp; (try with_reducible rfl))
              try simp only [Act.put, List.setIfInBounds_toArray, List.set_cons_zero, List.set_cons_succ]
              refine wpAnyH_take (i := 25) (oi := { dst := some 87, op := Op.load 22 (Operand.tmp 86), type := 22, pos := "law.go:317", after := #[{ on := 24, ground := Ground.data }, { on := 17, ground := Ground.guard }], guard := some (17, true) }) (v := ?vC25) rfl (by kernel_rfl) (by kernel_rfl) (by kernel_rfl) (fun _ _ _ h => h) (Or.inl ⟨by rfl, ?hyC25⟩) (by assumption) ?_
              case hyC25 => (intro W hSw; (try dsimp only at hSw); go_simp; (try with_reducible rfl))
              try simp only [Act.put, List.setIfInBounds_toArray, List.set_cons_zero, List.set_cons_succ]
              refine wpAnyH_take (i := 26) (oi := { dst := some 88, op := Op.binOp BinOp.and 22 (Operand.tmp 85) (Operand.tmp 87) 22, type := 22, pos := "law.go:317", after := #[{ on := 23, ground := Ground.data }, { on := 25, ground := Ground.data }, { on := 17, ground := Ground.guard }], guard := some (17, true) }) (v := ?vC26) rfl (by kernel_rfl) (by kernel_rfl) (by kernel_rfl) (fun _ _ _ h => h) (Or.inl ⟨by rfl, ?hyC26⟩) (by assumption) ?_
              case hyC26 => (intro W hSw; (try dsimp only at hSw); go_simp; (try with_reducible rfl))
              try simp only [Act.put, List.setIfInBounds_toArray, List.set_cons_zero, List.set_cons_succ]
              refine wpAnyH_take (i := 27) (oi := { dst := some 89, op := Op.binOp BinOp.neq 22 (Operand.tmp 88) (Operand.const (Value.int IntKind.u64 0)) 22, type := 4, pos := "law.go:317", after := #[{ on := 26, ground := Ground.data }, { on := 17, ground := Ground.guard }], guard := some (17, true) }) (v := ?vC27) rfl (by kernel_rfl) (by kernel_rfl) (by kernel_rfl) (fun _ _ _ h => h) (Or.inl ⟨by rfl, ?hyC27⟩) (by assumption) ?_
              case hyC27 => (intro W hSw; (try dsimp only at hSw); go_simp; (try with_reducible rfl))
              try simp only [Act.put, List.setIfInBounds_toArray, List.set_cons_zero, List.set_cons_succ]
              refine wpAnyH_take (i := 28) (oi := { dst := some 90, op := Op.move (Operand.tmp 89), type := 4, pos := "law.go:317", after := #[{ on := 27, ground := Ground.data }, { on := 17, ground := Ground.chain }, { on := 17, ground := Ground.guard }], guard := some (17, true) }) (v := ?vC28) rfl (by kernel_rfl) (by kernel_rfl) (by kernel_rfl) (fun _ _ _ h => h) (Or.inl ⟨by rfl, ?hyC28⟩) (by assumption) ?_
              case hyC28 => (intro W hSw; (try dsimp only at hSw); go_simp; (try with_reducible rfl))
              try simp only [Act.put, List.setIfInBounds_toArray, List.set_cons_zero, List.set_cons_succ]
              refine wpAnyH_take (i := 29) (oi := { dst := some 91, op := Op.move (Operand.tmp 13), type := 38, pos := "law.go:317", after := #[{ on := 28, ground := Ground.guard }], guard := some (28, false) }) (v := undef) rfl (by kernel_rfl) (by kernel_rfl) (by kernel_rfl) (fun _ _ _ h => h) (Or.inr ⟨by rfl, rfl⟩) (by assumption) ?_
              try simp only [Act.put, List.setIfInBounds_toArray, List.set_cons_zero, List.set_cons_succ]
              refine wpAnyH_take (i := 30) (oi := { dst := some 92, op := Op.move (Operand.tmp 16), type := 3, pos := "law.go:317", after := #[{ on := 28, ground := Ground.guard }], guard := some (28, false) }) (v := undef) rfl (by kernel_rfl) (by kernel_rfl) (by kernel_rfl) (fun _ _ _ h => h) (Or.inr ⟨by rfl, rfl⟩) (by assumption) ?_
              try simp only [Act.put, List.setIfInBounds_toArray, List.set_cons_zero, List.set_cons_succ]
              refine wpAnyH_take (i := 31) (oi := { dst := some 93, op := Op.indexAddr 38 (Operand.tmp 91) (Operand.tmp 92), type := 0, pos := "law.go:317", after := #[{ on := 29, ground := Ground.data }, { on := 30, ground := Ground.data }, { on := 28, ground := Ground.guard }], guard := some (28, false) }) (v := undef) rfl (by kernel_rfl) (by kernel_rfl) (by kernel_rfl) (fun _ _ _ h => h) (Or.inr ⟨by rfl, rfl⟩) (by assumption) ?_
              try simp only [Act.put, List.setIfInBounds_toArray, List.set_cons_zero, List.set_cons_succ]
              refine wpAnyH_take (i := 32) (oi := { dst := some 94, op := Op.fieldAddr 46 (Operand.tmp 93) 1, type := 0, pos := "law.go:317", after := #[{ on := 31, ground := Ground.data }, { on := 28, ground := Ground.guard }], guard := some (28, false) }) (v := undef) rfl (by kernel_rfl) (by kernel_rfl) (by kernel_rfl) (fun _ _ _ h => h) (Or.inr ⟨by rfl, rfl⟩) (by assumption) ?_
              try simp only [Act.put, List.setIfInBounds_toArray, List.set_cons_zero, List.set_cons_succ]
              refine wpAnyH_take (i := 33) (oi := { dst := some 95, op := Op.indexAddr 24 (Operand.tmp 94) (Operand.const (Value.int IntKind.i64 1)), type := 0, pos := "law.go:317", after := #[{ on := 32, ground := Ground.data }, { on := 28, ground := Ground.guard }], guard := some (28, false) }) (v := undef) rfl (by kernel_rfl) (by kernel_rfl) (by kernel_rfl) (fun _ _ _ h => h) (Or.inr ⟨by rfl, rfl⟩) (by assumption) ?_
              try simp only [Act.put, List.setIfInBounds_toArray, List.set_cons_zero, List.set_cons_succ]
              refine wpAnyH_take (i := 34) (oi := { dst := some 96, op := Op.load 22 (Operand.tmp 95), type := 22, pos := "law.go:317", after := #[{ on := 33, ground := Ground.data }, { on := 28, ground := Ground.guard }], guard := some (28, false) }) (v := undef) rfl (by kernel_rfl) (by kernel_rfl) (by kernel_rfl) (fun _ _ _ h => h) (Or.inr ⟨by rfl, rfl⟩) (by assumption) ?_
              try simp only [Act.put, List.setIfInBounds_toArray, List.set_cons_zero, List.set_cons_succ]
              refine wpAnyH_take (i := 35) (oi := { dst := some 97, op := Op.indexAddr 24 (Operand.tmp 3) (Operand.const (Value.int IntKind.i64 1)), type := 0, pos := "law.go:317", after := #[{ on := 28, ground := Ground.guard }], guard := some (28, false) }) (v := undef) rfl (by kernel_rfl) (by kernel_rfl) (by kernel_rfl) (fun _ _ _ h => h) (Or.inr ⟨by rfl, rfl⟩) (by assumption) ?_
              try simp only [Act.put, List.setIfInBounds_toArray, List.set_cons_zero, List.set_cons_succ]
              refine wpAnyH_take (i := 36) (oi := { dst := some 98, op := Op.load 22 (Operand.tmp 97), type := 22, pos := "law.go:317", after := #[{ on := 35, ground := Ground.data }, { on := 28, ground := Ground.guard }], guard := some (28, false) }) (v := undef) rfl (by kernel_rfl) (by kernel_rfl) (by kernel_rfl) (fun _ _ _ h => h) (Or.inr ⟨by rfl, rfl⟩) (by assumption) ?_
              try simp only [Act.put, List.setIfInBounds_toArray, List.set_cons_zero, List.set_cons_succ]
              refine wpAnyH_take (i := 37) (oi := { dst := some 99, op := Op.binOp BinOp.and 22 (Operand.tmp 96) (Operand.tmp 98) 22, type := 22, pos := "law.go:317", after := #[{ on := 34, ground := Ground.data }, { on := 36, ground := Ground.data }, { on := 28, ground := Ground.guard }], guard := some (28, false) }) (v := undef) rfl (by kernel_rfl) (by kernel_rfl) (by kernel_rfl) (fun _ _ _ h => h) (Or.inr ⟨by rfl, rfl⟩) (by assumption) ?_
              try simp only [Act.put, List.setIfInBounds_toArray, List.set_cons_zero, List.set_cons_succ]
              refine wpAnyH_take (i := 38) (oi := { dst := some 100, op := Op.binOp BinOp.neq 22 (Operand.tmp 99) (Operand.const (Value.int IntKind.u64 0)) 22, type := 4, pos := "law.go:317", after := #[{ on := 37, ground := Ground.data }, { on := 28, ground := Ground.guard }], guard := some (28, false) }) (v := undef) rfl (by kernel_rfl) (by kernel_rfl) (by kernel_rfl) (fun _ _ _ h => h) (Or.inr ⟨by rfl, rfl⟩) (by assumption) ?_
              try simp only [Act.put, List.setIfInBounds_toArray, List.set_cons_zero, List.set_cons_succ]
              refine wpAnyH_take (i := 39) (oi := { dst := some 101, op := Op.pick (Operand.tmp 90) (Operand.const (Value.bool true)) (Operand.tmp 100), type := 4, pos := "law.go:317", after := #[{ on := 28, ground := Ground.data }, { on := 38, ground := Ground.data }, { on := 17, ground := Ground.guard }], guard := some (17, true) }) (v := ?vC39) rfl (by kernel_rfl) (by kernel_rfl) (by kernel_rfl) (fun _ _ _ h => h) (Or.inl ⟨by rfl, ?hyC39⟩) (by assumption) ?_
              case hyC39 => (intro W hSw; (try dsimp only at hSw); go_simp; (try with_reducible rfl))
              try simp only [Act.put, List.setIfInBounds_toArray, List.set_cons_zero, List.set_cons_succ]
              refine wpAnyH_take (i := 40) (oi := { dst := some 102, op := Op.pick (Operand.tmp 79) (Operand.tmp 101) (Operand.const (Value.bool false)), type := 4, pos := "law.go:317", after := #[{ on := 17, ground := Ground.data }, { on := 39, ground := Ground.data }], guard := none }) (v := ?vC40) rfl (by kernel_rfl) (by kernel_rfl) (by kernel_rfl) (fun _ _ _ h => h) (Or.inl ⟨by rfl, ?hyC40⟩) (by assumption) ?_
              case hyC40 => (intro W hSw; (try dsimp only at hSw); go_simp; (try with_reducible rfl))
              try simp only [Act.put, List.setIfInBounds_toArray, List.set_cons_zero, List.set_cons_succ]
              refine wpAnyH_take (i := 41) (oi := { dst := some 103, op := Op.indexAddr 59 (Operand.tmp 14) (Operand.tmp 62), type := 0, pos := "law.go:317", after := #[{ on := 0, ground := Ground.data }, { on := 0, ground := Ground.phase }, { on := 1, ground := Ground.phase }, { on := 2, ground := Ground.phase }, { on := 3, ground := Ground.phase }, { on := 4, ground := Ground.phase }, { on := 5, ground := Ground.phase }, { on := 6, ground := Ground.phase }, { on := 7, ground := Ground.phase }, { on := 8, ground := Ground.phase }, { on := 9, ground := Ground.phase }, { on := 10, ground := Ground.phase }, { on := 11, ground := Ground.phase }, { on := 12, ground := Ground.phase }, { on := 13, ground := Ground.phase }, { on := 14, ground := Ground.phase }, { on := 15, ground := Ground.phase }, { on := 16, ground := Ground.phase }, { on := 17, ground := Ground.phase }, { on := 18, ground := Ground.phase }, { on := 19, ground := Ground.phase }, { on := 20, ground := Ground.phase }, { on := 21, ground := Ground.phase }, { on := 22, ground := Ground.phase }, { on := 23, ground := Ground.phase }, { on := 24, ground := Ground.phase }, { on := 25, ground := Ground.phase }, { on := 26, ground := Ground.phase }, { on := 27, ground := Ground.phase }, { on := 28, ground := Ground.phase }, { on := 29, ground := Ground.phase }, { on := 30, ground := Ground.phase }, { on := 31, ground := Ground.phase }, { on := 32, ground := Ground.phase }, { on := 33, ground := Ground.phase }, { on := 34, ground := Ground.phase }, { on := 35, ground := Ground.phase }, { on := 36, ground := Ground.phase }, { on := 37, ground := Ground.phase }, { on := 38, ground := Ground.phase }, { on := 39, ground := Ground.phase }, { on := 40, ground := Ground.phase }], guard := none }) (v := ?vC41) rfl (by kernel_rfl) (by kernel_rfl) (by kernel_rfl) (fun _ _ _ h => h) (Or.inl ⟨by rfl, ?hyC41⟩) (by assumption) ?_
              case hyC41 => (intro W hSw; (try dsimp only at hSw); go_simp; (try with_reducible rfl))
              try simp only [Act.put, List.setIfInBounds_toArray, List.set_cons_zero, List.set_cons_succ]
              refine wpAnyH_ready (rs := [42]) (by kernel_rfl) (by simp) ?_
              refine AllReadyH.cons (o := { dst := none, op := Op.store 4 (Operand.tmp 103) (Operand.tmp 102), type := 0, pos := "law.go:317", after := #[{ on := 41, ground := Ground.data }, { on := 40, ground := Ground.data }, { on := 28, ground := Ground.chain }, { on := 0, ground := Ground.phase }, { on := 1, ground := Ground.phase }, { on := 2, ground := Ground.phase }, { on := 3, ground := Ground.phase }, { on := 4, ground := Ground.phase }, { on := 5, ground := Ground.phase }, { on := 6, ground := Ground.phase }, { on := 7, ground := Ground.phase }, { on := 8, ground := Ground.phase }, { on := 9, ground := Ground.phase }, { on := 10, ground := Ground.phase }, { on := 11, ground := Ground.phase }, { on := 12, ground := Ground.phase }, { on := 13, ground := Ground.phase }, { on := 14, ground := Ground.phase }, { on := 15, ground := Ground.phase }, { on := 16, ground := Ground.phase }, { on := 17, ground := Ground.phase }, { on := 18, ground := Ground.phase }, { on := 19, ground := Ground.phase }, { on := 20, ground := Ground.phase }, { on := 21, ground := Ground.phase }, { on := 22, ground := Ground.phase }, { on := 23, ground := Ground.phase }, { on := 24, ground := Ground.phase }, { on := 25, ground := Ground.phase }, { on := 26, ground := Ground.phase }, { on := 27, ground := Ground.phase }, { on := 28, ground := Ground.phase }, { on := 29, ground := Ground.phase }, { on := 30, ground := Ground.phase }, { on := 31, ground := Ground.phase }, { on := 32, ground := Ground.phase }, { on := 33, ground := Ground.phase }, { on := 34, ground := Ground.phase }, { on := 35, ground := Ground.phase }, { on := 36, ground := Ground.phase }, { on := 37, ground := Ground.phase }, { on := 38, ground := Ground.phase }, { on := 39, ground := Ground.phase }, { on := 40, ground := Ground.phase }], guard := none }) rfl (fun K hK => ?_) AllReadyH.nil
              go_simp
              refine hK.out _ _ (by first | exact ⟨(kg _ _).trans c1, (kg _ _).trans c4, (kg _ _).trans c6, (kg _ _).trans c7, (kf _ _).trans f0, (kf _ _).trans f1⟩ | exact ⟨(kg2 _ _).trans c1, (kg2 _ _).trans c4, (kg2 _ _).trans c6, (kg2 _ _).trans c7, (kf2 _ _).trans f0, (kf2 _ _).trans f1⟩) (fun hHeld => ?_)
              clear hK K
              try simp only [Act.put, List.setIfInBounds_toArray, List.set_cons_zero, List.set_cons_succ]
              refine wpAnyH_done (by kernel_rfl) ?_ _
              have s9 := HS2.out true (by rw [HIV.out]; simp [Hd.lives, h2, hmt])
              clear HS2 kg kf kg2 kf2
              generalize (wr.setCell ⟨B1, j, none⟩ (.bool true)).drew = w9 at *
              obtain ⟨_, _, _, _, _, ⟨_, c1b, _, _, _⟩, _, _⟩ := HSL.out _ _ _ _ _ s9 j hlt
              rw [HHD.out] at c1b
              simp only at c1b
              have d2b : ∃ b, w9.cell? ⟨B2, j, none⟩ = some (.bool b) := ⟨_, (s9.cell 0 rfl j).trans (boolA_at (upTo_at _ j j hlt))⟩
              obtain ⟨z3, d2b⟩ := d2b
              have f2b := s9.frozen 0 rfl j
              have HE : Hid (St w [boxI B2 (boolA (upTo (fun s => (nowAt z0.hs s).sa == 2) (j + 1))) 59, boxI B1 (boolA (upTo (fun s => isVic z0.hs z0.ws ⟨r0, r1⟩ s) (j + 1))) 59, XX, ownI 46 8 (.slice (some ⟨g2, 0, none⟩) z0.hs.length cap2) z0.hs.length (slCells (slots z0.hs z0.ws)), lkI K A.t (Lk.new ⟨r0, r1⟩ 8 0) vl (.slice none 0 0) (.slice none 0 0), spI A (tbC 8) z0 v3 (.slice none 0 0), boxI F #[.int .u64 r0, .int .u64 r1] 24] (w9.setCell ⟨B2, j, none⟩ (.bool true))) := by
                have a1 := s9.write 0 rfl j (.bool true)
                have eb : (upTo (fun s => (nowAt z0.hs s).sa == 2) j).set j true = upTo (fun s => (nowAt z0.hs s).sa == 2) (j + 1) := by
                  rw [← upTo_set (fun s => (nowAt z0.hs s).sa == 2) j hj1 hlt]
                  simp only [HHD.out, h2]
                rw [boolA_set, eb] at a1
                exact a1
              clear s9 c0 c1 c4 c6 c7 f0 f1 d1 d2 f1'
              go_wp2
              go_roundw
              case rel => exact ⟨j + 1, by go_num, by omega, by omega, HE.out⟩
              case measure => simp [intOf]; omega
    · obtain rfl : j = 8 := by omega
      have e1 : ¬ ((8 : Nat) : Int) < 8 := by omega
      have hinv : MInv z0.hs ⟨r0, r1⟩ 1 z0 (Lk.new ⟨r0, r1⟩ 8 0) (upTo (fun s => isVic z0.hs z0.ws ⟨r0, r1⟩ s) 8) (upTo (fun s => (nowAt z0.hs s).sa == 2) 8) := MInv.first okz H80.out hwz hwr hok0
      have HSL2 : Hid _ := HSL
      clear HSL2
      go_wp2_with fail
      go_loopw [17] (fun i wr => ∃ (j m : Nat) (z : SSt) (k : Lk) (sy lv : List Bool) (v vl vd vv : Value), i = .int .i64 j ∧ j ≤ ml + 40 ∧ MInv z0.hs ⟨r0, r1⟩ m z k sy lv ∧ z.ok (tbC 8) (45 + 2 * j) ∧ k.todo + (j - ml) ≤ 21 ∧ St w [boxI B2 (boolA lv) 59, boxI B1 (boolA sy) 59, XX, ownI 46 8 (.slice (some ⟨g2, 0, none⟩) z0.hs.length cap2) z0.hs.length (slCells (slots z0.hs z0.ws)), lkI K A.t k vl vd vv, spI A (tbC 8) z v (.slice none 0 0), boxI F #[.int .u64 r0, .int .u64 r1] 24] wr) (fun i _ => ml + 40 - (intOf i).toNat)
      case atStart => exact ⟨0, 1, z0, _, _, _, v3, vl, _, _, rfl, Nat.zero_le _, hinv, okz, by rw [show (Lk.new ⟨r0, r1⟩ 8 0).todo = 21 from rfl]; omega, hS⟩
      case round =>
        clear hS hinv
        obtain ⟨j, m, z, k, sy, lv, v, vl, vd, vv, rfl, hj, hinv, hok, htd, hS⟩ := hrel
        have e0 : (0 : Int) ≤ (j : Int) := by omega
        have e1 : (j : Int) < (ml : Int) + 40 := by omega
        have hd := lkDone hS 4 rfl
        by_cases hl : k.left = []
        · rw [decide_eq_true hl] at hd
          have hm8 : m = 8 := by
            have h1 := hinv.lft
            have h2 := hinv.m8
            by_cases e : m < 8
            · rw [from_cons e, hl] at h1; cases h1
            · omega
          subst hm8
          have hb := lkVictims hS 4 rfl (by have := hinv.fit.vn; omega)
          have HVC : Hid (∀ i (hi : i < k.vs.length), ∃ s : Nat, k.vs[i].so = (s : Int) ∧ 1 ≤ s ∧ s < 8 ∧ yes lv s ∧ 1 ≤ k.vs[i].ge ∧ (yes sy s → k.vs[i].ge = (nowAt z0.hs s).gn)) := fun i hi => hinv.vic _ (List.getElem_mem hi)
          have HRI : Hid (∀ i j (hi : i < k.vs.length) (hj : j < k.vs.length), i < j → k.vs[i].so < k.vs[j].so) := fun i j hi hj hij => List.pairwise_iff_getElem.1 hinv.rise i j hi hj hij
          have HPA : Hid (∀ s : Nat, 1 ≤ s → s < 8 → yes sy s → ∃ i, ∃ hi : i < k.vs.length, k.vs[i].so = (s : Int)) := fun s s1 s8 hs => by
            obtain ⟨v, hv, e⟩ := hinv.pas s s1 s8 hs
            obtain ⟨i, hi, rfl⟩ := List.getElem_of_mem hv
            exact ⟨i, hi, e⟩
          have hvl : k.vs.length ≤ 8 := by have := hinv.fit.vn; omega
          have hvl' : (k.vs.length : Int) ≤ 8 := by omega
          have HSYL : Hid (sy.length = 8) := hinv.syl
          have HLEFT : Hid (k.left = []) := hl
          clear hinv hl
          go_wp2_with (go_at_call 11; refine hd.mono ?_; rintro e wq ⟨rfl, rfl⟩)
          refine hb.mono ?_
          rintro e w9 ⟨vg, rfl, s9⟩
          clear hb hd hS
          obtain ⟨lg, cg, rfl⟩ := own_form (show w9.ownsRow 0 48 4 vg k.vs.length (vtCells k.vs) from s9.get 0 rfl)
          go_wp2_with fail
          go_loopw [23, 24] (fun la i wr => ∃ (p : Nat) (L : Int) (sy' : List Bool), la = .int .i64 L ∧ i = .int .i64 p ∧ p ≤ k.vs.length ∧ (∀ hi : p < k.vs.length, L < (k.vs[p]'hi).so) ∧ sy'.length = 8 ∧ (∀ s, yes sy' s → yes sy s) ∧ (∀ i (hi : i < k.vs.length), i < p → ∀ s : Nat, (k.vs[i]'hi).so = (s : Int) → ¬ yes sy' s) ∧ St w [ownI 48 4 (.slice lg k.vs.length cg) k.vs.length (vtCells k.vs), boxI B2 (boolA lv) 59, boxI B1 (boolA sy') 59, XX, ownI 46 8 (.slice (some ⟨g2, 0, none⟩) z0.hs.length cap2) z0.hs.length (slCells (slots z0.hs z0.ws)), lkI K A.t k vl vd vv, spI A (tbC 8) z v (.slice none 0 0), boxI F #[.int .u64 r0, .int .u64 r1] 24] wr) (fun _ i _ => k.vs.length - (intOf i).toNat)
          case atStart => exact ⟨0, 0, sy, rfl, rfl, Nat.zero_le _, fun hi => by obtain ⟨s, a, b, _⟩ := HVC.out 0 hi; omega, HSYL.out, fun _ h => h, fun i hi h => by omega, s9⟩
          case round =>
            clear s9
            obtain ⟨p, L, sy', rfl, rfl, hp, hL, hl', hsub, hdn, hS⟩ := hrel
            have HSU : Hid (∀ s, yes sy' s → yes sy s) := hsub
            have HDN : Hid (∀ i (hi : i < k.vs.length), i < p → ∀ s : Nat, (k.vs[i]'hi).so = (s : Int) → ¬ yes sy' s) := hdn
            have HLL : Hid (∀ hi : p < k.vs.length, L < (k.vs[p]'hi).so) := hL
            clear hsub hdn hL
            have pp0 : (0 : Int) ≤ (p : Int) := by omega
            by_cases hpn : p < k.vs.length
            · have pp1 : (p : Int) < (k.vs.length : Int) := by omega
              obtain ⟨s, hso, s1, s8, hlv, hge, hgn⟩ := HVC.out p hpn
              have hLs := HLL.out hpn
              rw [hso] at hLs
              have hla : ∃ g9, lg = some ⟨g9, 0, none⟩ := by
                obtain ⟨g9, cap9, e9⟩ := hS.form 0 rfl (by omega)
                simp only [Value.slice.injEq] at e9
                exact ⟨g9, e9.1⟩
              obtain ⟨g9, rfl⟩ := hla
              obtain ⟨y0, y1, y2, y3⟩ := vtCells_at k.vs p hpn
              have HSO : Hid ((k.vs[p]'hpn).so = (s : Int)) := hso
              have c0 := (hS.ownCell 0 rfl (p * 4) (by omega)).trans y0
              have c1 := (hS.ownCell 0 rfl (p * 4 + 1) (by omega)).trans y1
              have c2 := (hS.ownCell 0 rfl (p * 4 + 2) (by omega)).trans y2
              have c3 := (hS.ownCell 0 rfl (p * 4 + 3) (by omega)).trans y3
              rw [hso] at c0
              clear y0 y1 y2 y3 hso
              generalize (k.vs[p]'hpn).ge = vge at *
              generalize (k.vs[p]'hpn).sp = vsp at *
              generalize (k.vs[p]'hpn).th = vth at *
              have s10 := hS.box #[.int .i64 (s : Nat), .int .i64 vge, .int .i64 vsp, .int .i64 vth] 48
              clear hS
              go_upto_region 42 with fail
              generalize wr.alloc (.cells #[.int .i64 (s : Nat), .int .i64 vge, .int .i64 vsp, .int .i64 vth] 48) = w10 at *
              generalize wr.heap.size = M at *
              clear c0 c1 c2 c3
              have m0 : w10.cell? ⟨M, 0, none⟩ = some (.int .i64 (s : Nat)) := s10.cell 0 rfl 0
              have m1 : w10.cell? ⟨M, 1, none⟩ = some (.int .i64 vge) := s10.cell 0 rfl 1
              have b2 : w10.cell? ⟨B2, s, none⟩ = some (.bool true) := (s10.cell 2 rfl s).trans (boolA_at hlv)
              obtain ⟨bs, hsy⟩ : ∃ b, sy'[s]? = some b := ⟨_, List.getElem?_eq_getElem (by rw [hl']; exact s8)⟩
              have b1 : w10.cell? ⟨B1, s, none⟩ = some (.bool bs) := (s10.cell 3 rfl s).trans (boolA_at hsy)
              have hs8 : s < z0.hs.length := by rw [H80.out]; exact s8
              have gf := (slot_cells s10 5 rfl okz.wl hs8).1
              rw [← nowAt_in hs8] at gf
              have HGN : Hid (yes sy s → vge = (nowAt z0.hs s).gn) := hgn
              generalize (nowAt z0.hs s).gn = gn0 at *
              clear hgn
              have t1 : ¬ (s : Int) ≤ L := by omega
              have t2 : ¬ (7 : Int) < (s : Int) := by omega
              have t3 : ¬ vge < 1 := by omega
              have t4 : (0 : Int) ≤ (s : Int) := by omega
              have t5 : (s : Int) < 8 := by omega
              have HS10 : Hid (∀ n, St w _ (w10.drewN n)) := fun n => s10.calm ((Kept.refl _ _).drewN n)
              clear s10 hs8
              cases bs with
              | false =>
                as_aux_lemma =>
                  go_upto_region 42 with fail
                  go_quiet (fail)
                  have s11 := HS10.out nq
                  clear HS10
                  generalize w10.drewN nq = w11 at *
                  have n0 : w11.cell? ⟨M, 0, none⟩ = some (.int .i64 (s : Nat)) := s11.cell 0 rfl 0
                  have d1 : w11.cell? ⟨B1, s, none⟩ = some (.bool false) := (s11.cell 3 rfl s).trans (boolA_at hsy)
                  have f1 := s11.frozen 3 rfl s
                  have HE : Hid (St w [ownI 48 4 (.slice (some ⟨g9, 0, none⟩) k.vs.length cg) k.vs.length (vtCells k.vs), boxI B2 (boolA lv) 59, boxI B1 (boolA (sy'.set s false)) 59, XX, ownI 46 8 (.slice (some ⟨g2, 0, none⟩) z0.hs.length cap2) z0.hs.length (slCells (slots z0.hs z0.ws)), lkI K A.t k vl vd vv, spI A (tbC 8) z v (.slice none 0 0), boxI F #[.int .u64 r0, .int .u64 r1] 24] (w11.setCell ⟨B1, s, none⟩ (.bool false))) := by
                    have a1 := s11.write 3 rfl s (.bool false)
                    rw [boolA_set] at a1
                    exact a1.pop
                  clear s11 m0 m1 b2 b1 gf
                  go_wp2
                  go_roundw
                  case rel =>
                    refine ⟨p + 1, (s : Int), sy'.set s false, rfl, by go_num, by omega, fun hi => ?_, by simpa using hl', fun t ht => ?_, fun i hi hip t hit => ?_, HE.out⟩
                    · have := HRI.out p (p + 1) hpn hi (by omega)
                      rw [HSO.out] at this
                      exact this
                    · rw [yes_set (by rw [hl']; exact s8)] at ht
                      split at ht
                      · cases ht
                      · exact HSU.out t ht
                    · rw [yes_set (by rw [hl']; exact s8)]
                      by_cases e : t = s
                      · rw [if_pos e]; decide
                      · rw [if_neg e]
                        by_cases e2 : i = p
                        · subst e2
                          rw [HSO.out] at hit
                          exact absurd (by omega) e
                        · exact HDN.out i hi (by omega) t hit
                  case measure => simp [intOf]; omega
              | true =>
                as_aux_lemma =>
                  have hvg : vge = gn0 := HGN.out (HSU.out s hsy)
                  have t6 : (vge != gn0) = false := by simp [hvg]
                  clear hvg
                  go_upto_region 42 with fail
                  go_quiet (fail)
                  have s11 := HS10.out nq
                  clear HS10
                  generalize w10.drewN nq = w11 at *
                  have n0 : w11.cell? ⟨M, 0, none⟩ = some (.int .i64 (s : Nat)) := s11.cell 0 rfl 0
                  have d1 : w11.cell? ⟨B1, s, none⟩ = some (.bool true) := (s11.cell 3 rfl s).trans (boolA_at hsy)
                  have f1 := s11.frozen 3 rfl s
                  have HE : Hid (St w [ownI 48 4 (.slice (some ⟨g9, 0, none⟩) k.vs.length cg) k.vs.length (vtCells k.vs), boxI B2 (boolA lv) 59, boxI B1 (boolA (sy'.set s false)) 59, XX, ownI 46 8 (.slice (some ⟨g2, 0, none⟩) z0.hs.length cap2) z0.hs.length (slCells (slots z0.hs z0.ws)), lkI K A.t k vl vd vv, spI A (tbC 8) z v (.slice none 0 0), boxI F #[.int .u64 r0, .int .u64 r1] 24] (w11.setCell ⟨B1, s, none⟩ (.bool false))) := by
                    have a1 := s11.write 3 rfl s (.bool false)
                    rw [boolA_set] at a1
                    exact a1.pop
                  clear s11 m0 m1 b2 b1 gf
                  go_wp2
                  go_roundw
                  case rel =>
                    refine ⟨p + 1, (s : Int), sy'.set s false, rfl, by go_num, by omega, fun hi => ?_, by simpa using hl', fun t ht => ?_, fun i hi hip t hit => ?_, HE.out⟩
                    · have := HRI.out p (p + 1) hpn hi (by omega)
                      rw [HSO.out] at this
                      exact this
                    · rw [yes_set (by rw [hl']; exact s8)] at ht
                      split at ht
                      · cases ht
                      · exact HSU.out t ht
                    · rw [yes_set (by rw [hl']; exact s8)]
                      by_cases e : t = s
                      · rw [if_pos e]; decide
                      · rw [if_neg e]
                        by_cases e2 : i = p
                        · subst e2
                          rw [HSO.out] at hit
                          exact absurd (by omega) e
                        · exact HDN.out i hi (by omega) t hit
                  case measure => simp [intOf]; omega
            · obtain rfl : p = k.vs.length := by omega
              have pp1 : ¬ ((k.vs.length : Nat) : Int) < ((k.vs.length : Nat) : Int) := by omega
              have HFA : Hid (∀ s : Nat, 1 ≤ s → s < 8 → wr.cell? ⟨B1, s, none⟩ = some (.bool false)) := fun s s1 s8 => by
                obtain ⟨b, hb⟩ : ∃ b, sy'[s]? = some b := ⟨_, List.getElem?_eq_getElem (by rw [hl']; exact s8)⟩
                have hbf : b = false := by
                  cases b with
                  | false => rfl
                  | true =>
                    obtain ⟨i, hi, e⟩ := HPA.out s s1 s8 (HSU.out s hb)
                    exact absurd hb (HDN.out i hi hi s e)
                rw [hbf] at hb
                exact (hS.cell 2 rfl s).trans (boolA_at hb)
              have hd := lkDone hS 5 rfl
              rw [decide_eq_true HLEFT.out] at hd
              have HK : Hid (Kept (fun _ => False) w wr) := hS.same
              clear hS HVC HRI HPA HSU HDN HLL
              obtain ⟨wz, hwz'⟩ : ∃ y, y = wr := ⟨_, rfl⟩
              subst hwz'
              go_wp2_with fail
              go_loopw [26] (fun i wr => ∃ (p : Nat), i = .int .i64 p ∧ 1 ≤ p ∧ p ≤ 8 ∧ wr = wz) (fun i _ => 8 - (intOf i).toNat)
              case atStart => exact ⟨1, rfl, Nat.le_refl _, by omega, rfl⟩
              case round =>
                obtain ⟨p, rfl, hp1, hp8, rfl⟩ := hrel
                have qq0 : (0 : Int) ≤ (p : Int) := by omega
                by_cases hlt : p < 8
                · have qq1 : (p : Int) < 8 := by omega
                  have x1 := HFA.out p hp1 hlt
                  go_wp2
                  go_roundw
                  case rel => exact ⟨p + 1, by go_num, by omega, by omega, by first | rfl | trivial⟩
                  case measure => simp [intOf]; omega
                · obtain rfl : p = 8 := by omega
                  have qq1 : ¬ ((8 : Nat) : Int) < 8 := by omega
                  go_wp2_with (go_at_call 11; refine hd.mono ?_; rintro e wq ⟨rfl, rfl⟩)
                  go_ret
                  exact ⟨rfl, HK.out⟩
        · rw [decide_eq_false hl] at hd
          have HST : Hid (∀ W, St w [boxI B2 (boolA lv) 59, boxI B1 (boolA sy) 59, XX, ownI 46 8 (.slice (some ⟨g2, 0, none⟩) z0.hs.length cap2) z0.hs.length (slCells (slots z0.hs z0.ws)), lkI K A.t k vl vd vv, spI A (tbC 8) z v (.slice none 0 0), boxI F #[.int .u64 r0, .int .u64 r1] 24] W → Calls Try.prog 12 #[.pointer (some ⟨K, 0, none⟩)] W fun e w' => ∃ E, e = .returned (.int .i64 E) ∧ ∃ v' vl' vd' vv', St w [boxI B2 (boolA lv) 59, boxI B1 (boolA sy) 59, XX, ownI 46 8 (.slice (some ⟨g2, 0, none⟩) z0.hs.length cap2) z0.hs.length (slCells (slots z0.hs z0.ws)), lkI K A.t (k.next z) vl' vd' vv', spI A (tbC 8) (z.looks k) v' (.slice none 0 0), boxI F #[.int .u64 r0, .int .u64 r1] 24] w') := fun W hW => (lkStep hW 5 4 (by omega) rfl rfl hok (by omega) hinv.fit hinv.wok).mono (fun e w' ⟨he, h'⟩ => ⟨_, he, h'⟩)
          obtain ⟨m', hinv'⟩ := hinv.step
          have htn := todo_next hinv.fit hl z
          by_cases hge : ml ≤ j
          · as_aux_lemma =>
              have e2 : (ml : Int) ≤ (j : Int) := by omega
              have hq := HST.out _ hS
              clear hS HST
              go_wp2_with (go_at_call 11; refine hd.mono ?_; rintro e wq ⟨rfl, rfl⟩)
              refine hq.mono ?_
              rintro e w9 ⟨E, rfl, v9, vl9, vd9, vv9, s9⟩
              have HE : Hid _ := s9
              clear hq hd s9
              go_wp2
              go_roundw
              case rel => exact ⟨j + 1, m', _, _, sy, lv, v9, vl9, vd9, vv9, by go_num, by omega, hinv', (hok.looks k).more (by omega), by omega, HE.out⟩
              case measure => simp [intOf]; omega
          · have e2 : ¬ (ml : Int) ≤ (j : Int) := by omega
            have hjl : j < ml := by omega
            have e3 : (j : Int) < (ml : Int) := by omega
            obtain ⟨b, off, rfl, hat⟩ : ∃ b off, ma = some ⟨b, off, none⟩ ∧ ∀ i, i < ml → MvAt w b (off + i * 4) (fm i) := by
              rcases HM.out with h | h
              · omega
              · exact h
            have hA := (hat j hjl).kept hS.same
            have HA : Hid (∀ W, Kept (fun _ => False) w W → MvAt W b (off + j * 4) (fm j)) := fun W kk => (hat j hjl).kept kk
            have hxr := hA.r_x
            clear hat
            generalize fm j = mv at *
            obtain ⟨go_, kd, sl_, x⟩ := mv
            have c0 := hA.c0
            try simp only at c0 hxr
            clear hA
            cases go_ with
            | true =>
              as_aux_lemma =>
                have hq := HST.out _ hS
                clear hS HST
                go_wp2_with (go_at_call 11; refine hd.mono ?_; rintro e wq ⟨rfl, rfl⟩)
                refine hq.mono ?_
                rintro e w9 ⟨E, rfl, v9, vl9, vd9, vv9, s9⟩
                have HE : Hid _ := s9
                clear hq hd s9
                go_wp2
                go_roundw
                case rel => exact ⟨j + 1, m', _, _, sy, lv, v9, vl9, vd9, vv9, by go_num, by omega, hinv', (hok.looks k).more (by omega), by omega, HE.out⟩
                case measure => simp [intOf]; omega
            | false =>
              clear HST hinv' htn
              obtain ⟨q, hq7, hq8⟩ : ∃ q : Nat, bits .and .i64 sl_ 7 = (q : Int) ∧ q < 8 := ⟨(sl_ % 8).toNat, by rw [and7]; omega, by omega⟩
              have q0 : (0 : Int) ≤ (q : Int) := by omega
              have q8 : (q : Int) < 8 := by omega
              have c2 := (HA.out _ hS.same).c2
              try simp only at c2
              have hnow := spTabAll hS 5 rfl hok.wl hok.h1 hok.h8
              clear hS
              go_upto_region 24 with (first | (go_at_call 11; refine hd.mono ?_; rintro e wq ⟨rfl, rfl⟩) | simp only [hq7])
              obtain ⟨a, ha, a1, a8⟩ : ∃ a : Nat, 1 + (q : Int) % 7 = (a : Int) ∧ 1 ≤ a ∧ a < 8 := ⟨(1 + (q : Int) % 7).toNat, by omega, by omega, by omega⟩
              rw [ha]
              clear ha hq7 q0 q8 hq8 c0 c2 hd
              have aa0 : (0 : Int) ≤ (a : Int) := by omega
              have aa8 : (a : Int) < 8 := by omega
              have hah : a < z.hs.length := by rw [hinv.l8]; exact a8
              have aal : (a : Int) < (z.hs.length : Int) := by omega
              have hsy : ∃ b, sy[a]? = some b := ⟨_, List.getElem?_eq_getElem (by rw [hinv.syl]; exact a8)⟩
              have hlv : ∃ b, lv[a]? = some b := ⟨_, List.getElem?_eq_getElem (by rw [hinv.lvl]; exact a8)⟩
              obtain ⟨bs, hsy⟩ := hsy
              obtain ⟨bl, hlv⟩ := hlv
              go_wp2_with fail
              refine hnow.mono ?_
              rintro e w9 ⟨vn, rfl, s9⟩
              clear hnow
              obtain ⟨gw, capw, rfl⟩ := s9.form 0 rfl (by omega)
              obtain ⟨b0, b1, b2, b3, b4, b5, _, _⟩ := slot_cells s9 0 rfl hok.wl hah
              generalize hHD : z.hs.getD a Hd.zero = HD at *
              clear hHD
              obtain ⟨hg, hsa, hp, ht, hdm, hb⟩ := HD
              simp only at b0 b1 b2 b3 b4 b5
              have s10 := s9.box #[.int .i64 hg, .int .i64 hsa, .int .i64 hp, .int .i64 ht, .bool hdm, .int .i64 hb] 44
              clear s9
              go_upto_region 25 with fail
              generalize w9.alloc (.cells #[.int .i64 hg, .int .i64 hsa, .int .i64 hp, .int .i64 ht, .bool hdm, .int .i64 hb] 44) = w10 at *
              generalize w9.heap.size = M at *
              clear b0 b1 b2 b3 b4 b5
              have c1 := (HA.out _ s10.same).c1
              try simp only at c1
              have m0 : w10.cell? ⟨M, 0, none⟩ = some (.int .i64 hg) := s10.cell 0 rfl 0
              obtain ⟨kq, hk3, hk4⟩ : ∃ q : Nat, bits .and .i64 kd 3 = (q : Int) ∧ q < 4 := ⟨(kd % 4).toNat, by rw [and3]; omega, by omega⟩
              rcases (show kq = 0 ∨ kq = 1 ∨ kq = 2 ∨ kq = 3 by omega) with rfl | rfl | rfl | rfl
              · as_aux_lemma =>
                  replace hk3 : bits .and .i64 kd 3 = 0 := hk3
                  have hq := spFree s10 7 rfl hok (by omega) a hg
                  clear s10 HA
                  go_wp2_with (simp only [hk3])
                  refine hq.mono ?_
                  rintro e w11 ⟨rfl, v11, s11⟩
                  clear hq
                  have d1 : w11.cell? ⟨B1, a, none⟩ = some (.bool bs) := (s11.cell 3 rfl a).trans (boolA_at hsy)
                  have f1 := s11.frozen 3 rfl a
                  have HE : Hid (St w [boxI B2 (boolA lv) 59, boxI B1 (boolA (sy.set a false)) 59, XX, ownI 46 8 (.slice (some ⟨g2, 0, none⟩) z0.hs.length cap2) z0.hs.length (slCells (slots z0.hs z0.ws)), lkI K A.t k vl vd vv, spI A (tbC 8) (z.op (freeOp hg) a) v11 (.slice none 0 0), boxI F #[.int .u64 r0, .int .u64 r1] 24] (w11.setCell ⟨B1, a, none⟩ (.bool false))) := by
                    have a1 := s11.write 3 rfl a (.bool false)
                    rw [boolA_set] at a1
                    exact a1.pop.pop
                  clear s11 c1 m0
                  go_wp2
                  go_roundw
                  case rel => exact ⟨j + 1, m, (z.op (freeOp hg) a), k, (sy.set a false), lv, v11, vl, vd, vv, by go_num, by omega, hinv.free a8 hg, (hok.op _ _ (free_keeps hok.hd _ _)).more (by omega), by omega, HE.out⟩
                  case measure => simp [intOf]; omega
              · as_aux_lemma =>
                  replace hk3 : bits .and .i64 kd 3 = 1 := hk3
                  have hq := spClaim s10 7 rfl hok (by omega) a 3
                  clear s10 HA
                  go_wp2_with (simp only [hk3])
                  refine hq.mono ?_
                  rintro e w11 ⟨rfl, v11, s11⟩
                  clear hq
                  have HE : Hid (St w [boxI B2 (boolA lv) 59, boxI B1 (boolA sy) 59, XX, ownI 46 8 (.slice (some ⟨g2, 0, none⟩) z0.hs.length cap2) z0.hs.length (slCells (slots z0.hs z0.ws)), lkI K A.t k vl vd vv, spI A (tbC 8) (z.op (claimOp 3) a) v11 (.slice none 0 0), boxI F #[.int .u64 r0, .int .u64 r1] 24] w11) := s11.pop.pop
                  clear s11 c1 m0
                  go_wp2
                  go_roundw
                  case rel => exact ⟨j + 1, m, (z.op (claimOp 3) a), k, sy, lv, v11, vl, vd, vv, by go_num, by omega, hinv.claim a8 a1 hok.hd, (hok.op _ _ (claim_keeps hok.hd _ _)).more (by omega), by omega, HE.out⟩
                  case measure => simp [intOf]; omega
              · as_aux_lemma =>
                  replace hk3 : bits .and .i64 kd 3 = 2 := hk3
                  have hq := spReady s10 7 rfl hok (by omega) a hg 5
                  clear s10 HA
                  go_wp2_with (simp only [hk3])
                  refine hq.mono ?_
                  rintro e w11 ⟨rfl, v11, s11⟩
                  clear hq
                  have d1 : w11.cell? ⟨B2, a, none⟩ = some (.bool bl) := (s11.cell 2 rfl a).trans (boolA_at hlv)
                  have f1 := s11.frozen 2 rfl a
                  have HE : Hid (St w [boxI B2 (boolA (lv.set a true)) 59, boxI B1 (boolA sy) 59, XX, ownI 46 8 (.slice (some ⟨g2, 0, none⟩) z0.hs.length cap2) z0.hs.length (slCells (slots z0.hs z0.ws)), lkI K A.t k vl vd vv, spI A (tbC 8) (z.op (readyOp hg 5) a) v11 (.slice none 0 0), boxI F #[.int .u64 r0, .int .u64 r1] 24] (w11.setCell ⟨B2, a, none⟩ (.bool true))) := by
                    have a1 := s11.write 2 rfl a (.bool true)
                    rw [boolA_set] at a1
                    exact a1.pop.pop
                  clear s11 c1 m0
                  go_wp2
                  go_roundw
                  case rel => exact ⟨j + 1, m, (z.op (readyOp hg 5) a), k, sy, (lv.set a true), v11, vl, vd, vv, by go_num, by omega, hinv.ready a8 a1 hg, (hok.op _ _ (ready_keeps hok.hd _ _ _)).more (by omega), by omega, HE.out⟩
                  case measure => simp [intOf]; omega
              · as_aux_lemma =>
                  replace hk3 : bits .and .i64 kd 3 = 3 := hk3
                  have c3 := (HA.out _ s10.same).c3
                  try simp only at c3
                  obtain ⟨xb, hxb, hxb2⟩ : ∃ n : Nat, bits .and .u64 (x : Int) 1 = (n : Int) ∧ n < 2 := ⟨x &&& 1, bits_and_u64_nat x 1 hxr (by decide), by rw [Nat.and_one_is_mod]; omega⟩
                  have xb0 : (0 : Int) ≤ (xb : Int) := by omega
                  have xb1 : (xb : Int) < 2 := by omega
                  obtain ⟨y, hy, hy2⟩ := hinv.wok.word z.hs.length a xb
                  have hq := spWord s10 7 rfl hok (by omega) a xb
                  rw [hy] at hq
                  have HY : Hid (wordR z.ws z.hs.length a xb = (y : Int)) := hy
                  have hor : bits .or .u64 (y : Int) (x : Int) = ((y ||| x : Nat) : Int) := bits_or_u64_nat _ _ hy2 hxr
                  have HOR : Hid (y ||| x < 18446744073709551616) := or_lt hy2 hxr
                  have HPUT : Hid (MInv z0.hs ⟨r0, r1⟩ m ((z.word a xb).put a xb ((y ||| x : Nat) : Int)) k sy lv) := MInv.put (z := z.word a xb) (hinv.same rfl rfl) a8 hxb2 hy HOR.out
                  clear s10 hy
                  go_wp2_with (first | simp only [hk3] | simp only [hxb])
                  refine hq.mono ?_
                  rintro e w11 ⟨rfl, v11, s11⟩
                  clear hq c1 m0 c3
                  have ok11 := hok.word a xb
                  have c3 := (HA.out _ s11.same).c3
                  try simp only at c3
                  have hp1 : Calls Try.prog 25 #[.pointer (some ⟨A.t, 0, none⟩), .int .i64 (a : Nat), .int .i64 (xb : Nat), .int .u64 ((y ||| x : Nat) : Int)] w11.drew fun e w' => ∃ E, e = .returned (.int .i64 E) ∧ (w'.cell? ⟨b, off + j * 4 + 3, none⟩ = some (.int .u64 (x : Nat))) ∧ ∃ v', Hid (St w [boxI B2 (boolA lv) 59, boxI B1 (boolA sy) 59, XX, ownI 46 8 (.slice (some ⟨g2, 0, none⟩) z0.hs.length cap2) z0.hs.length (slCells (slots z0.hs z0.ws)), lkI K A.t k vl vd vv, spI A (tbC 8) ((z.word a xb).put a xb ((y ||| x : Nat) : Int)) v' (.slice none 0 0), boxI F #[.int .u64 r0, .int .u64 r1] 24] w') := by
                    refine (spPut s11.drew 7 rfl ok11 (by omega) a xb ((y ||| x : Nat) : Int)).mono ?_
                    rintro e w' ⟨he, v', h'⟩
                    exact ⟨_, he, (HA.out _ h'.same).c3, v', h'.pop.pop⟩
                  clear s11 HA
                  generalize y ||| x = yx at *
                  have hw1 : IntKind.i64.wrap (xb : Int) = (xb : Int) := by rw [IntKind.wrap_i64]; omega
                  go_upto_region 27 with fail
                  go_region_held3 (fun W => W.cell? ⟨b, off + j * 4 + 3, none⟩ = some (.int .u64 (x : Nat))) (first | go_keep | exact rS)
                    (first | (go_at_call 25; refine hp1.mono ?_; rintro e w12 ⟨E2, rfl, rS, v12, HE⟩))
                  clear hp1 c3 rS
                  go_wp2
                  go_roundw
                  case rel => exact ⟨j + 1, m, ((z.word a xb).put a xb (yx : Int)), k, sy, lv, v12, vl, vd, vv, by go_num, by omega, HPUT.out, ((ok11.put a xb (yx : Int)).more (by omega)), by omega, HE.out⟩
                  case measure => simp [intOf]; omega
end Go.Proofs.Ytpojkkdmlpjfeaa

namespace Go.Proofs.Ytpojkkdmlpjfeaa.lookMisses
open Go.ChangeShapes Go.WideShapes Go.ChangeAt Go.RowKit
set_option linter.unusedVariables false

theorem own : ownKnob Try.prog.godebug = none := by kernel_rfl
theorem laidOut : laidOutB Try.prog = true := by kernel_rfl

theorem bulk_pos {H : Type} (d : DataW H) : 0 < Rows.uptoBulk d := by
  cases d <;> first | (simp [Rows.uptoBulk]; done) | (rename_i l; cases l <;> simp [Rows.uptoBulk])
theorem few {H : Type} : ∀ l : List (DataW H), l.length ≤ Rows.uptoBulkAll l
  | [] => Nat.zero_le _
  | d :: l => by
    have h1 := bulk_pos d
    have h2 := few l
    show l.length + 1 ≤ Rows.uptoBulk d + Rows.uptoBulkAll l
    omega
theorem few_mem {H : Type} {d : DataW H} : ∀ {l : List (DataW H)}, d ∈ l → Rows.uptoBulk d ≤ Rows.uptoBulkAll l
  | [], h => by cases h
  | x :: l, h => by
    show _ ≤ Rows.uptoBulk x + Rows.uptoBulkAll l
    rcases List.mem_cons.1 h with rfl | h
    · omega
    · have := few_mem h
      omega
set_option maxRecDepth 100000 in
theorem long2 {H : Type} {enc : TypeId × Value → H} {w : World} {a : Option Addr} {len cap : Nat} {d : DataW H} {pl : List MemPlace} (h : DataW.Trod enc Try.prog w 0 (fun _ => true) true 56 (.slice a len cap) d pl) : len ≤ Rows.uptoBulk d := by
  obtain ⟨fuel, hf⟩ := h
  rcases Go.Deep.open_slice Try.underlying56 hf with ⟨hcs, _⟩ | ⟨a', len', cap', m, n, D, Pl, hcs, _, hl, hm, hmm, hx, hcell⟩
  · simp [Value.cells] at hcs
    omega
  · simp [Value.cells] at hcs
    obtain ⟨rfl, rfl, rfl⟩ := hcs
    simp only [Prod.mk.injEq] at hx
    obtain ⟨hd, _⟩ := hx
    obtain ⟨es, sp, rfl, hes⟩ : ∃ es sp, d = .slice es sp ∧ es.length = len := ⟨_, _, hd, by simp⟩
    have h1 := few es
    have h2 : Rows.uptoBulk (DataW.slice es sp) = Rows.uptoBulkAll es + Rows.uptoBulkAll sp + 1 := rfl
    omega
set_option maxRecDepth 100000 in
theorem lifted (os : Os) (started : os.Started) (H : Type) (enc : TypeId × Value → H) (F : Stop.Interp) :
    ReturnsInHanded {} Try.checked os 4 .any ((Rows.OpenSpec.upto Rows.lookMissesSpec).pre6 enc Try.prog Try.f4 Rows.lookMissesUptoRow.domain false) (((Rows.OpenSpec.upto Rows.lookMissesSpec).at F).post enc Try.prog Try.f4 false true false false) := by
  refine returnsInHanded_of_cond_sized (C := Try.checked) (s := Rows.OpenSpec.upto Rows.lookMissesSpec) (k := Rows.uptoSmall) rfl own started (by kernel_rfl) Try.func4
    (OpenSpec.witness (enc := enc) (C := Try.checked) (s := Rows.OpenSpec.upto Rows.lookMissesSpec) (k := Rows.uptoSmall) rfl false ⟨#[], #[.agg #[.int .u64 0, .int .u64 0], .slice none 0 0, .slice none 0 0], []⟩ 8 (by kernel_rfl) (by kernel_rfl) (by kernel_rfl)
      (x := ([.agg [.lit (.int .u64 0), .lit (.int .u64 0)], .nil, .nil], [], [])) (by kernel_rfl) rfl (by kernel_rfl)) ?_
  intro W base args ds gs before hval0 hW _ hk hsz0 _
  have hbulk : Rows.uptoBulkAll (ds ++ gs) ≤ 1048576 := of_decide_eq_true hk
  have hval : ∀ (j : Nat) t v, Try.f4.params[j]? = some t → args[j]? = some v → Value.okWide Try.prog W .any base t v := hval0
  have hsz : (DataW.weightsEach Try.prog (Try.f4.params.toList ++ (Rows.OpenSpec.upto Rows.lookMissesSpec).bare.plain.varTypes Try.prog) (ds ++ gs)).all (· ≤ reachBytes) = true := hsz0
  have hW' := hW
  obtain ⟨p, q, hA0, hV, rfl, hfz, hnd⟩ := hW
  have hA : DataW.TrodAll enc Try.prog W 0 (fun _ => true) true Try.f4.params.toList args.toList ds p := hA0
  rw [Try.params4] at hA hval hsz
  obtain ⟨v0, vs0, d0, ds0, p0, q0, hargs, rfl, rfl, h0, r0⟩ := trodAll_cons hA
  obtain ⟨v1, vs1, d1, ds1, p1, q1, rfl, rfl, rfl, h1, r1⟩ := trodAll_cons r0
  obtain ⟨v2, vs2, d2, ds2, p2, q2, rfl, rfl, rfl, h2, r2⟩ := trodAll_cons r1
  obtain ⟨rfl, rfl, rfl⟩ := trodAll_nil r2
  obtain rfl : args = #[v0, v1, v2] := by cases args; simp_all
  obtain ⟨rfl, rfl⟩ := trodVars_none hV
  have k0 := h0
  have lt0 : ∀ x ∈ p0, x.block < W.heap.size := by obtain ⟨m, hm⟩ := k0; exact DataW.trod_lt m _ _ _ hm
  obtain ⟨b0, rfl⟩ := arg_sig (hval 0 24 v0 rfl rfl) h0
  have k1 := h1
  have lt1 : ∀ x ∈ p1, x.block < W.heap.size := by obtain ⟨m, hm⟩ := k1; exact DataW.trod_lt m _ _ _ hm
  have hz1 : ∀ n ∈ d1.weights Try.prog 25, n ≤ reachBytes := fun n hn => by
    have := List.all_eq_true.1 hsz n (DataW.weights_mem_each (j := 1) rfl rfl n hn)
    simpa using this
  obtain ⟨la1, ll1, lc1, zs1, rfl, hL1, hR1⟩ := arg_Ses h1 (hval 1 25 v1 rfl rfl) hz1
  have k2 := h2
  have lt2 : ∀ x ∈ p2, x.block < W.heap.size := by obtain ⟨m, hm⟩ := k2; exact DataW.trod_lt m _ _ _ hm
  have hz2 : ∀ n ∈ d2.weights Try.prog 56, n ≤ reachBytes := fun n hn => by
    have := List.all_eq_true.1 hsz n (DataW.weights_mem_each (j := 2) rfl rfl n hn)
    simpa using this
  obtain ⟨la2, ll2, lc2, zs2, rfl, hL2, hR2⟩ := arg_Mvs h2 (hval 2 56 v2 rfl rfl) hz2
  have hB2 : ll2 ≤ 1048576 := Nat.le_trans (Nat.le_trans (long2 k2) (few_mem (by simp))) hbulk
  clear hA0 hval0 hk hbulk
  refine (misses_walk W b0.1 b0.2 hL1 hR1 hL2 hB2).mono fun e W' ⟨he, hkk⟩ => ?_
  have bel : Below W.heap.size W W' := hkk.below (Nat.le_refl _) (fun _ _ f => f)
  subst he
  exact ⟨_, rfl, _, _, _, [], _, [], hW', trodAll_mk1 (shut_bool Try.underlying4 _), (trodAll_cons_mk (Below.trod laidOut (by kernel_rfl) (of_decide_eq_true (by kernel_rfl)) k0 bel lt0) (trodAll_cons_mk (Below.trod laidOut (by kernel_rfl) (of_decide_eq_true (by kernel_rfl)) k1 bel lt1) (trodAll_cons_mk (Below.trod laidOut (by kernel_rfl) (of_decide_eq_true (by kernel_rfl)) k2 bel lt2) trodAll_mk0))), rfl, bel.frame _, fun h => by cases h⟩

theorem over : Rows.lookMissesUptoRow.holds Try.pinned (Rows.OpenSpec.upto Rows.lookMissesSpec) :=
  OpenClaim.holds_of_cond 4 Try.f4 rfl rfl rfl rfl rfl rfl rfl ⟨rfl, rfl, rfl, rfl, rfl⟩ rfl rfl rfl rfl rfl (by kernel_rfl) Try.func4 (by kernel_rfl)
    (of_decide_eq_true (by kernel_rfl)) (by unfold Func.isWrapper; first | (rw [if_pos (by decide +kernel)]; kernel_rfl) | (rw [if_neg (by decide +kernel)]; exact ⟨rfl, rfl⟩))
    (fun os started H enc _ F => lifted os started H enc F)
end Go.Proofs.Ytpojkkdmlpjfeaa.lookMisses

namespace Go.Proofs.Ytpojkkdmlpjfeaa
theorem lookMisses_upto : Rows.LookMissesUptoSaid := lookMisses.over
#print axioms lookMisses_upto
end Go.Proofs.Ytpojkkdmlpjfeaa
