/- Package opaque: Search. -/
import Derived.Test.YtnmlnjljmikmpaaOt
import Derived.Laws.EntriesVeiled
namespace Go.Proofs.Ytnmlnjljmikmpaa
open Go.RowKit Go.Shelf
set_option linter.unusedVariables false
set_option linter.unusedSimpArgs false
attribute [local go_sem ↓] Go.wp_at_zero Go.wp_at_succ

theorem comp_any {o : World} {start : List Int} {sa : Option Addr} {sn sc V1 V2 V3 V4 GB n : Nat} {la : Option Addr} {lc : Nat} {L : List Sm} {gl : List Gt} (hS0 : RIn iC o sa sn start) (hL0 : LIn o la n L) (hn : n ≤ 7) (hsn : (sn : Int) ≤ 9223372036854775807) (hgl : gl.length = n) (hgo : ∀ (j : Nat) (g : Gt) (m : Sm), gl[j]? = some g → L[j]? = some m → g.of m.s) : ∀ f, Comp o start sa sn sc V1 V2 V3 V4 GB n la lc L gl f
  | 0 => comp_step hS0 hL0 hn hsn hgl hgo 0 (fun f' e => by omega)
  | f + 1 => comp_step hS0 hL0 hn hsn hgl hgo (f + 1) (fun f' e => by
    obtain rfl : f = f' := by omega
    exact comp_any hS0 hL0 hn hsn hgl hgo f)
def srchM (start : List Int) (l : List Sy) : List Nat × Bool × Int := if 7 < l.length then ([], false, 223) else match found start l with | some r => (r, true, 0) | none => ([], false, 0)
theorem g_put {o w : World} {its : List It} {i pb n cap : Nat} {ps : List Gt} (h : St o its w) (hi : its[i]? = some (ownI 67 3 (.slice (some ⟨pb, 0, none⟩) n cap) n (fl gC ps))) (hn : n = ps.length) {j : Nat} {p : Gt} (hp : ps[j]? = some p) (q : Gt) :
    St o (its.set i (ownI 67 3 (.slice (some ⟨pb, 0, none⟩) n cap) n (fl gC (ps.set j q)))) (((w.setCell ⟨pb, j * 3, none⟩ (.bool q.br)).setCell ⟨pb, j * 3 + 1, none⟩ (.slice q.aa q.asks.length q.ac)).setCell ⟨pb, j * 3 + 2, none⟩ (.slice q.la q.lv.length q.lc)) := by
  have hj := (List.getElem?_eq_some_iff.1 hp).1
  have s1 := r_set (f := gC) (k := 3) (fun _ => rfl) h i hi hn hp 0 (by omega) (.bool q.br) (x' := ⟨q.br, p.aa, p.ac, p.la, p.lc, p.asks, p.lv⟩) rfl
  have s2 := r_set (f := gC) (k := 3) (fun _ => rfl) s1 i (set_self hi) (by simp [hn]) (j := j) (x := ⟨q.br, p.aa, p.ac, p.la, p.lc, p.asks, p.lv⟩) (by simp [hj]) 1 (by omega) (.slice q.aa q.asks.length q.ac) (x' := ⟨q.br, q.aa, q.ac, p.la, p.lc, q.asks, p.lv⟩) rfl
  simp only [List.set_set] at s2
  have s3 := r_set (f := gC) (k := 3) (fun _ => rfl) s2 i (set_self hi) (by simp [hn]) (j := j) (x := ⟨q.br, q.aa, q.ac, p.la, p.lc, q.asks, p.lv⟩) (by simp [hj]) 2 (by omega) (.slice q.la q.lv.length q.lc) (x' := q) rfl
  simp only [List.set_set, Nat.add_zero] at s3
  exact s3
theorem g_cell {o w : World} {its : List It} {i pb n cap : Nat} {ps : List Gt} (h : St o its w) (hi : its[i]? = some (ownI 67 3 (.slice (some ⟨pb, 0, none⟩) n cap) n (fl gC ps))) (hn : n = ps.length) {j : Nat} {p : Gt} (hp : ps[j]? = some p) :
    (w.cell? ⟨pb, j * 3, none⟩ = some (.bool p.br) ∧ w.cell? ⟨pb, j * 3 + 1, none⟩ = some (.slice p.aa p.asks.length p.ac) ∧ w.cell? ⟨pb, j * 3 + 2, none⟩ = some (.slice p.la p.lv.length p.lc)) ∧ w.frozen? ⟨pb, j * 3, none⟩ = false ∧ w.frozen? ⟨pb, j * 3 + 1, none⟩ = false ∧ w.frozen? ⟨pb, j * 3 + 2, none⟩ = false := by
  have r := st_rin h i hi hn (f := gC) (fun _ => rfl)
  have q := fun k u hu => r.at (k := 3) (fun _ => rfl) hp k u hu
  have q0 := q 0 _ rfl
  have q1 := q 1 _ rfl
  have q2 := q 2 _ rfl
  rw [Nat.zero_add] at q0 q1 q2
  exact ⟨⟨by simpa using q0, q1, q2⟩, h.ownFrozen i hi _, h.ownFrozen i hi _, h.ownFrozen i hi _⟩
theorem gsI_snoc (gl : List Gt) (g : Gt) : gsI (gl ++ [g]) = gsI gl ++ gIts g := by simp [gsI]
theorem rep_set {gl : List Gt} {n j : Nat} {g : Gt} (hl : gl.length = j) (hj : j < n) : (gl ++ List.replicate (n - j) Gt.zero).set j g = (gl ++ [g]) ++ List.replicate (n - (j + 1)) Gt.zero ∧ (gl ++ List.replicate (n - j) Gt.zero)[j]? = some Gt.zero := by
  have e : n - j = (n - (j + 1)) + 1 := by omega
  rw [e, List.replicate_succ]
  subst hl
  refine ⟨?_, by simp⟩
  rw [List.set_append_right _ _ (Nat.le_refl _), Nat.sub_self, List.set_cons_zero]
  simp
theorem make0 (n : Nat) (hn : n ≤ 7) (W : World) : (Instr.makeSlice 24 (.int .i64 0) (.int .i64 (n : Int))).run Try.prog W = .ok (.slice (some ⟨W.heap.size, 0, none⟩) 0 n) (W.alloc (.cells (fl iC (List.replicate n 0)).toArray 3)) := by
  obtain ⟨i0, z0, hi0, hz0, hz1, hz2, hz3⟩ := (Try.rowI).info
  have := run_make (P := Try.prog) W 24 3 i0 z0 (Try.rowI).und hi0 hz0 .i64 .i64 0 (n : Int) (by omega) (by omega) (by rw [hz2]; omega) (by omega)
  rw [this, hz1, Int.toNat_natCast, made_row (f := iC) (k := 1) (fun _ => rfl) (by omega) 0 z0.cells (by rw [zero_of Try.infoI i0 z0 hi0 hz0]; rfl) n]
  rfl
theorem r_new0 {o w : World} {its : List It} (h : St o its w) (n : Nat) (hn : n ≤ 7) : St o (ownI 3 1 (.slice (some ⟨w.heap.size, 0, none⟩) 0 n) 0 (fl iC (asI [])) :: its) (w.alloc (.cells (fl iC (List.replicate n 0)).toArray 3)) :=
  h.own (kept_alloc w _) ⟨by simp [fl, asI], .inr ⟨w.heap.size, n, _, rfl, Nat.le_refl _, heap_alloc_new w _, Nat.zero_le _, by unfold maxLen; omega, by simp [fl_length (f := iC) (k := 1) (fun _ => rfl)], by simp [fl, asI]⟩⟩
set_option maxRecDepth 100000 in
set_option maxHeartbeats 8000000 in
theorem search_any {w : World} {sa la : Option Addr} {sn sc n lc : Nat} {start : List Int} {L : List Sm} (hs : RIn iC w sa sn start) (hl : LIn w la n L) (hn : n ≤ 1466015503701) (hsn : (sn : Int) ≤ 9223372036854775807) :
    Calls Try.prog 16 #[.slice sa sn sc, .slice la n lc] w fun e w' => ∃ v, e = .returned (.tuple #[v, .bool (srchM start (smS L)).2.1, .int .i64 (srchM start (smS L)).2.2]) ∧ St w [ownI 3 1 v (srchM start (smS L)).1.length (fl iC (asI (srchM start (smS L)).1))] w' := by
  have HLN : Hid (n = L.length) := hid hl.1.1
  have hlen : (smS L).length = n := by rw [smS, List.length_map, HLN.out]
  have s1 := (St.nil w).box #[.slice la n lc] 23
  by_cases h7 : 7 < n
  · have e : srchM start (smS L) = ([], false, 223) := by unfold srchM; rw [hlen, if_pos h7]
    rw [e]
    have t7 : decide ((7 : Int) < (n : Int)) = true := by simp; omega
    have HK := hid (r_nil iC 3 1 (St.nil w))
    have hk1 := kept_alloc w (.cells #[.slice la n lc] 23)
    have HS := hid (St.cut (A := [_]) (r_nil iC 3 1 s1))
    clear hs hl s1 h7 e hlen
    go_enter Try.func16, Try.ntmps16
    go_wp2
    go_ret3
    exact ⟨.slice none 0 0, rfl, HS.out⟩
  · have hn7 : n ≤ 7 := by omega
    have hn1 : (n : Int) ≤ 7 := by omega
    have t7 : decide ((7 : Int) < (n : Int)) = false := by simp; omega
    have e : srchM start (smS L) = match found start (smS L) with | some r => (r, true, 0) | none => ([], false, 0) := by unfold srchM; rw [hlen, if_neg h7]
    have HSM := hid e
    have HFD : Hid (found start (smS L) = dfs (smS L) n (memO start fun _ => none) []) := hid (by unfold found; rw [hlen]; rfl)
    generalize hw1 : w.alloc (.cells #[.slice la n lc] 23) = w1 at *
    generalize hV3 : w.heap.size = V3 at *
    have c3 := s1.cell 0 rfl 0
    have hm1 := r_make Try.rowG Gt.zero (by intro i z0 h1 h2; rw [zero_of Try.infoG i z0 h1 h2]; rfl) n n rfl (by omega) w1
    have s2 := r_new (f := gC) (k := 3) (fun _ => rfl) 67 s1 (List.replicate n Gt.zero) (by simp only [List.length_replicate]; unfold maxLen; omega)
    simp only [lstR, List.length_replicate] at s2
    generalize w1.alloc (.cells (fl gC (List.replicate n Gt.zero)).toArray 67) = w2 at *
    generalize w1.heap.size = GB at *
    have s3 := s2.box #[.slice (some ⟨GB, 0, none⟩) n n] 76
    generalize hw3 : w2.alloc (.cells #[.slice (some ⟨GB, 0, none⟩) n n] 76) = w3 at *
    generalize hV1 : w2.heap.size = V1 at *
    have c3' := s3.cell 2 rfl 0
    have HS3 := hid s3
    have HL0 := hid hl
    have HS0 := hid hs
    clear s1 s2 s3 hl hs h7 e hlen
    go_enter Try.func16, Try.ntmps16
    go_upto_region 5 with (first | simp only [hw1, hV3] | simp only [hm1] | simp only [hw3, hV1])
    clear c3 c3' hm1 hw1 hV3 hw3 hV1
    go_loopw [20] (fun i wr => ∃ (j : Nat) (gl : List Gt), i = .int .i64 j ∧ j ≤ n ∧ gl.length = j ∧ (∀ (q : Nat) (g : Gt) (m : Sm), gl[q]? = some g → L[q]? = some m → g.of m.s) ∧ St w (boxI V1 #[.slice (some ⟨GB, 0, none⟩) n n] 76 :: ownI 67 3 (.slice (some ⟨GB, 0, none⟩) n n) n (fl gC (gl ++ List.replicate (n - j) Gt.zero)) :: boxI V3 #[.slice la n lc] 23 :: gsI gl) wr) (fun i _ => n - (intOf i).toNat)
    case atStart => exact ⟨0, [], rfl, Nat.zero_le _, rfl, fun q g m h => by simp at h, HS3.out⟩
    case round =>
      clear HS3
      obtain ⟨j, gl, rfl, hj, hgl, hgo, hst⟩ := hrel
      by_cases hlt : j < n
      · have hlt' : (j : Int) < (n : Int) := by omega
        have hj0 : (0 : Int) ≤ (j : Int) := by omega
        obtain ⟨g, off, rfl⟩ := HL0.out.1.addr (by omega)
        obtain ⟨m, hx⟩ : ∃ x, L[j]? = some x := ⟨_, List.getElem?_eq_getElem (by have := HLN.out; omega)⟩
        have hSM := HL0.out.2 m (List.mem_of_getElem? hx)
        have hgi := fun W (k : Kept (fun _ => False) w W) => gist_any (w := W) m (hSM.kept k)
        have HX := hid hx
        obtain ⟨⟨z0, z1, z2, z3, z4, z5, z6, z7, z8, ms⟩, ma, mc⟩ := m
        obtain ⟨a0, a1, a2, a3, a4, a5, a6, a7, a8, a9⟩ := story_cells HL0.out hst.same hx
        have s1 := hst.box #[.int .i64 z0, .int .i64 z1, .int .i64 z2, .int .i64 z3, .int .i64 z4, .int .i64 z5, .int .i64 z6, .int .i64 z7, .int .i64 z8, .slice ma ms.length mc] 44
        generalize hw4 : wr.alloc (.cells #[.int .i64 z0, .int .i64 z1, .int .i64 z2, .int .i64 z3, .int .i64 z4, .int .i64 z5, .int .i64 z6, .int .i64 z7, .int .i64 z8, .slice ma ms.length mc] 44) = w4 at *
        generalize hB : wr.heap.size = B at *
        have HS1 := hid s1
        have HJ : Hid (j + 1 ≤ n ∧ n - (j + 1) < n - j) := hid ⟨by omega, by omega⟩
        have HGL := hid hgl
        have HGO := hid hgo
        have HLT := hid hlt
        clear hst s1 hx hSM hgl hgo hj hlt
        unfold syV gistV at hgi
        simp only at hgi
        go_upto_region 7 with (simp only [hw4, hB])
        clear a0 a1 a2 a3 a4 a5 a6 a7 a8 a9 hw4 hB
        have HF : Hid (∀ (Y : List It) W, St w (Y ++ (boxI B #[.int .i64 z0, .int .i64 z1, .int .i64 z2, .int .i64 z3, .int .i64 z4, .int .i64 z5, .int .i64 z6, .int .i64 z7, .int .i64 z8, .slice ma ms.length mc] 44 :: boxI V1 #[.slice (some ⟨GB, 0, none⟩) n n] 76 :: ownI 67 3 (.slice (some ⟨GB, 0, none⟩) n n) n (fl gC (gl ++ List.replicate (n - j) Gt.zero)) :: boxI V3 #[.slice (some ⟨g, off, none⟩) n lc] 23 :: gsI gl)) W → (W.cell? ⟨V1, 0, none⟩ = some (.slice (some ⟨GB, 0, none⟩) n n) ∧ W.cell? ⟨B, 0, none⟩ = some (.int .i64 z0) ∧ W.cell? ⟨B, 1, none⟩ = some (.int .i64 z1) ∧ W.cell? ⟨B, 2, none⟩ = some (.int .i64 z2) ∧ W.cell? ⟨B, 3, none⟩ = some (.int .i64 z3) ∧ W.cell? ⟨B, 4, none⟩ = some (.int .i64 z4) ∧ W.cell? ⟨B, 5, none⟩ = some (.int .i64 z5) ∧ W.cell? ⟨B, 6, none⟩ = some (.int .i64 z6) ∧ W.cell? ⟨B, 7, none⟩ = some (.int .i64 z7) ∧ W.cell? ⟨B, 8, none⟩ = some (.int .i64 z8) ∧ W.cell? ⟨B, 9, none⟩ = some (.slice ma ms.length mc)) ∧ (W.cell? ⟨GB, j * 3, none⟩ = some (.bool false) ∧ W.cell? ⟨GB, j * 3 + 1, none⟩ = some (.slice none 0 0) ∧ W.cell? ⟨GB, j * 3 + 2, none⟩ = some (.slice none 0 0)) ∧ W.frozen? ⟨GB, j * 3, none⟩ = false ∧ W.frozen? ⟨GB, j * 3 + 1, none⟩ = false ∧ W.frozen? ⟨GB, j * 3 + 2, none⟩ = false) := hid (fun Y W s => by
          have s := s.only
          have := g_cell s (i := 2) rfl (by have := HGL.out; have := HLT.out; simp; omega) (rep_set (g := Gt.zero) HGL.out HLT.out).2
          exact ⟨⟨s.cell 1 rfl 0, s.cell 0 rfl 0, s.cell 0 rfl 1, s.cell 0 rfl 2, s.cell 0 rfl 3, s.cell 0 rfl 4, s.cell 0 rfl 5, s.cell 0 rfl 6, s.cell 0 rfl 7, s.cell 0 rfl 8, s.cell 0 rfl 9⟩, this.1, this.2⟩)
        obtain ⟨⟨e0, e1, e2, e3, e4, e5, e6, e7, e8, e9, eA⟩, ⟨g0, g1, g2⟩, h0, h1, h2⟩ := HF.out [] _ HS1.out
        obtain ⟨⟨e0', e1', e2', e3', e4', e5', e6', e7', e8', e9', eA'⟩, ⟨g0', g1', g2'⟩, h0', h1', h2'⟩ := HF.out [] _ HS1.out.drew
        have hgc := hgi w4.drew HS1.out.drew.same
        refine (fun key : ?KEY ∧ True => ?main) ⟨?keyproof, trivial⟩
        case main =>
          go_region_with (go_at_call 30; refine hgc.mono ?_; rintro e w6 ⟨aa, ac, ga, gc, rfl, s6⟩; have s7 := St.over HS1.out.drew s6; obtain ⟨⟨e0, e1, e2, e3, e4, e5, e6, e7, e8, e9, eA⟩, ⟨g0, g1, g2⟩, h0, h1, h2⟩ := HF.out _ _ s7; have HS7 := hid s7; clear s6 s7)
          all_goals
            clear e0 e1 e2 e3 e4 e5 e6 e7 e8 e9 eA g0 g1 g2 h0 h1 h2
            revert HS7
            revert gc
            revert ga
            revert ac
            revert aa
            revert w6
            exact key.1
        case keyproof =>
          intro w6 aa ac ga gc HS7
          have HEND := hid (g_put HS7.out (i := 4) rfl (by have := HGL.out; have := HLT.out; simp; omega) (rep_set (g := Gt.zero) HGL.out HLT.out).2 ⟨brokeM (fun _ => none) ms, aa, ac, ga, gc, asksM (fun _ => none) ms, leavesL ⟨z0, z1, z2, z3, z4, z5, z6, z7, z8, ms⟩⟩)
          have HEN2 : Hid (∀ W, St w ([lstR pC 86 2 (.slice aa (asksM (fun _ => none) ms).length ac) (asksM (fun _ => none) ms), lstR pC 86 2 (.slice ga (leavesL ⟨z0, z1, z2, z3, z4, z5, z6, z7, z8, ms⟩).length gc) (leavesL ⟨z0, z1, z2, z3, z4, z5, z6, z7, z8, ms⟩), boxI B #[.int .i64 z0, .int .i64 z1, .int .i64 z2, .int .i64 z3, .int .i64 z4, .int .i64 z5, .int .i64 z6, .int .i64 z7, .int .i64 z8, .slice ma ms.length mc] 44, boxI V1 #[.slice (some ⟨GB, 0, none⟩) n n] 76, ownI 67 3 (.slice (some ⟨GB, 0, none⟩) n n) n (fl gC ((gl ++ List.replicate (n - j) Gt.zero).set j ⟨brokeM (fun _ => none) ms, aa, ac, ga, gc, asksM (fun _ => none) ms, leavesL ⟨z0, z1, z2, z3, z4, z5, z6, z7, z8, ms⟩⟩)), boxI V3 #[.slice (some ⟨g, off, none⟩) n lc] 23] ++ gsI gl) W → St w (boxI V1 #[.slice (some ⟨GB, 0, none⟩) n n] 76 :: ownI 67 3 (.slice (some ⟨GB, 0, none⟩) n n) n (fl gC (gl ++ [⟨brokeM (fun _ => none) ms, aa, ac, ga, gc, asksM (fun _ => none) ms, leavesL ⟨z0, z1, z2, z3, z4, z5, z6, z7, z8, ms⟩⟩] ++ List.replicate (n - (j + 1)) Gt.zero)) :: boxI V3 #[.slice (some ⟨g, off, none⟩) n lc] 23 :: gsI (gl ++ [⟨brokeM (fun _ => none) ms, aa, ac, ga, gc, asksM (fun _ => none) ms, leavesL ⟨z0, z1, z2, z3, z4, z5, z6, z7, z8, ms⟩⟩])) W) := hid (fun W s => by
            rw [(rep_set (g := (⟨brokeM (fun _ => none) ms, aa, ac, ga, gc, asksM (fun _ => none) ms, leavesL ⟨z0, z1, z2, z3, z4, z5, z6, z7, z8, ms⟩⟩ : Gt)) HGL.out HLT.out).1] at s
            have s2 := (St.move s 6 rfl [2, 3, 4, 5, 0, 1] (by decide)).pop
            rw [gsI_snoc]
            exact s2.perm (((List.perm_append_comm (l₁ := [_, _]) (l₂ := gsI gl)).append_left [_, _, _])))
          have HGO2 : Hid (∀ (q : Nat) (g : Gt) (m : Sm), (gl ++ [⟨brokeM (fun _ => none) ms, aa, ac, ga, gc, asksM (fun _ => none) ms, leavesL ⟨z0, z1, z2, z3, z4, z5, z6, z7, z8, ms⟩⟩])[q]? = some g → L[q]? = some m → g.of m.s) := hid (fun q g' m' h1 h2 => by
            by_cases hq : q < gl.length
            · rw [List.getElem?_append_left hq] at h1
              exact HGO.out q g' m' h1 h2
            · have hq2 := (List.getElem?_eq_some_iff.1 h1).1
              simp only [List.length_append, List.length_cons, List.length_nil] at hq2
              obtain rfl : q = gl.length := by omega
              simp only [List.getElem?_append_right (Nat.le_refl _), Nat.sub_self, List.getElem?_cons_zero, Option.some.injEq] at h1
              have hx := HX.out
              have hgl := HGL.out
              rw [← hgl] at hx
              rw [hx] at h2
              simp only [Option.some.injEq] at h2
              subst h1
              subst h2
              exact ⟨rfl, rfl, rfl⟩)
          clear HF HS7 hgc hgi
          go_wp2
          go_roundw
          case rel => exact ⟨j + 1, _, by simp, HJ.out.1, by have := HGL.out; simp; omega, HGO2.out, HEN2.out _ HEND.out⟩
          case measure => have := HJ.out.2; simp [intOf]; omega
      · have hlt' : ¬ (j : Int) < (n : Int) := by omega
        obtain rfl : j = n := by omega
        rw [Nat.sub_self, List.replicate_zero, List.append_nil] at hst
        have c3 := hst.cell 2 rfl 0
        have hm0 := make0 j hn7 wr
        have s2 := r_new0 hst j hn7
        generalize wr.alloc (.cells (fl iC (List.replicate j 0)).toArray 3) = w5 at *
        generalize wr.heap.size = OB at *
        have s3 := s2.box #[.slice (some ⟨OB, 0, none⟩) 0 j] 24
        generalize hw6 : w5.alloc (.cells #[.slice (some ⟨OB, 0, none⟩) 0 j] 24) = w6 at *
        generalize hV2 : w5.heap.size = V2 at *
        have HS3 := hid s3
        clear hst s2 s3
        go_upto_region 11 with (first | simp only [hm0] | simp only [hw6, hV2])
        clear c3 hm0 hw6 hV2
        have s4 := HS3.out.box #[.nilFunc] 77
        generalize w6.alloc (.cells #[.nilFunc] 77) = w7 at *
        generalize w6.heap.size = V4 at *
        have d0 := s4.cell 0 rfl 0
        have f0 := s4.frozen 0 rfl 0
        have HS5 := hid (s4.write 0 rfl 0 (.func (.func 36) #[] #[.pointer (some ⟨V1, 0, none⟩), .pointer (some ⟨V2, 0, none⟩), .pointer (some ⟨V3, 0, none⟩), .pointer (some ⟨V4, 0, none⟩)]))
        clear s4
        go_upto_region 12 with fail
        clear d0 f0
        generalize w7.setCell ⟨V4, 0, none⟩ (.func (.func 36) #[] #[.pointer (some ⟨V1, 0, none⟩), .pointer (some ⟨V2, 0, none⟩), .pointer (some ⟨V3, 0, none⟩), .pointer (some ⟨V4, 0, none⟩)]) = w8 at *
        have hnm := newMemory_any HS5.out.drew sa sn sc
        have hca := comp_any (V1 := V1) (V2 := V2) (V3 := V3) (V4 := V4) (GB := GB) (lc := lc) (sc := sc) HS0.out HL0.out hn7 hsn hgl hgo j
        have hcomp : ∀ (mb : Nat) (W : World), St w (mapV mb [] :: boxI V4 #[.func (.func 36) #[] #[.pointer (some ⟨V1, 0, none⟩), .pointer (some ⟨V2, 0, none⟩), .pointer (some ⟨V3, 0, none⟩), .pointer (some ⟨V4, 0, none⟩)]] 77 :: boxI V2 #[.slice (some ⟨OB, 0, none⟩) 0 j] 24 :: ownI 3 1 (.slice (some ⟨OB, 0, none⟩) 0 j) 0 (fl iC (asI [])) :: boxI V1 #[.slice (some ⟨GB, 0, none⟩) j j] 76 :: ownI 67 3 (.slice (some ⟨GB, 0, none⟩) j j) j (fl gC gl) :: boxI V3 #[.slice la j lc] 23 :: gsI gl) W → Calls Try.prog 36 #[memV sa sn sc mb, .pointer (some ⟨V1, 0, none⟩), .pointer (some ⟨V2, 0, none⟩), .pointer (some ⟨V3, 0, none⟩), .pointer (some ⟨V4, 0, none⟩)] W fun e w' =>
            (∀ r, dfs (smS L) j (memO start fun _ => none) [] = some r → e = .returned (.bool true) ∧ ∃ v', St w (ordI V2 v' r ++ (srF V1 V2 V3 V4 GB j la lc gl ++ [mapV mb []])) w') ∧ (dfs (smS L) j (memO start fun _ => none) [] = none → e = .returned (.bool false) ∧ ∃ v', St w (ordI V2 v' [] ++ (srF V1 V2 V3 V4 GB j la lc gl ++ [mapV mb []])) w') := by
          intro mb W s
          have s1 := St.move (l := [_, _, _, _, _, _, _]) s 7 rfl [2, 3, 4, 5, 6, 1, 0] (by decide)
          have s2 : St w (ordI V2 (.slice (some ⟨OB, 0, none⟩) 0 j) [] ++ (srF V1 V2 V3 V4 GB j la lc gl ++ [mapV mb []])) W := s1.perm ((List.perm_append_comm (l₁ := [mapV mb []]) (l₂ := gsI gl)).append_left [_, _, _, _, _, _])
          exact hca [] (fun _ => none) mb [] [mapV mb []] 0 _ W (by simp) List.nodup_nil (fun p hp => by simp at hp) valR_nil rfl s2
        clear hca hgo
        unfold memV at hnm hcomp
        have HC4 : Hid (∀ (W : World), St w (boxI V4 #[.func (.func 36) #[] #[.pointer (some ⟨V1, 0, none⟩), .pointer (some ⟨V2, 0, none⟩), .pointer (some ⟨V3, 0, none⟩), .pointer (some ⟨V4, 0, none⟩)]] 77 :: boxI V2 #[.slice (some ⟨OB, 0, none⟩) 0 j] 24 :: ownI 3 1 (.slice (some ⟨OB, 0, none⟩) 0 j) 0 (fl iC (asI [])) :: boxI V1 #[.slice (some ⟨GB, 0, none⟩) j j] 76 :: ownI 67 3 (.slice (some ⟨GB, 0, none⟩) j j) j (fl gC gl) :: boxI V3 #[.slice la j lc] 23 :: gsI gl) W → W.cell? ⟨V4, 0, none⟩ = some (.func (.func 36) #[] #[.pointer (some ⟨V1, 0, none⟩), .pointer (some ⟨V2, 0, none⟩), .pointer (some ⟨V3, 0, none⟩), .pointer (some ⟨V4, 0, none⟩)])) := hid (fun W s => s.cell 0 rfl 0)
        cases hd : dfs (smS L) j (memO start fun _ => none) [] with
        | some r =>
          have hcs := fun mb W s => (hcomp mb W s).mono (fun e w' h => h.1 r hd)
          have HFR : Hid (srchM start (smS L) = (r, true, 0)) := hid (by rw [HSM.out, HFD.out, hd])
          clear hcomp hd
          go_region_held3 (fun W => W.cell? ⟨V4, 0, none⟩ = some (.func (.func 36) #[] #[.pointer (some ⟨V1, 0, none⟩), .pointer (some ⟨V2, 0, none⟩), .pointer (some ⟨V3, 0, none⟩), .pointer (some ⟨V4, 0, none⟩)])) (first | exact HC4.out _ HS5.out.drew | exact HC4.out _ HS9.out.pop | exact HSA.out.cell 5 rfl 0) (first | (go_at_call 29; refine hnm.mono ?_; rintro e w9 ⟨mb, rfl, s9⟩; have HS9 := hid s9; clear s9) | (go_at_call 36; refine (hcs _ _ HS9.out).mono ?_; rintro e wa ⟨rfl, va, sA⟩; have HSA := hid sA; clear sA))
          all_goals
            have sA := HSA.out
            have c2 := sA.cell 0 rfl 0
            have HZ := hid (St.cut (A := [_]) sA.pop)
            clear sA hcs hnm
            go_wp2
            go_ret3
            rw [HFR.out]
            exact ⟨_, rfl, HZ.out⟩
        | none =>
          have hcs := fun mb W s => (hcomp mb W s).mono (fun e w' h => h.2 hd)
          have HFR : Hid (srchM start (smS L) = ([], false, 0)) := hid (by rw [HSM.out, HFD.out, hd])
          clear hcomp hd
          go_region_held3 (fun W => W.cell? ⟨V4, 0, none⟩ = some (.func (.func 36) #[] #[.pointer (some ⟨V1, 0, none⟩), .pointer (some ⟨V2, 0, none⟩), .pointer (some ⟨V3, 0, none⟩), .pointer (some ⟨V4, 0, none⟩)])) (first | exact HC4.out _ HS5.out.drew | exact HC4.out _ HS9.out.pop | exact HSA.out.cell 5 rfl 0) (first | (go_at_call 29; refine hnm.mono ?_; rintro e w9 ⟨mb, rfl, s9⟩; have HS9 := hid s9; clear s9) | (go_at_call 36; refine (hcs _ _ HS9.out).mono ?_; rintro e wa ⟨rfl, va, sA⟩; have HSA := hid sA; clear sA))
          all_goals
            have HZ := hid (St.cut (A := [_]) (r_nil iC 3 1 HSA.out))
            clear hcs hnm
            go_wp2
            go_ret3
            rw [HFR.out]
            exact ⟨.slice none 0 0, rfl, HZ.out⟩
end Go.Proofs.Ytnmlnjljmikmpaa
