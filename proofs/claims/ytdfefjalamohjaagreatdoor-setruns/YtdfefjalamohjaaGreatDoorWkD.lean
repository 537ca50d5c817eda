/- Package set: eachOnce. -/
import Derived.Test.YtdfefjalamohjaaGreatDoorWkA
import Derived.Test.YtdfefjalamohjaaGreatDoorLyM
import Derived.Test.YtdfefjalamohjaaGreatDoorVfD
namespace Go.Proofs.YtdfefjalamohjaaGreatDoor
open Go.RowKit Go.Shelf
set_option linter.unusedVariables false
set_option linter.unusedSimpArgs false
attribute [local go_sem ↓] Go.wp_at_zero Go.wp_at_succ
attribute [local go_sem] Oper.semAt_some

/-- What eachOnce keeps: the part's box, the marks and their box, how many were met, whether it went astray. -/
abbrev eoX (B0 B1 G B3 B4 g off n lc : Nat) (vis : List Int) (ast : Bool) : List It :=
  [boxI B0 #[.slice (some ⟨g, off, none⟩) (3 + 2 * n) lc] 24, boxI B1 #[.slice (some ⟨G, 0, none⟩) (n + 1) (n + 1)] 77, boxI G (beC n vis) 4, boxI B3 #[.int .i64 vis.length] 3, boxI B4 #[.bool ast] 4]
theorem slice_two (g off m lc : Nat) (h1 : 2 ≤ m) (h2 : m ≤ lc) (W : World) : (Instr.slice 24 (.slice (some ⟨g, off, none⟩) m lc) (some (.int .i64 0)) (some (.int .i64 2)) none).run Tryz.prog W = .ok (.slice (some ⟨g, off, none⟩) 2 lc) W := by
  have := slicePart g off m lc 0 2 (by omega) (by omega) h2 0 2 rfl rfl W
  simpa using this
set_option maxRecDepth 100000 in
set_option maxHeartbeats 8000000 in
theorem eachOnce_any {w : World} {g off lc n : Nat} {L : List Int} (hX : XIn w (some ⟨g, off, none⟩) (3 + 2 * n) L) (hn : n ≤ 60) (hlc : 3 + 2 * n ≤ lc) :
    Calls Tryz.prog 33 #[.slice (some ⟨g, off, none⟩) (3 + 2 * n) lc] w fun e w' => e = .returned (.bool (onceM L n)) ∧ Kept (fun _ => False) w w' := by
  refine callsIn_wide (n := 9) |>.1 ?_
  have HQ : Hid (∀ b w' its, onceM L n = b → St w its w' → (fun e w' => e = .returned (.bool (onceM L n)) ∧ Kept (fun _ => False) w w') (Ending.returned (.bool b)) w') := fun b w' its h1 h2 => ⟨by rw [h1], h2.same⟩
  generalize (fun (e : Ending) (w' : World) => e = .returned (.bool (onceM L n)) ∧ Kept (fun _ => False) w w') = Qp at *
  have s0 := (St.nil w).box #[.slice (some ⟨g, off, none⟩) (3 + 2 * n) lc] 24
  generalize hM : w.heap.size = B0 at *
  generalize hw0 : w.alloc (.cells #[.slice (some ⟨g, off, none⟩) (3 + 2 * n) lc] 24) = w0 at *
  have c0 : w0.cell? ⟨B0, 0, none⟩ = some (.slice (some ⟨g, off, none⟩) (3 + 2 * n) lc) := s0.cell 0 rfl 0
  have hnd := fun W => nodes_any (some ⟨g, off, none⟩) n lc hn W
  have hmk := makeB (n + 1) (1 + (n : Int)) (by omega) (by omega) w0
  have s1 := s0.box (bCells (List.replicate (n + 1) false)) 4
  have s2 := s1.box #[.slice (some ⟨w0.heap.size, 0, none⟩) (n + 1) (n + 1)] 77
  have s3 := (s2.box #[.int .i64 0] 3).box #[.bool false] 4
  have hf1 : Fence.wide.fn 56 := trivial
  have hf2 : Fence.wide.fn 57 := trivial
  have hf3 : Fence.wide.fn 58 := trivial
  have hsl := fun W => slice_two g off (3 + 2 * n) lc (by omega) hlc W
  have hn1 : (1 : Int) + (n : Int) ≤ 61 := by omega
  clear s1 s2
  refine callsIn_of_wp_marks Tryz.func33 rfl trivial ?_
  simp only [Tryz.ntmps33, List.size_toArray, List.length_cons, List.length_nil, Nat.reduceAdd, Nat.reduceSub, Array.replicate_succ, Array.replicate_zero, List.push_toArray, List.append_toArray, List.nil_append, List.cons_append]
  simp only [alloc_size] at s3
  gi_wp2_with (simp only [hw0, hM])
  refine wpIn_scope ?_
  gi_wp2_with (first | (gi_at_call 56; refine (callsIn_wide.2 (hnd _)).mono ?_; rintro e w' ⟨rfl, rfl⟩) | simp only [hmk])
  refine wpIn_label ?_
  generalize w'.heap.size + 1 + 1 + 1 = B4 at *
  generalize w'.heap.size + 1 + 1 = B3 at *
  generalize w'.heap.size + 1 = B1 at *
  generalize w'.heap.size = G at *
  have s4 : St w (eoX B0 B1 G B3 B4 g off n lc [] false) _ := (by
    have := s3.perm (perm_idx (boxI 0 #[] 0) _ 5 rfl [4, 2, 3, 1, 0] (by decide))
    rw [show bCells (List.replicate (n + 1) false) = beC n [] from (beC_nil n).symm] at this
    exact this)
  rw [show bCells (List.replicate (n + 1) false) = beC n [] from (beC_nil n).symm]
  generalize hwE : ((((w'.alloc (.cells (beC n []) 4)).alloc (.cells #[.slice (some ⟨G, 0, none⟩) (n + 1) (n + 1)] 77)).alloc (.cells #[.int .i64 0] 3)).alloc (.cells #[.bool false] 4)) = wE at *
  have c1 : wE.cell? ⟨B0, 0, none⟩ = some (.slice (some ⟨g, off, none⟩) (3 + 2 * n) lc) := s4.cell 0 rfl 0
  clear hwE s3 hmk s0 c0 hw0
  have hX0 := hid hX
  gi_wp2_with (simp only [hsl])
  refine wpIn_loop_rounds 3 ?_
  simp only [roundsIn_succ]
  clear hX
  have d0 : wE.cell? ⟨g, off, none⟩ = some (.int .i64 (L.getD 0 0)) := (hX0.out.kept s4.same).cell (j := 0) (by omega)
  have hwk := walk_any s4 (some ⟨g, off, none⟩) (3 + 2 * n) lc (L.getD 0 0)
  generalize hfa : L.getD 0 0 = fa at *
  gi_wp2_with (gi_at_call 57; refine (callsIn_wide.2 hwk).mono ?_; rintro e w2 ⟨bf, bp, rfl, s5⟩)
  refine rf_law (o := w) (T := []) (enc := Value.int .i64) rfl (enters_of Tryz.func78 (by kernel_rfl) rfl) (walk_tells (lc := lc) hX0.out hn bf bp fa) rfl
    (fun ns X => X = eoX B0 B1 G B3 B4 g off n lc ([] ++ ns) false ∧ Hid (Vis n ([] ++ ns)))
    (fun c ns X => c = .exit 0 ∧ (∃ vis, X = eoX B0 B1 G B3 B4 g off n lc vis true) ∧ Hid (goM L n (n + 2) fa [] = none))
    n (fun pre X hX => by have := hX.2.out.len; rw [List.length_append] at this; omega) ⟨_, ⟨rfl, hid (Vis.nil n)⟩, s5.perm (List.perm_append_comm (l₁ := [_, _]) (l₂ := [_, _, _, _, _]))⟩
    (fun x => { tmps := #[.slice (some ⟨g, off, none⟩) (3 + 2 * n) lc, .pointer (some ⟨B0, 0, none⟩), .bool false, .pointer (some ⟨B1, 0, none⟩), .pointer (some ⟨B3, 0, none⟩), .pointer (some ⟨B4, 0, none⟩), undef, .int .i64 fa, .int .i64 x, .slice (some ⟨g, off, none⟩) (3 + 2 * n) lc, .int .i64 n, .int .i64 (1 + (n : Int)), .slice (some ⟨G, 0, none⟩) (n + 1) (n + 1), .slice (some ⟨g, off, none⟩) (3 + 2 * n) lc, .slice (some ⟨g, off, none⟩) 2 lc, .int .i64 2, .int .i64 0, .bool true, .pointer (some ⟨g, off, none⟩), .int .i64 fa, .slice (some ⟨g, off, none⟩) (3 + 2 * n) lc, .int .i64 fa, .func (.func 78) #[] #[.pointer (some ⟨bf, 0, none⟩), .pointer (some ⟨bp, 0, none⟩)], .int .i64 x, undef, undef, undef, undef, undef, undef, undef, undef, undef, undef, undef, undef, undef, undef, undef, undef, undef, undef, undef, undef, undef, undef, undef, undef], defers := [] }) ?assign1 ?round1 ?done1 ?stop1
  case assign1 =>
    intro l' x W' C hC
    gi_wp2
    exact hC
  case round1 =>
    rintro l' T' pre x W' ⟨hTr, hx0⟩ ⟨_, ⟨rfl, hv⟩, hs⟩
    have hE1 : Hid (isN n x = true ∧ x ∉ [] ++ pre → ∀ a W3, St w (eoX B0 B1 G B3 B4 g off n lc (([] ++ pre) ++ [x]) false ++ (wkRq bf bp g off n lc fa ++ T')) W3 → EndsR w (fun ns X => X = eoX B0 B1 G B3 B4 g off n lc ([] ++ ns) false ∧ Hid (Vis n ([] ++ ns)))
        (fun c ns X => c = .exit 0 ∧ (∃ vis, X = eoX B0 B1 G B3 B4 g off n lc vis true) ∧ Hid (goM L n (n + 2) fa [] = none)) (wkRq bf bp g off n lc fa ++ T') (pre ++ [x]) .normal a W3) := fun hr a W3 h3 => ⟨_, ⟨rfl, hid (by rw [← List.append_assoc]; exact hv.out.snoc hr.1 hr.2)⟩, by rw [show [] ++ (pre ++ [x]) = ([] ++ pre) ++ [x] from (List.append_assoc _ _ _).symm]; exact h3⟩
    have hE2 : Hid (¬ (isN n x = true ∧ x ∉ [] ++ pre) → ∀ a W3, St w (eoX B0 B1 G B3 B4 g off n lc ([] ++ pre) true ++ (wkRq bf bp g off n lc fa ++ T')) W3 → EndsR w (fun ns X => X = eoX B0 B1 G B3 B4 g off n lc ([] ++ ns) false ∧ Hid (Vis n ([] ++ ns)))
        (fun c ns X => c = .exit 0 ∧ (∃ vis, X = eoX B0 B1 G B3 B4 g off n lc vis true) ∧ Hid (goM L n (n + 2) fa [] = none)) (wkRq bf bp g off n lc fa ++ T') (pre ++ [x]) (.exit 0) a W3) := fun hr a W3 h3 => ⟨_, ⟨rfl, ⟨_, rfl⟩, hid (go_stray hTr hx0 hv.out hr)⟩, h3⟩
    generalize EndsR w _ _ (wkRq bf bp g off n lc fa ++ T') (pre ++ [x]) = E at *
    generalize wkRq bf bp g off n lc fa ++ T' = RR at *
    have hlen := hv.out.len
    clear hTr hx0 hv
    generalize [] ++ pre = vis at *
    have a0 : W'.cell? ⟨B0, 0, none⟩ = some (.slice (some ⟨g, off, none⟩) (3 + 2 * n) lc) := hs.cell 0 rfl 0
    have a1 : W'.cell? ⟨B1, 0, none⟩ = some (.slice (some ⟨G, 0, none⟩) (n + 1) (n + 1)) := hs.cell 1 rfl 0
    have hi := isNode_any (some ⟨g, off, none⟩) n lc hn x W'
    cases hb : isN n x with
    | false =>
      have f5 : W'.frozen? ⟨B4, 0, none⟩ = false := hs.frozen 4 rfl 0
      have a5 : W'.cell? ⟨B4, 0, none⟩ = some (.bool false) := hs.cell 4 rfl 0
      have s6 := hid (hs.write 4 rfl 0 (.bool true))
      have hE := hid (hE2.out (by rw [hb]; simp))
      rw [hb] at hi
      clear hE1 hE2 hs hb
      gi_wp2_with (gi_at_call 58; refine (callsIn_in hi).mono ?_; rintro e w' ⟨rfl, rfl⟩)
      exact hE.out _ _ s6.out
    | true =>
      obtain ⟨hx1, hx2⟩ := isN_iff.1 hb
      obtain ⟨kx, rfl⟩ : ∃ kx : Nat, x = (kx : Int) := ⟨x.toNat, by omega⟩
      have hb1 : (kx : Int) < ((n + 1 : Nat) : Int) := by omega
      have hb0 : (0 : Int) ≤ (kx : Int) := by omega
      have a2 : W'.cell? ⟨G, kx, none⟩ = some (.bool (decide ((kx : Int) ∈ vis))) := (hs.cell 2 rfl kx).trans (beC_at n vis (by omega))
      by_cases hmem : (kx : Int) ∈ vis
      · have f5 : W'.frozen? ⟨B4, 0, none⟩ = false := hs.frozen 4 rfl 0
        have a5 : W'.cell? ⟨B4, 0, none⟩ = some (.bool false) := hs.cell 4 rfl 0
        have s6 := hid (hs.write 4 rfl 0 (.bool true))
        have hE := hid (hE2.out (by simp [hmem]))
        rw [hb] at hi
        rw [show decide ((kx : Int) ∈ vis) = true by simpa using hmem] at a2
        clear hE1 hE2 hs hb hmem
        gi_wp2_with (gi_at_call 58; refine (callsIn_in hi).mono ?_; rintro e w' ⟨rfl, rfl⟩)
        exact hE.out _ _ s6.out
      · have hE := hid (hE1.out ⟨hb, hmem⟩)
        rw [hb] at hi
        rw [show decide ((kx : Int) ∈ vis) = false by simpa using hmem] at a2
        have f2 : W'.frozen? ⟨G, kx, none⟩ = false := hs.frozen 2 rfl kx
        have s6 := hs.write 2 rfl kx (.bool true)
        rw [beC_set n vis (by omega)] at s6
        have a3 : (W'.setCell ⟨G, kx, none⟩ (.bool true)).cell? ⟨B3, 0, none⟩ = some (.int .i64 vis.length) := s6.cell 3 rfl 0
        have f3 : (W'.setCell ⟨G, kx, none⟩ (.bool true)).frozen? ⟨B3, 0, none⟩ = false := s6.frozen 3 rfl 0
        have s7 : Hid (St w (eoX B0 B1 G B3 B4 g off n lc (vis ++ [(kx : Int)]) false ++ RR) ((W'.setCell ⟨G, kx, none⟩ (.bool true)).setCell ⟨B3, 0, none⟩ (.int .i64 ((vis.length : Int) + 1)))) := hid (by
          have := s6.write 3 rfl 0 (.int .i64 ((vis.length : Int) + 1))
          show St w (_ :: _ :: _ :: boxI B3 #[.int .i64 ((vis ++ [(kx : Int)]).length : Nat)] 3 :: _ :: RR) _
          rw [show (((vis ++ [(kx : Int)]).length : Nat) : Int) = (vis.length : Int) + 1 by simp]
          exact this)
        have hq1 : (vis.length : Int) + 1 ≤ 61 := by omega
        have hq0 : (0 : Int) ≤ (vis.length : Int) := by omega
        clear hE1 hE2 hs hb hmem s6 hlen
        generalize hvl : vis.length = vl at *
        clear hvl
        gi_wp2_with (gi_at_call 58; refine (callsIn_in hi).mono ?_; rintro e w' ⟨rfl, rfl⟩)
        exact hE.out _ _ s7.out
  case stop1 =>
    rintro D c pre W' hpre ⟨_, ⟨rfl, ⟨vis, rfl⟩, hno⟩, hs⟩
    have hone : onceM L n = false := by unfold onceM; rw [hfa, hno.out]
    have hsd := hs.drew
    have a4 : W'.drew.cell? ⟨B4, 0, none⟩ = some (.bool true) := hsd.cell 4 rfl 0
    have s6 := hsd.perm (perm_in (dfrI D) (eoX B0 B1 G B3 B4 g off n lc vis true) (wkRq bf bp g off n lc fa ++ [])).symm
    have hd : W'.drew.heap[D]? = some (.deferred (some [])) := s6.get 0 rfl
    have hP := hid (HQ.out false _ _ hone s6.shutD)
    clear hs hsd s6 hno
    have hmx : (Tryz.prog).follows .mixedOrders = true := by kernel_rfl
    gi_wp2
    refine wpIn_mono (Q := Exit.then ?KKs1 (fun _ _ _ => False)) ?mains1 ?weaks1
    case weaks1 =>
      intro e a w h
      cases e with
      | normal => exact h
      | _ => exact h.elim
    gi_region_with_o (gi_at_call 56; refine (callsIn_wide.2 (hnd _)).mono ?_; rintro e w' ⟨rfl, rfl⟩)
    all_goals gi_wp2
    all_goals refine ⟨by simp, .inl ⟨_, _, rfl, run_takeDeferred hd, ?_⟩⟩
    all_goals exact ⟨_, by simp [results, Tryz.f33, go_sem], hP.out⟩
  case done1 =>
    rintro D xs W' hxs ⟨_, ⟨rfl, hv⟩, hs⟩
    have hg1 : Hid (goM L n (n + 2) fa [] = some ([] ++ xs)) := hid (go_end hxs hv.out)
    generalize [] ++ xs = vis1 at *
    have HV1 := hid hv.out
    generalize hT1 : dfrI D :: (wkRq bf bp g off n lc fa ++ []) = T1 at *
    have hT1 := hid hT1
    have d1 : W'.cell? ⟨g, off + 1, none⟩ = some (.int .i64 (L.getD 1 0)) := (hX0.out.kept hs.same).cell (j := 1) (by omega)
    have c2 : W'.cell? ⟨B0, 0, none⟩ = some (.slice (some ⟨g, off, none⟩) (3 + 2 * n) lc) := hs.cell 0 rfl 0
    have hwk2 := walk_any hs (some ⟨g, off, none⟩) (3 + 2 * n) lc (L.getD 1 0)
    generalize hfb : L.getD 1 0 = fb at *
    have hfa := hid hfa
    have hfb := hid hfb
    clear hwk d0 c1 s4 hv hxs
    gi_wp2
    simp only [roundsIn_succ]
    gi_wp2_with (gi_at_call 57; refine (callsIn_wide.2 hwk2).mono ?_; rintro e w3 ⟨bf2, bp2, rfl, s8⟩)
    refine rf_law (o := w) (T := T1) (enc := Value.int .i64) rfl (enters_of Tryz.func78 (by kernel_rfl) rfl) (walk_tells (lc := lc) hX0.out hn bf2 bp2 fb) rfl
      (fun ns X => X = eoX B0 B1 G B3 B4 g off n lc (vis1 ++ ns) false ∧ Hid (Vis n (vis1 ++ ns)))
      (fun c ns X => c = .exit 0 ∧ (∃ vis, X = eoX B0 B1 G B3 B4 g off n lc vis true) ∧ Hid (goM L n (n + 2) fb vis1 = none))
      n (fun pre X hX => by have := hX.2.out.len; rw [List.length_append] at this; omega) ⟨_, ⟨by rw [List.append_nil], hid (by rw [List.append_nil]; exact HV1.out)⟩, s8.perm (List.perm_append_comm_assoc (wkRq bf2 bp2 g off n lc fb) (eoX B0 B1 G B3 B4 g off n lc vis1 false) T1)⟩
      (fun x => { tmps := #[.slice (some ⟨g, off, none⟩) (3 + 2 * n) lc, .pointer (some ⟨B0, 0, none⟩), .bool false, .pointer (some ⟨B1, 0, none⟩), .pointer (some ⟨B3, 0, none⟩), .pointer (some ⟨B4, 0, none⟩), undef, .int .i64 fb, .int .i64 x, .slice (some ⟨g, off, none⟩) (3 + 2 * n) lc, .int .i64 n, .int .i64 (1 + (n : Int)), .slice (some ⟨G, 0, none⟩) (n + 1) (n + 1), .slice (some ⟨g, off, none⟩) (3 + 2 * n) lc, .slice (some ⟨g, off, none⟩) 2 lc, .int .i64 2, .int .i64 1, .bool true, .pointer (some ⟨g, off + 1, none⟩), .int .i64 fb, .slice (some ⟨g, off, none⟩) (3 + 2 * n) lc, .int .i64 fb, .func (.func 78) #[] #[.pointer (some ⟨bf2, 0, none⟩), .pointer (some ⟨bp2, 0, none⟩)], .int .i64 x, undef, undef, undef, undef, undef, undef, undef, undef, undef, undef, undef, undef, undef, undef, undef, .int .i64 1, undef, undef, undef, undef, undef, undef, undef, undef], defers := [] }) ?assign2 ?round2 ?done2 ?stop2
    case assign2 =>
      intro l' x W' C hC
      gi_wp2
      exact hC
    case round2 =>
      rintro l' T' pre x W' ⟨hTr, hx0⟩ ⟨_, ⟨rfl, hv⟩, hs⟩
      have hE1 : Hid (isN n x = true ∧ x ∉ vis1 ++ pre → ∀ a W3, St w (eoX B0 B1 G B3 B4 g off n lc ((vis1 ++ pre) ++ [x]) false ++ (wkRq bf2 bp2 g off n lc fb ++ T')) W3 → EndsR w (fun ns X => X = eoX B0 B1 G B3 B4 g off n lc (vis1 ++ ns) false ∧ Hid (Vis n (vis1 ++ ns)))
          (fun c ns X => c = .exit 0 ∧ (∃ vis, X = eoX B0 B1 G B3 B4 g off n lc vis true) ∧ Hid (goM L n (n + 2) fb vis1 = none)) (wkRq bf2 bp2 g off n lc fb ++ T') (pre ++ [x]) .normal a W3) := fun hr a W3 h3 => ⟨_, ⟨rfl, hid (by rw [← List.append_assoc]; exact hv.out.snoc hr.1 hr.2)⟩, by rw [show vis1 ++ (pre ++ [x]) = (vis1 ++ pre) ++ [x] from (List.append_assoc _ _ _).symm]; exact h3⟩
      have hE2 : Hid (¬ (isN n x = true ∧ x ∉ vis1 ++ pre) → ∀ a W3, St w (eoX B0 B1 G B3 B4 g off n lc (vis1 ++ pre) true ++ (wkRq bf2 bp2 g off n lc fb ++ T')) W3 → EndsR w (fun ns X => X = eoX B0 B1 G B3 B4 g off n lc (vis1 ++ ns) false ∧ Hid (Vis n (vis1 ++ ns)))
          (fun c ns X => c = .exit 0 ∧ (∃ vis, X = eoX B0 B1 G B3 B4 g off n lc vis true) ∧ Hid (goM L n (n + 2) fb vis1 = none)) (wkRq bf2 bp2 g off n lc fb ++ T') (pre ++ [x]) (.exit 0) a W3) := fun hr a W3 h3 => ⟨_, ⟨rfl, ⟨_, rfl⟩, hid (go_stray hTr hx0 hv.out hr)⟩, h3⟩
      generalize EndsR w _ _ (wkRq bf2 bp2 g off n lc fb ++ T') (pre ++ [x]) = E at *
      generalize wkRq bf2 bp2 g off n lc fb ++ T' = RR at *
      have hlen := hv.out.len
      clear hTr hx0 hv
      generalize vis1 ++ pre = vis at *
      have a0 : W'.cell? ⟨B0, 0, none⟩ = some (.slice (some ⟨g, off, none⟩) (3 + 2 * n) lc) := hs.cell 0 rfl 0
      have a1 : W'.cell? ⟨B1, 0, none⟩ = some (.slice (some ⟨G, 0, none⟩) (n + 1) (n + 1)) := hs.cell 1 rfl 0
      have hi := isNode_any (some ⟨g, off, none⟩) n lc hn x W'
      cases hb : isN n x with
      | false =>
        have f5 : W'.frozen? ⟨B4, 0, none⟩ = false := hs.frozen 4 rfl 0
        have a5 : W'.cell? ⟨B4, 0, none⟩ = some (.bool false) := hs.cell 4 rfl 0
        have s6 := hid (hs.write 4 rfl 0 (.bool true))
        have hE := hid (hE2.out (by rw [hb]; simp))
        rw [hb] at hi
        clear hE1 hE2 hs hb
        gi_wp2_with (gi_at_call 58; refine (callsIn_in hi).mono ?_; rintro e w' ⟨rfl, rfl⟩)
        exact hE.out _ _ s6.out
      | true =>
        obtain ⟨hx1, hx2⟩ := isN_iff.1 hb
        obtain ⟨kx, rfl⟩ : ∃ kx : Nat, x = (kx : Int) := ⟨x.toNat, by omega⟩
        have hb1 : (kx : Int) < ((n + 1 : Nat) : Int) := by omega
        have hb0 : (0 : Int) ≤ (kx : Int) := by omega
        have a2 : W'.cell? ⟨G, kx, none⟩ = some (.bool (decide ((kx : Int) ∈ vis))) := (hs.cell 2 rfl kx).trans (beC_at n vis (by omega))
        by_cases hmem : (kx : Int) ∈ vis
        · have f5 : W'.frozen? ⟨B4, 0, none⟩ = false := hs.frozen 4 rfl 0
          have a5 : W'.cell? ⟨B4, 0, none⟩ = some (.bool false) := hs.cell 4 rfl 0
          have s6 := hid (hs.write 4 rfl 0 (.bool true))
          have hE := hid (hE2.out (by simp [hmem]))
          rw [hb] at hi
          rw [show decide ((kx : Int) ∈ vis) = true by simpa using hmem] at a2
          clear hE1 hE2 hs hb hmem
          gi_wp2_with (gi_at_call 58; refine (callsIn_in hi).mono ?_; rintro e w' ⟨rfl, rfl⟩)
          exact hE.out _ _ s6.out
        · have hE := hid (hE1.out ⟨hb, hmem⟩)
          rw [hb] at hi
          rw [show decide ((kx : Int) ∈ vis) = false by simpa using hmem] at a2
          have f2 : W'.frozen? ⟨G, kx, none⟩ = false := hs.frozen 2 rfl kx
          have s6 := hs.write 2 rfl kx (.bool true)
          rw [beC_set n vis (by omega)] at s6
          have a3 : (W'.setCell ⟨G, kx, none⟩ (.bool true)).cell? ⟨B3, 0, none⟩ = some (.int .i64 vis.length) := s6.cell 3 rfl 0
          have f3 : (W'.setCell ⟨G, kx, none⟩ (.bool true)).frozen? ⟨B3, 0, none⟩ = false := s6.frozen 3 rfl 0
          have s7 : Hid (St w (eoX B0 B1 G B3 B4 g off n lc (vis ++ [(kx : Int)]) false ++ RR) ((W'.setCell ⟨G, kx, none⟩ (.bool true)).setCell ⟨B3, 0, none⟩ (.int .i64 ((vis.length : Int) + 1)))) := hid (by
            have := s6.write 3 rfl 0 (.int .i64 ((vis.length : Int) + 1))
            show St w (_ :: _ :: _ :: boxI B3 #[.int .i64 ((vis ++ [(kx : Int)]).length : Nat)] 3 :: _ :: RR) _
            rw [show (((vis ++ [(kx : Int)]).length : Nat) : Int) = (vis.length : Int) + 1 by simp]
            exact this)
          have hq1 : (vis.length : Int) + 1 ≤ 61 := by omega
          have hq0 : (0 : Int) ≤ (vis.length : Int) := by omega
          clear hE1 hE2 hs hb hmem s6 hlen
          generalize hvl : vis.length = vl at *
          clear hvl
          gi_wp2_with (gi_at_call 58; refine (callsIn_in hi).mono ?_; rintro e w' ⟨rfl, rfl⟩)
          exact hE.out _ _ s7.out
    case stop2 =>
      rintro D2 c pre W' hpre ⟨_, ⟨rfl, ⟨vis, rfl⟩, hno⟩, hs⟩
      have hone : onceM L n = false := by unfold onceM; rw [hfa.out, hg1.out]; simp only; rw [hfb.out, hno.out]
      have hsd := hs.drew
      have a4 : W'.drew.cell? ⟨B4, 0, none⟩ = some (.bool true) := hsd.cell 4 rfl 0
      have s6 := hsd.perm (perm_in (dfrI D2) (eoX B0 B1 G B3 B4 g off n lc vis true) (wkRq bf2 bp2 g off n lc fb ++ T1)).symm
      have hd : W'.drew.heap[D2]? = some (.deferred (some [])) := s6.get 0 rfl
      have s7 := s6.shutD
      rw [← hT1.out] at s7
      have s8 := s7.perm (show _ from by
        have := perm_in (dfrI D) (eoX B0 B1 G B3 B4 g off n lc vis true ++ wkRq bf2 bp2 g off n lc fb) (wkRq bf bp g off n lc fa ++ [])
        simpa only [List.append_assoc] using this.symm)
      have hd2 : (W'.drew.putObj D2 (.deferred none)).heap[D]? = some (.deferred (some [])) := s8.get 0 rfl
      have hP := hid (HQ.out false _ _ hone s8.shutD)
      clear hs hsd s6 s7 s8 hno
      have hmx : (Tryz.prog).follows .mixedOrders = true := by kernel_rfl
      gi_wp2
      refine wpIn_mono (Q := Exit.then ?KKs2 (fun _ _ _ => False)) ?mains2 ?weaks2
      case weaks2 =>
        intro e a w h
        cases e with
        | normal => exact h
        | _ => exact h.elim
      gi_region_with_o (gi_at_call 56; refine (callsIn_wide.2 (hnd _)).mono ?_; rintro e w' ⟨rfl, rfl⟩)
      all_goals gi_wp2
      all_goals refine ⟨by simp, .inl ⟨_, _, rfl, run_takeDeferred hd, ?_⟩⟩
      all_goals refine ⟨by simp, .inl ⟨_, _, rfl, run_takeDeferred hd2, ?_⟩⟩
      all_goals exact ⟨_, by simp [results, Tryz.f33, go_sem], hP.out⟩
    case done2 =>
      rintro D2 xs W' hxs ⟨_, ⟨rfl, hv⟩, hs⟩
      have hg2 := go_end hxs hv.out
      generalize vis1 ++ xs = vis at *
      have hone : onceM L n = decide (vis.length = n) := by unfold onceM; rw [hfa.out, hg1.out]; simp only; rw [hfb.out, hg2]
      have hsd := hs.drew
      have a0 : W'.drew.cell? ⟨B0, 0, none⟩ = some (.slice (some ⟨g, off, none⟩) (3 + 2 * n) lc) := hsd.cell 0 rfl 0
      have a3 : W'.drew.cell? ⟨B3, 0, none⟩ = some (.int .i64 vis.length) := hsd.cell 3 rfl 0
      have a4 : W'.drew.cell? ⟨B4, 0, none⟩ = some (.bool false) := hsd.cell 4 rfl 0
      have s6 := hsd.perm (perm_in (dfrI D2) (eoX B0 B1 G B3 B4 g off n lc vis false) (wkRq bf2 bp2 g off n lc fb ++ T1)).symm
      have hd : W'.drew.heap[D2]? = some (.deferred (some [])) := s6.get 0 rfl
      have s7 := s6.shutD
      rw [← hT1.out] at s7
      have s8 := s7.perm (show _ from by
        have := perm_in (dfrI D) (eoX B0 B1 G B3 B4 g off n lc vis false ++ wkRq bf2 bp2 g off n lc fb) (wkRq bf bp g off n lc fa ++ [])
        simpa only [List.append_assoc] using this.symm)
      have hd2 : (W'.drew.putObj D2 (.deferred none)).heap[D]? = some (.deferred (some [])) := s8.get 0 rfl
      have hP := hid (HQ.out _ _ _ hone s8.shutD)
      clear hs hsd s6 s7 s8 hg2 hxs hv
      have hmx : (Tryz.prog).follows .mixedOrders = true := by kernel_rfl
      rw [show (decide (vis.length = n)) = ((vis.length : Int) == (n : Int)) by
        by_cases h : vis.length = n
        · simp [h]
        · have h2 : ¬ (vis.length : Int) = (n : Int) := by omega
          rw [decide_eq_false h, beq_eq_false_iff_ne.2 h2]] at hP
      gi_wp2
      simp only [roundsIn_succ]
      gi_wp2
      refine wpIn_mono (Q := Exit.then ?KKd2 (fun _ _ _ => False)) ?maind2 ?weakd2
      case weakd2 =>
        intro e a w h
        cases e with
        | normal => exact h
        | _ => exact h.elim
      gi_region_with_o (gi_at_call 56; refine (callsIn_wide.2 (hnd _)).mono ?_; rintro e w' ⟨rfl, rfl⟩)
      all_goals gi_wp2
      all_goals refine ⟨by simp, .inl ⟨_, _, rfl, run_takeDeferred hd, ?_⟩⟩
      all_goals refine ⟨by simp, .inl ⟨_, _, rfl, run_takeDeferred hd2, ?_⟩⟩
      all_goals exact ⟨_, by simp [results, Tryz.f33, go_sem], hP.out⟩
end Go.Proofs.YtdfefjalamohjaaGreatDoor
