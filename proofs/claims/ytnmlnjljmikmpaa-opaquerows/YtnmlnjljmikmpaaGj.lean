/- Package ghost: Writes. -/
import Derived.Test.YtnmlnjljmikmpaaGi
namespace Go.Proofs.Ytnmlnjljmikmpaa
open Go.RowKit Go.Shelf
set_option linter.unusedVariables false
set_option linter.unusedSimpArgs false
attribute [local go_sem ↓] Go.wp_at_zero Go.wp_at_succ
attribute [local go_sem] Oper.semAt_some

/-- Where a cell stands among pairs. -/
def keyAt (l : List Pr) (c : Int) : Option Nat := l.findIdx? fun p => p.1 == c
def putP (l : List Pr) (c x : Int) : List Pr := match keyAt l c with | some i => l.set i (c, x) | none => l ++ [(c, x)]
def wrs (ms : List Mv) : List Pr := ms.foldl (fun l m => putP l m.ce m.x) []
def wrM (ms : List Mv) : List Pr := wrs (ms.filter Mv.puts)
theorem wrs_snoc (ms : List Mv) (m : Mv) : wrs (ms ++ [m]) = putP (wrs ms) m.ce m.x := by simp [wrs]
theorem keyAt_some {l : List Pr} {c : Int} {i : Nat} (h : keyAt l c = some i) : ∃ y, l[i]? = some (c, y) := by
  unfold keyAt at h
  rw [List.findIdx?_eq_some_iff_getElem] at h
  obtain ⟨h1, h2, _⟩ := h
  refine ⟨(l[i]).2, ?_⟩
  rw [List.getElem?_eq_getElem h1]
  simp only [beq_iff_eq] at h2
  rw [← h2]
theorem keyAt_set {l : List Pr} {c x : Int} {i : Nat} (h : keyAt l c = some i) (y : Int) : keyAt (l.set i (c, x)) y = keyAt l y := by
  obtain ⟨z, hz⟩ := keyAt_some h
  have e : (l.set i (c, x)).map (·.1) = l.map (·.1) := by
    rw [List.map_set]
    apply List.ext_getElem?
    intro j
    rw [List.getElem?_set]
    split
    · rename_i h
      subst h
      have hi := (List.getElem?_eq_some_iff.1 hz).1
      simp only [List.length_map, hi, if_true]
      rw [List.getElem?_map, hz]
      rfl
    · rfl
  have f : ∀ l : List Pr, keyAt l y = (l.map (·.1)).findIdx? (· == y) := fun l => by
    unfold keyAt
    rw [List.findIdx?_map]
    rfl
  rw [f, f, e]
theorem keyAt_new {l : List Pr} {c : Int} (h : keyAt l c = none) (x : Int) : keyAt (l ++ [(c, x)]) = opSet (keyAt l) c (some l.length) := by
  funext y
  unfold opSet
  unfold keyAt at *
  rw [List.findIdx?_append]
  by_cases e : y = c
  · subst e
    simp [h]
  · have e2 : ¬ c = y := fun h => e h.symm
    simp [e, e2, List.findIdx?_cons]
theorem putP_len (l : List Pr) (c x : Int) : (putP l c x).length ≤ l.length + 1 := by
  unfold putP
  split <;> simp
theorem wrs_len : ∀ (ms : List Mv) (l : List Pr), (ms.foldl (fun l m => putP l m.ce m.x) l).length ≤ l.length + ms.length
  | [], l => by simp
  | m :: ms, l => by
    rw [List.foldl_cons]
    have h1 := wrs_len ms (putP l m.ce m.x)
    have h2 := putP_len l m.ce m.x
    simp only [List.length_cons]
    omega
theorem buildP0 (W : World) (a : Int) : (Instr.buildSlice 65 1 #[(0, .agg #[.int .i64 a, .int .i64 0])]).run Try.prog W = .ok (.slice (some ⟨W.heap.size, 0, none⟩) 1 1) (W.alloc (.cells #[.int .i64 a, .int .i64 0] 86)) := by kernel_rfl
set_option maxRecDepth 100000 in
set_option maxHeartbeats 4000000 in
theorem writes_all {w : World} (m : Sm) (hm : SIn w m) : Calls Try.prog 48 #[syV m] w fun e w' => ∃ v, e = .returned v ∧ St w [lstR pC 86 2 v (wrM m.s.ms)] w' := by
  refine (callsIn_wide (n := 9)).1 ?_
  obtain ⟨hl, hb, hce⟩ := hm
  obtain ⟨⟨z0, z1, z2, z3, z4, z5, z6, z7, z8, ms⟩, la, lc⟩ := m
  simp only at hl hb hce
  have a1 := (((St.nil w).box #[.int .i64 z0, .int .i64 z1, .int .i64 z2, .int .i64 z3, .int .i64 z4, .int .i64 z5, .int .i64 z6, .int .i64 z7, .int .i64 z8, .slice la ms.length lc] 44).box #[.slice none 0 0] 65).newMap.box #[.map (some (w.heap.size + 2))] 114
  simp only [alloc_size, Nat.add_assoc] at a1
  unfold syV
  simp only
  have hmm := @run_makeMap Try.prog
  generalize hw1 : (((w.alloc (.cells #[.int .i64 z0, .int .i64 z1, .int .i64 z2, .int .i64 z3, .int .i64 z4, .int .i64 z5, .int .i64 z6, .int .i64 z7, .int .i64 z8, .slice la ms.length lc] 44)).alloc (.cells #[.slice none 0 0] 65)).alloc (.map #[] 0)).alloc (.cells #[.map (some (w.heap.size + 2))] 114) = w1 at *
  generalize hE : w.heap.size = E at *
  have c9 := a1.cell 3 rfl 9
  have hT := thoseMove_any a1 la ms.length lc 56
  have hf1 : Fence.wide.fn 57 := trivial
  refine callsIn_of_wp_marks Try.func48 rfl trivial ?_
  simp only [Try.ntmps48, List.size_toArray, List.length_cons, List.length_nil, Nat.reduceAdd, Nat.reduceSub, Array.replicate_succ, Array.replicate_zero, List.push_toArray, List.append_toArray, List.nil_append, List.cons_append]
  gi_wp2_with (first | simp only [hw1, hE] | (gi_at_call 57; refine (callsIn_wide.2 hT).mono ?_; rintro e w2 ⟨b1, b2, rfl, a2⟩))
  clear c9 hT hw1 a1
  have HSZ : Hid (ms.length ≤ 2932031007317) := hid hb
  have HCE := hid hce
  clear hce hmm
  refine rf_law2 (o := w) (T := []) (enc := mvV) rfl (enters_of Try.func75 (by kernel_rfl) rfl) (those_writes (lc := lc) hl (by omega) b1 b2) rfl
    (fun pre X => ∃ v ls, X = [boxI (E + 1) #[v] 65, lstR pC 86 2 v (wrs pre), boxI (E + 3) #[.map (some (E + 2))] 114, mapV (E + 2) ls, boxI E #[.int .i64 z0, .int .i64 z1, .int .i64 z2, .int .i64 z3, .int .i64 z4, .int .i64 z5, .int .i64 z6, .int .i64 z7, .int .i64 z8, .slice la ms.length lc] 44] ∧ OpR ls (keyAt (wrs pre)) ∧ Hid (pre.length ≤ ms.length))
    (fun c pre X => False)
    ms.length (fun pre X hX => by obtain ⟨v, ls, _, _, h⟩ := hX; exact h.out) ⟨_, ⟨.slice none 0 0, [], rfl, fun x v => by simp [keyAt, wrs], hid (by simp)⟩, ?h0⟩
    (fun x => #[.int .i64 x.st, .bool x.wr, .int .i64 x.ce, .int .i64 x.x, .bool x.ow, .int .i64 x.ga]) 46
    (fun x B => { tmps := #[.agg #[.int .i64 z0, .int .i64 z1, .int .i64 z2, .int .i64 z3, .int .i64 z4, .int .i64 z5, .int .i64 z6, .int .i64 z7, .int .i64 z8, .slice la ms.length lc], .pointer (some ⟨E, 0, none⟩), .slice none 0 0, .pointer (some ⟨E + 1, 0, none⟩), .pointer (some ⟨E + 3, 0, none⟩), .pointer (some ⟨B, 0, none⟩), undef, undef, .map (some (E + 2)), .pointer (some ⟨E, 9, none⟩), .slice la ms.length lc, .func (.func 75) #[] #[.pointer (some ⟨b1, 0, none⟩), .pointer (some ⟨b2, 0, none⟩)], mvV x, undef, undef, undef, undef, undef, undef, undef, undef, undef, undef, undef, undef, undef, undef, undef, undef, undef, undef, undef, undef, undef, undef, undef, undef, undef, undef, undef, undef], defers := [] })
    ?assign ?round ?done ?stop
  case h0 => exact St.move (l := [_, _, _, _, _, _, _]) (T := []) (r_nil pC 86 2 a2) 7 rfl [5, 0, 3, 4, 6, 1, 2] (by decide)
  case assign =>
    intro l' x W' C hC
    gi_wp2
    exact hC
  case round =>
    rintro l' T' pre x B W' ⟨r, hr⟩ ⟨_, ⟨v, ls, rfl, hO, hle⟩, hs⟩
    obtain ⟨xst, xwr, xce, xx, xow, xga⟩ := x
    have hfl : pre.length + 1 ≤ ms.length := by
      have h1 : (pre ++ (⟨xst, xwr, xce, xx, xow, xga⟩ : Mv) :: r).length ≤ ms.length := by rw [hr]; exact List.length_filter_le _ _
      simp only [List.length_append, List.length_cons] at h1
      omega
    have hrg : -9223372036854775808 ≤ xce ∧ xce ≤ 9223372036854775807 := HCE.out ⟨xst, xwr, xce, xx, xow, xga⟩ (by
      have : (⟨xst, xwr, xce, xx, xow, xga⟩ : Mv) ∈ ms.filter Mv.puts := by rw [← hr]; simp
      exact (List.mem_filter.1 this).1)
    have hwl : (wrs pre).length ≤ pre.length := by have := wrs_len pre []; simpa [wrs] using this
    have hsn := wrs_snoc pre ⟨xst, xwr, xce, xx, xow, xga⟩
    simp only at hsn
    obtain ⟨ps, hps⟩ : ∃ ps, ps = wrs pre := ⟨_, rfl⟩
    rw [← hps] at hs hO hwl hsn
    have e2 := hs.cell 7 rfl 2
    have e4 := hs.cell 2 rfl 0
    have HPL := hid (show (ps.length + 1) * 16 ≤ 140737488355328 by have := HSZ.out; omega)
    cases hk : keyAt ps xce with
    | some i =>
      obtain ⟨y, hy⟩ := keyAt_some hk
      have hi := (List.getElem?_eq_some_iff.1 hy).1
      obtain ⟨g, cap, rfl⟩ := hs.form 1 rfl (by omega)
      have hlk := lookV_some (P := Try.prog) (t := 114) (k := 3) (e := 3) (hs.get 3 rfl) Try.underlying3 Try.underlying114 (opR_some hO hk)
      have e0 := hs.cell 0 rfl 0
      have e3 := hs.cell 7 rfl 3
      have d1 : W'.cell? ⟨g, i * 2 + 1, none⟩ = some (.int .i64 y) := (hs.ownCell 1 rfl (i * 2 + 1) (by omega)).trans (fl_at (k := 2) (fun _ => rfl) ps i 1 (xce, y) (by omega) hy)
      have f1 := hs.ownFrozen 1 rfl (i * 2 + 1)
      have s5 := r_set (f := pC) (k := 2) (fun _ => rfl) hs 1 rfl rfl hy 1 (by omega) (.int .i64 xx) (x' := (xce, xx)) rfl
      have HE : Hid (∀ a, EndsR w (fun pre X => ∃ v ls, X = [boxI (E + 1) #[v] 65, lstR pC 86 2 v (wrs pre), boxI (E + 3) #[.map (some (E + 2))] 114, mapV (E + 2) ls, boxI E #[.int .i64 z0, .int .i64 z1, .int .i64 z2, .int .i64 z3, .int .i64 z4, .int .i64 z5, .int .i64 z6, .int .i64 z7, .int .i64 z8, .slice la ms.length lc] 44] ∧ OpR ls (keyAt (wrs pre)) ∧ Hid (pre.length ≤ ms.length)) (fun c pre X => False) (thRqMove b1 b2 56 la ms.length lc ++ (boxI B #[.int .i64 xst, .bool xwr, .int .i64 xce, .int .i64 xx, .bool xow, .int .i64 xga] 46 :: T')) (pre ++ [⟨xst, xwr, xce, xx, xow, xga⟩]) .normal a (W'.setCell ⟨g, i * 2 + 1, none⟩ (.int .i64 xx))) := hid (fun a => ⟨_, ⟨_, ls, rfl, by
          rw [hsn]
          intro z u
          rw [show putP ps xce xx = ps.set i (xce, xx) by simp [putP, hk], keyAt_set hk]
          exact hO z u, hid (by simp; omega)⟩, by
          rw [hsn, show putP ps xce xx = ps.set i (xce, xx) by simp [putP, hk]]
          show St w (_ :: ownI _ _ _ (ps.set i (xce, xx)).length _ :: _) _
          rw [List.length_set]
          exact s5⟩)
      generalize EndsR w (fun pre X => ∃ v ls, X = [boxI (E + 1) #[v] 65, lstR pC 86 2 v (wrs pre), boxI (E + 3) #[.map (some (E + 2))] 114, mapV (E + 2) ls, boxI E #[.int .i64 z0, .int .i64 z1, .int .i64 z2, .int .i64 z3, .int .i64 z4, .int .i64 z5, .int .i64 z6, .int .i64 z7, .int .i64 z8, .slice la ms.length lc] 44] ∧ OpR ls (keyAt (wrs pre)) ∧ Hid (pre.length ≤ ms.length)) (fun c pre X => False) (thRqMove b1 b2 56 la ms.length lc ++ (boxI B #[.int .i64 xst, .bool xwr, .int .i64 xce, .int .i64 xx, .bool xow, .int .i64 xga] 46 :: T')) (pre ++ [⟨xst, xwr, xce, xx, xow, xga⟩]) = EN at *
      have hi1 : (i : Int) < (ps.length : Int) := by omega
      have hi0 : (0 : Int) ≤ (i : Int) := by omega
      have hpb : (ps.length : Int) ≤ 2932031007317 := by have := HSZ.out; omega
      clear hs s5 hO hr hps hsn hk hy hi HPL hwl hfl hrg hle
      gi_wp2_with (simp only [hlk])
      exact HE.out _
    | none =>
      obtain ⟨va, vc, rfl, -, -, -⟩ := r_rin hs 1 rfl (fun _ => rfl)
      have hlk := lookV_none (P := Try.prog) (t := 114) (k := 3) (e := 3) (hs.get 3 rfl) Try.underlying3 Try.underlying114 (Try.zeroInt W') hrg (opR_none hO hk)
      have e0 := hs.cell 0 rfl 0
      have t1 := St.move (l := [_, _, _, _]) hs 4 rfl [3, 0, 1, 2] (by decide)
      obtain ⟨W2, hup, -, t2⟩ := storeV_new (P := Try.prog) (t := 114) (k := 3) (e := 3) (v := (ps.length : Int)) t1 Try.underlying3 Try.underlying114 hrg (opR_none hO hk)
      have t3 : St w (lstR pC 86 2 (.slice va ps.length vc) ps :: (boxI (E + 1) #[.slice va ps.length vc] 65 :: boxI (E + 3) #[.map (some (E + 2))] 114 :: mapV (E + 2) ((xce, (ps.length : Int)) :: ls) :: boxI E #[.int .i64 z0, .int .i64 z1, .int .i64 z2, .int .i64 z3, .int .i64 z4, .int .i64 z5, .int .i64 z6, .int .i64 z7, .int .i64 z8, .slice la ms.length lc] 44 :: (thRqMove b1 b2 56 la ms.length lc ++ (boxI B #[.int .i64 xst, .bool xwr, .int .i64 xce, .int .i64 xx, .bool xow, .int .i64 xga] 46 :: T')))) W2 := St.move (l := [_, _, _, _]) t2 4 rfl [2, 1, 3, 0] (by decide)
      have g0 := t3.cell 1 rfl 0
      have g2 := t3.cell 7 rfl 2
      have t4 := t3.alloc (.cells #[.int .i64 xce, .int .i64 0] 86)
      have hrr := r_box (f := pC) (k := 2) (fun _ => rfl) 86 t3 (xce, 0) _ rfl
      have hbs := buildP0 W2 xce
      have HE : Hid (∀ v' w', St w (lstR pC 86 2 v' (ps ++ [(xce, 0)]) :: (boxI (E + 1) #[.slice va ps.length vc] 65 :: boxI (E + 3) #[.map (some (E + 2))] 114 :: mapV (E + 2) ((xce, (ps.length : Int)) :: ls) :: boxI E #[.int .i64 z0, .int .i64 z1, .int .i64 z2, .int .i64 z3, .int .i64 z4, .int .i64 z5, .int .i64 z6, .int .i64 z7, .int .i64 z8, .slice la ms.length lc] 44 :: (thRqMove b1 b2 56 la ms.length lc ++ (boxI B #[.int .i64 xst, .bool xwr, .int .i64 xce, .int .i64 xx, .bool xow, .int .i64 xga] 46 :: T')))) w' → ∃ g cap, v' = .slice (some ⟨g, 0, none⟩) (ps.length + 1) cap ∧ w'.cell? ⟨E + 1, 0, none⟩ = some (.slice va ps.length vc) ∧ w'.frozen? ⟨E + 1, 0, none⟩ = false ∧ (w'.setCell ⟨E + 1, 0, none⟩ v').cell? ⟨E + 1, 0, none⟩ = some v' ∧ (w'.setCell ⟨E + 1, 0, none⟩ v').cell? ⟨B, 3, none⟩ = some (.int .i64 xx) ∧ (w'.setCell ⟨E + 1, 0, none⟩ v').cell? ⟨g, ps.length * 2 + 1, none⟩ = some (.int .i64 0) ∧ (w'.setCell ⟨E + 1, 0, none⟩ v').frozen? ⟨g, ps.length * 2 + 1, none⟩ = false ∧ ∀ a, EndsR w (fun pre X => ∃ v ls, X = [boxI (E + 1) #[v] 65, lstR pC 86 2 v (wrs pre), boxI (E + 3) #[.map (some (E + 2))] 114, mapV (E + 2) ls, boxI E #[.int .i64 z0, .int .i64 z1, .int .i64 z2, .int .i64 z3, .int .i64 z4, .int .i64 z5, .int .i64 z6, .int .i64 z7, .int .i64 z8, .slice la ms.length lc] 44] ∧ OpR ls (keyAt (wrs pre)) ∧ Hid (pre.length ≤ ms.length)) (fun c pre X => False) (thRqMove b1 b2 56 la ms.length lc ++ (boxI B #[.int .i64 xst, .bool xwr, .int .i64 xce, .int .i64 xx, .bool xow, .int .i64 xga] 46 :: T')) (pre ++ [⟨xst, xwr, xce, xx, xow, xga⟩]) .normal a ((w'.setCell ⟨E + 1, 0, none⟩ v').setCell ⟨g, ps.length * 2 + 1, none⟩ (.int .i64 xx))) := hid (by
        intro v' w' s7
        obtain ⟨g, cap, hv⟩ := s7.form 0 rfl (by simp)
        have hv2 : v' = .slice (some ⟨g, 0, none⟩) (ps.length + 1) cap := by simpa using hv
        subst hv2
        have s8 := s7.write 1 rfl 0 (.slice (some ⟨g, 0, none⟩) (ps.length + 1) cap)
        have hlast : (ps ++ [(xce, (0 : Int))])[ps.length]? = some (xce, 0) := by simp
        have hln : ps.length + 1 = (ps ++ [(xce, (0 : Int))]).length := by simp
        have s8' := s8
        simp only [lstR, List.length_append, List.length_cons, List.length_nil, Nat.zero_add] at s8'
        refine ⟨g, cap, rfl, s7.cell 1 rfl 0, s7.frozen 1 rfl 0, s8.cell 1 rfl 0, s8.cell 7 rfl 3, (s8'.ownCell 0 rfl (ps.length * 2 + 1) (by omega)).trans (fl_at (k := 2) (fun _ => rfl) _ ps.length 1 (xce, 0) (by omega) hlast), s8'.ownFrozen 0 rfl _, fun a => ⟨_, ⟨.slice (some ⟨g, 0, none⟩) (ps.length + 1) cap, (xce, (ps.length : Int)) :: ls, rfl, ?_, hid (by simp; omega)⟩, ?_⟩⟩
        · rw [hsn, show putP ps xce xx = ps ++ [(xce, xx)] by simp [putP, hk], keyAt_new hk]
          exact opR_begin hO hk _
        · have s9 := r_set (f := pC) (k := 2) (fun _ => rfl) s8' 0 rfl hln hlast 1 (by omega) (.int .i64 xx) (x' := (xce, xx)) rfl
          have sA := St.move (l := [_, _, _, _]) s9 4 rfl [1, 0, 2, 3] (by decide)
          rw [hsn, show putP ps xce xx = ps ++ [(xce, xx)] by simp [putP, hk]]
          show St w (_ :: ownI _ _ _ (ps ++ [(xce, xx)]).length _ :: _) _
          rw [List.length_append, show (ps ++ [(xce, (0 : Int))]).set ps.length (xce, xx) = ps ++ [(xce, xx)] by simp] at *
          exact sA)
      generalize EndsR w (fun pre X => ∃ v ls, X = [boxI (E + 1) #[v] 65, lstR pC 86 2 v (wrs pre), boxI (E + 3) #[.map (some (E + 2))] 114, mapV (E + 2) ls, boxI E #[.int .i64 z0, .int .i64 z1, .int .i64 z2, .int .i64 z3, .int .i64 z4, .int .i64 z5, .int .i64 z6, .int .i64 z7, .int .i64 z8, .slice la ms.length lc] 44] ∧ OpR ls (keyAt (wrs pre)) ∧ Hid (pre.length ≤ ms.length)) (fun c pre X => False) (thRqMove b1 b2 56 la ms.length lc ++ (boxI B #[.int .i64 xst, .bool xwr, .int .i64 xce, .int .i64 xx, .bool xow, .int .i64 xga] 46 :: T')) (pre ++ [⟨xst, xwr, xce, xx, xow, xga⟩]) = EN at *
      have HT4 := hid t4
      have HRR := hid hrr
      have hi1 : (ps.length : Int) < (ps.length : Int) + 1 := by omega
      have hi0 : (0 : Int) ≤ (ps.length : Int) := by omega
      have hpb : (ps.length : Int) ≤ 2932031007317 := by have := HSZ.out; omega
      clear hs t1 t2 t3 t4 hrr hO hr hps hsn hk hwl hfl hrg hle
      gi_wp2_with (first | simp only [hlk] | simp only [hup] | simp only [hbs] | (gi_at_builtin; refine wpListIn_appR Try.rowP HT4.out rfl _ _ rfl rfl (some ⟨W2.heap.size, 0, none⟩) 1 1 rfl HRR.out (fun e => by cases e) HPL.out ?_; intro v' w' s7'; obtain ⟨g', cap', rfl, k0, kf, k1, k2, k3, kf3, hend⟩ := HE.out _ _ s7'; have HEND := hid hend; clear s7' hend))
      exact HEND.out _
  case done =>
    rintro D xs W' rfl ⟨_, ⟨v, ls, rfl, hO, hle⟩, hs⟩
    obtain ⟨va, vc, rfl, -, -, -⟩ := r_rin hs 1 rfl (fun _ => rfl)
    have e0 := hs.cell 0 rfl 0
    have hs1 := (St.move (l := [_, _, _, _, _, _]) hs 6 rfl [5, 1, 0, 2, 3, 4] (by decide))
    have hd : W'.heap[D]? = some (.deferred (some [])) := hs1.get 0 rfl
    have hP := hid (St.cut (A := [_]) hs1.shutD)
    clear hs hs1
    gi_wp2
    refine ⟨by simp, .inl ⟨_, _, rfl, run_takeDeferred hd, ?_⟩⟩
    exact ⟨_, by simp [results, Try.f48, go_sem], _, rfl, hP.out⟩
  case stop =>
    rintro D c pre W' _ ⟨_, hf, _⟩
    exact hf.elim
end Go.Proofs.Ytnmlnjljmikmpaa
