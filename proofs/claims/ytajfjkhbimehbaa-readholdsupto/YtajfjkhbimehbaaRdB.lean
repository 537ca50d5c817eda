/- Reads: looks at a space's gate and heads; publish. -/
import Derived.Test.YtajfjkhbimehbaaRd
import Derived.Test.YtajfjkhbimehbaaRest
namespace Go.Proofs.Ytajfjkhbimehbaa
open Go.RowKit
set_option linter.unusedVariables false
set_option linter.unusedSimpArgs false
attribute [local go_sem ↓] Go.wp_at_zero Go.wp_at_succ

section
variable {o w : World} {its : List It} {A : Ad} {c : Cfg} {z : SSt} {v u : Value} {k s : Nat} {r : Rd}
theorem spLook (h : St o its w) (i : Nat) (hi : its[i]? = some (spI A c z v u)) {n : Nat} (ok : z.ok c n) (hn : n ≤ 4611686018427) (j : Int) : Calls Try.prog 99 #[.pointer (some ⟨A.t, 0, none⟩), .int .i64 j] w fun e w' => e = .returned (.tuple #[(nowAt z.hs j).val, .int .i64 (lookE z.hs j)]) ∧ ∃ v', St o (its.set i (spI A c (z.look j) v' u)) w' := by
  refine (tabLook_st (h.open i hi) 7 3 5 spAt7 spAt3 spAt5 (by omega) ok.met hn j).mono ?_
  rintro e w' ⟨he, v', h'⟩
  exact ⟨he, v', St.shut (l := spL A c (z.look j) v' u) hi h'⟩
theorem spGLook (h : St o its w) (i : Nat) (hi : its[i]? = some (spI A c z v u)) {n : Nat} (ok : z.ok c n) (hn : n ≤ 4611686018427) : Calls Try.prog 93 #[.pointer (some ⟨A.g, 0, none⟩)] w fun e w' => e = .returned z.x.val ∧ ∃ v', St o (its.set i (spI A c z.glook v' u)) w' := by
  refine (gateLook_st (h.open i hi) 7 1 2 spAt7 spAt1 spAt2 (by omega) ok.met hn).mono ?_
  rintro e w' ⟨he, v', h'⟩
  exact ⟨he, v', St.shut (l := spL A c z.glook v' u) hi h'⟩

set_option maxRecDepth 100000 in
set_option maxHeartbeats 2000000 in
theorem rdPublish (h : St o its w) (i j : Nat) (hij : i ≠ j) (hi : its[i]? = some (spI A c z v u)) (hj : its[j]? = some (rdI k A.sp r)) {n : Nat} (ok : z.ok c n) (hn : n ≤ 4611686018427) (hr : r.fit) (h0 : r.st = 0) :
    Calls Try.prog 64 #[.pointer (some ⟨k, 0, none⟩)] w fun e w' => e = .returned (.int .i64 1) ∧ ∃ v', St o ((its.set i (spI A c (z.put r.sl (r.miss.headD 0 : Nat) (r.both (r.miss.headD 0) : Nat)) v' u)).set j (rdI k A.sp r.pub)) w' := by
  obtain ⟨p, l, hm, hp2, hd⟩ := miss_head (hr.pub h0)
  have hq := rdMissing h j hj hr.sg hr.bi
  rw [hm] at hq
  unfold Rd.pub
  rw [hd]
  have hJ : ∀ W, Calls Try.prog 18 #[r.sg.val, r.bi.val] W fun e w' => e = .returned (r.sg.join r.bi).val ∧ Kept (fun _ => False) W w' := fun W => join_any r.sg r.bi hr.sg hr.bi W
  have hI : ∀ w, (Instr.index 32 (r.sg.join r.bi).val (.int .i64 p)).run Try.prog w = .ok (.int .u64 (r.both p : Nat)) w := word_idx (r.sg.join r.bi) p hp2
  have hPut : ∀ W, St o its W → Calls Try.prog 80 #[.pointer (some ⟨A.t, 0, none⟩), .int .i64 r.sl, .int .i64 (p : Nat), .int .u64 (r.both p : Nat)] W fun e w' => ∃ E, e = .returned (.int .i64 E) ∧ ∃ v', St o (its.set i (spI A c (z.put r.sl (p : Nat) (r.both p : Nat)) v' u)) w' := fun W hW => (spPut hW i hi ok hn r.sl p (r.both p)).mono fun e w' ⟨he, hx⟩ => ⟨_, he, hx⟩
  have hSl : ∀ W, St o its W → Calls Try.prog 28 #[spp A] W fun e w' => e = .returned (.pointer (some ⟨A.t, 0, none⟩)) ∧ w' = W := fun W hW => spSlots hW i hi
  have hOn : ∀ W v', St o ((its.set i (spI A c (z.put r.sl (p : Nat) (r.both p : Nat)) v' u)).set j (rdI k A.sp { r with sg := r.sg.setW p (r.both p) })) W → Calls Try.prog 44 #[.pointer (some ⟨k, 0, none⟩)] W fun e w' => e = .returned (.tuple #[]) ∧ St o ((its.set i (spI A c (z.put r.sl (p : Nat) (r.both p : Nat)) v' u)).set j (rdI k A.sp ({ r with sg := r.sg.setW p (r.both p) } : Rd).on)) w' := by
    intro W v' hW
    have hx : ((its.set i (spI A c (z.put r.sl (p : Nat) (r.both p : Nat)) v' u)).set j (rdI k A.sp { r with sg := r.sg.setW p (r.both p) }))[j]? = some (rdI k A.sp { r with sg := r.sg.setW p (r.both p) }) := set_self (set_other hj hij)
    refine (rdGoOn hW j hx (Sg.ok_setW hr.sg _ _ (word_lt (Sg.ok_join hr.sg hr.bi) _)) hr.bi).mono ?_
    rintro e w' ⟨he, h'⟩
    rw [set_same] at h'
    exact ⟨he, h'⟩
  have HJ : Hid (∀ v', (its.set i (spI A c (z.put r.sl (p : Nat) (r.both p : Nat)) v' u))[j]? = some (rdI k A.sp r)) := fun v' => set_other hj hij
  have HJ0 : Hid (its[j]? = some (rdI k A.sp r)) := hj
  have HR : Hid (∀ W, Kept (fun _ => False) w W → St o its W) := fun W hk => h.calm hk
  clear h hi hj ok hr hm hd
  generalize hbb : r.both p = B at *
  clear hbb
  generalize r.sg.join r.bi = J at *
  obtain ⟨J0, J1⟩ := J
  obtain ⟨sl, gn, sn, ⟨g0, g1⟩, ce, ⟨b0, b1⟩, st, va, er⟩ := r
  simp only [Sg.val, spp] at *
  generalize z.put sl (p : Nat) (B : Nat) = z' at *
  go_enter Try.func64, Try.ntmps64
  go_wp2_with fail
  refine hq.mono ?_
  rintro e w1 ⟨v1, rfl, ho, hk⟩
  have h1 := HR.out _ hk
  obtain ⟨g, cap, rfl, _, _⟩ := ho.form (by simp)
  have cg : w1.cell? ⟨g, 0, none⟩ = some (.int .i64 (p : Nat)) := ((HR.out _ (Kept.refl _ w)).own hk ho).ownCell 0 rfl 0 (by simp)
  have hl0 : (0 : Int) < ((p :: l).length : Int) := by simp
  generalize (p :: l).length = L at *
  have c0 : w1.cell? ⟨k, 0, none⟩ = some (.pointer (some ⟨A.sp, 0, none⟩)) := rdCell h1 j HJ0.out 0
  have c1 : w1.cell? ⟨k, 1, none⟩ = some (.int .i64 sl) := rdCell h1 j HJ0.out 1
  have c4 : w1.cell? ⟨k, 4, none⟩ = some (.int .u64 g0) := rdCell h1 j HJ0.out 4
  have c5 : w1.cell? ⟨k, 5, none⟩ = some (.int .u64 g1) := rdCell h1 j HJ0.out 5
  have c7 : w1.cell? ⟨k, 7, none⟩ = some (.int .u64 b0) := rdCell h1 j HJ0.out 7
  have c8 : w1.cell? ⟨k, 8, none⟩ = some (.int .u64 b1) := rdCell h1 j HJ0.out 8
  have hJ1 : Calls Try.prog 18 #[.agg #[.int .u64 g0, .int .u64 g1], .agg #[.int .u64 b0, .int .u64 b1]] w1.drew fun e w' => e = .returned (.agg #[.int .u64 J0, .int .u64 J1]) ∧ (w'.cell? ⟨k, 4, none⟩ = some (.int .u64 g0) ∧ w'.cell? ⟨k, 5, none⟩ = some (.int .u64 g1) ∧ w'.cell? ⟨k, 7, none⟩ = some (.int .u64 b0) ∧ w'.cell? ⟨k, 8, none⟩ = some (.int .u64 b1)) ∧ Hid (St o its w') := by
    refine (hJ w1.drew).mono ?_
    rintro e w' ⟨he, hk'⟩
    have h' := h1.drew.calm hk'
    exact ⟨he, ⟨rdCell h' j HJ0.out 4, rdCell h' j HJ0.out 5, rdCell h' j HJ0.out 7, rdCell h' j HJ0.out 8⟩, h'⟩
  have HF : Hid (∀ W, Hid (St o its W) → W.cell? ⟨k, 0, none⟩ = some (.pointer (some ⟨A.sp, 0, none⟩)) ∧ W.cell? ⟨k, 1, none⟩ = some (.int .i64 sl)) := fun W hW => ⟨rdCell hW.out j HJ0.out 0, rdCell hW.out j HJ0.out 1⟩
  have hSl1 : ∀ W, Hid (St o its W) → Calls Try.prog 28 #[.pointer (some ⟨A.sp, 0, none⟩)] W.drew fun e w' => e = .returned (.pointer (some ⟨A.t, 0, none⟩)) ∧ (w'.cell? ⟨k, 0, none⟩ = some (.pointer (some ⟨A.sp, 0, none⟩)) ∧ w'.cell? ⟨k, 1, none⟩ = some (.int .i64 sl)) ∧ Hid (St o its w') := by
    intro W hW
    refine (hSl _ hW.out.drew).mono ?_
    rintro e w' ⟨he, rfl⟩
    exact ⟨he, HF.out _ hW.out.drew, hW.out.drew⟩
  have hPut1 : ∀ W, Hid (St o its W) → Calls Try.prog 80 #[.pointer (some ⟨A.t, 0, none⟩), .int .i64 sl, .int .i64 (p : Nat), .int .u64 (B : Nat)] W fun e w' => ∃ E, e = .returned (.int .i64 E) ∧ (w'.cell? ⟨k, 0, none⟩ = some (.pointer (some ⟨A.sp, 0, none⟩)) ∧ w'.cell? ⟨k, 1, none⟩ = some (.int .i64 sl)) ∧ ∃ v', Hid (St o (its.set i (spI A c z' v' u)) w') := by
    intro W hW
    refine (hPut W hW.out).mono ?_
    rintro e w' ⟨E, he, v', h'⟩
    exact ⟨E, he, ⟨rdCell h' j (HJ.out v') 0, rdCell h' j (HJ.out v') 1⟩, v', h'⟩
  clear hJ hSl hPut hq ho hk h1 HR
  go_upto_region 2 with fail
  go_region_held3 (fun W => W.cell? ⟨k, 4, none⟩ = some (.int .u64 g0) ∧ W.cell? ⟨k, 5, none⟩ = some (.int .u64 g1) ∧ W.cell? ⟨k, 7, none⟩ = some (.int .u64 b0) ∧ W.cell? ⟨k, 8, none⟩ = some (.int .u64 b1)) (first | go_keep | exact rS)
    (first | (go_at_call 18; refine hJ1.mono ?_; rintro e w2 ⟨rfl, rS, HS⟩))
  clear hJ1 c0 c1 c4 c5 c7 c8 cg rS
  obtain ⟨c0, c1⟩ := HF.out _ HS
  have hSl2 := hSl1 _ HS
  clear hSl1 HF HJ0
  go_upto_region 3 with fail
  go_region_held3 (fun W => W.cell? ⟨k, 0, none⟩ = some (.pointer (some ⟨A.sp, 0, none⟩)) ∧ W.cell? ⟨k, 1, none⟩ = some (.int .i64 sl)) (first | go_keep | exact rS)
    (first | (go_at_call 28; refine hSl2.mono ?_; rintro e w3 ⟨rfl, rS, HS3⟩) | (go_at_call 80; refine (hPut1 _ HS3).mono ?_; rintro e w4 ⟨E, rfl, rS, v', HS4⟩))
  clear hSl2 hPut1 c0 c1 rS HS HS3
  have f4 := rdFrozen HS4.out j (HJ.out v') 4
  have f5 := rdFrozen HS4.out j (HJ.out v') 5
  have d4 : w4.cell? ⟨k, 4, none⟩ = some (.int .u64 g0) := rdCell HS4.out j (HJ.out v') 4
  have d5 : w4.cell? ⟨k, 5, none⟩ = some (.int .u64 g1) := rdCell HS4.out j (HJ.out v') 5
  rcases (show p = 0 ∨ p = 1 by omega) with rfl | rfl
  · have h5 : St o ((its.set i (spI A c z' v' u)).set j (rdI k A.sp ⟨sl, gn, sn, Sg.setW ⟨g0, g1⟩ 0 B, ce, ⟨b0, b1⟩, st, va, er⟩)) (w4.setCell ⟨k, 4, none⟩ (.int .u64 (B : Nat))) := HS4.out.write j (HJ.out v') 4 (.int .u64 (B : Nat))
    have hOn1 := hOn _ _ h5
    clear h5 HS4 HJ hOn
    go_wp2_with fail
    refine hOn1.mono ?_
    rintro e w6 ⟨rfl, h6⟩
    have H6 : Hid _ := h6
    clear hOn1 h6 f4 f5 d4 d5
    go_wp2
    go_ret
    exact ⟨rfl, v', H6.out⟩
  · have h5 : St o ((its.set i (spI A c z' v' u)).set j (rdI k A.sp ⟨sl, gn, sn, Sg.setW ⟨g0, g1⟩ 1 B, ce, ⟨b0, b1⟩, st, va, er⟩)) (w4.setCell ⟨k, 5, none⟩ (.int .u64 (B : Nat))) := HS4.out.write j (HJ.out v') 5 (.int .u64 (B : Nat))
    have hOn1 := hOn _ _ h5
    clear h5 HS4 HJ hOn
    go_wp2_with fail
    refine hOn1.mono ?_
    rintro e w6 ⟨rfl, h6⟩
    have H6 : Hid _ := h6
    clear hOn1 h6 f4 f5 d4 d5
    go_wp2
    go_ret
    exact ⟨rfl, v', H6.out⟩
end
end Go.Proofs.Ytajfjkhbimehbaa
