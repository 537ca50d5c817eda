/- A turn and one call behind it count as one. No program is named here. Raw steps over a space of the code and the document's: both answer the same, and stay the same. Raw steps over a space of the code and the document's: both answer the same, and stay the same. Raw steps over a space of the code and the document's: both answer the same, and stay the same. -/
import Derived.Test.YtajfjkhbimehbaaGreatSpA
import Derived.Test.YtajfjkhbimehbaaGreatRdM
import Derived.Test.YtajfjkhbimehbaaGreatRSpD
import Derived.Test.YtajfjkhbimehbaaGreatOps
import Derived.Deep.Cut
namespace Go.Proofs.YtajfjkhbimehbaaGreat
open Go.RowKit
set_option linter.unusedVariables false

def near (s s' : Mt) : Prop := s' = s ∨ ∃ a b c d, s' = s.note a b c d
theorem near_within {s s' : Mt} {k : Nat} {t : Int} (h : s.within k) (hn : near (s.start t) s') : s'.within (k + 1) := by
  obtain ⟨a, b, c, d, e⟩ := h
  rcases hn with rfl | ⟨p, q, r, u, rfl⟩
  · exact ⟨by simp only [Mt.start]; omega, by simp only [Mt.start]; omega, by simp only [Mt.start]; omega, by simp only [Mt.start]; omega, by simp only [Mt.start]; omega⟩
  · exact ⟨by simp only [Mt.start, Mt.note]; omega, by simp only [Mt.start, Mt.note]; omega, by simp only [Mt.start, Mt.note]; omega, by simp only [Mt.start, Mt.note]; omega, by simp only [Mt.start, Mt.note, List.length_append, List.length_singleton]; omega⟩
theorem storeS_near (s : Mt) (xs : List Int) (k : Int) : near s (storeS s xs k) := by
  unfold storeS; split
  · exact .inr ⟨_, _, _, _, rfl⟩
  · exact .inl rfl
theorem takeS_near (s : Mt) (x : Gt) (t : Int) : near s (takeS s x t) := by
  unfold takeS; split
  · exact .inr ⟨_, _, _, _, rfl⟩
  · exact .inl rfl
theorem giveS_near (s : Mt) (x : Gt) (t : Int) : near s (giveS s x t) := by
  unfold giveS; split
  · exact .inr ⟨_, _, _, _, rfl⟩
  · exact .inl rfl
theorem putS_near (s : Mt) (n : Nat) (i j : Int) : near s (putS s n i j) := by
  unfold putS; split
  · exact .inl rfl
  · exact .inr ⟨_, _, _, _, rfl⟩
theorem loadS_near (s : Mt) (xs : List Int) (k : Int) : near s (loadS s xs k) := by
  unfold loadS; split
  · exact .inr ⟨_, _, _, _, rfl⟩
  · exact .inl rfl
theorem lookS_near (s : Mt) (hs : List Hd) (k : Int) : near s (lookS s hs k) := by
  unfold lookS; split <;> first | exact .inl rfl | exact .inr ⟨_, _, _, _, rfl⟩
theorem HOp.near (p : HOp) (s : Mt) (hs : List Hd) (i : Int) : Proofs.YtajfjkhbimehbaaGreat.near s (p.S s hs i) := by
  unfold HOp.S; split
  · split
    · exact .inl rfl
    · exact .inr ⟨_, _, _, _, rfl⟩
  · exact .inl rfl
theorem SSt.ok.late {y : SSt} {c : Cfg} {k : Nat} {s : Mt} (h : y.ok c k) (hs : s.within k) : (⟨s, y.xs, y.x, y.hs, y.ws, y.ev⟩ : SSt).ok c k := ⟨hs, h.hd, h.g0, h.g1, h.gk, h.wl, h.el, h.cl, h.hl, h.c1, h.c2, h.h1, h.h8⟩
section
variable {z : SSt} {c : Cfg} {k : Nat} {t : Int}
theorem SSt.ok.storeT (h : z.ok c k) (i x : Int) : ((z.turn t).store i x).ok c (k + 1) := (h.store i x).late (near_within (t := t) h.met (storeS_near _ _ _))
theorem SSt.ok.takeT (h : z.ok c k) (i : Int) : ((z.turn t).take i).ok c (k + 1) := (h.take i).late (near_within (t := t) h.met (takeS_near _ _ _))
theorem SSt.ok.giveT (h : z.ok c k) (i : Int) : ((z.turn t).give i).ok c (k + 1) := (h.give i).late (near_within (t := t) h.met (giveS_near _ _ _))
theorem SSt.ok.opT (h : z.ok c k) (p : HOp) (i : Int) (hp : HsOk (p.H z.hs i) (k + 1)) : ((z.turn t).op p i).ok c (k + 1) := (h.op p i hp).late (near_within (t := t) h.met (HOp.near _ _ _ _))
theorem SSt.ok.putT (h : z.ok c k) (i j x : Int) : ((z.turn t).put i j x).ok c (k + 1) := (h.put i j x).late (near_within (t := t) h.met (putS_near _ _ _ _))
theorem SSt.ok.readsT (h : z.ok c k) (r : Rd) : ((z.turn t).reads r).ok c (k + 1) := by
  unfold SSt.reads
  split
  · exact h.putT _ _ _
  · split
    · exact (h.load r.ce).late (near_within (t := t) h.met (loadS_near _ _ _))
    · split
      · exact (h.glook).late (near_within (t := t) h.met (.inr ⟨_, _, _, _, rfl⟩))
      · split
        · exact (h.look r.sl).late (near_within (t := t) h.met (lookS_near _ _ _))
        · exact h.turn t
end
end Go.Proofs.YtajfjkhbimehbaaGreat

namespace Go.Proofs.YtajfjkhbimehbaaGreat
open Go.RowKit
set_option linter.unusedVariables false
set_option linter.unusedSimpArgs false
attribute [local go_sem ↓] Go.wp_at_zero Go.wp_at_succ


set_option maxRecDepth 100000 in
set_option maxHeartbeats 4000000 in
theorem raw_store {o w : World} {its : List It} {A : Ad} {B : Bd} {c : Cfg} {z : SSt} {t : Int} {v u p q : Value} (h : St o its w) (i j : Nat) (hij : i ≠ j) (hi : its[i]? = some (spI A c (z.turn t) v u)) (hj : its[j]? = some (rpI B c (z.turn t) p q)) {k : Nat} (ok : z.ok c k) (hk : k < 4611686018427) (om oi on ox : Int) (fa fb fc fd fe : Int) :
    Calls Tryz.prog 16 #[spp A, rpp B, .agg #[.int .i64 3, .int .i64 om, .int .i64 oi, .int .i64 on, .int .i64 ox, .int .i64 fa, .int .i64 fb, .int .i64 fc, .int .u64 fd, .int .u64 fe]] w fun e w' => e = .returned (.bool true) ∧ ∃ z' v1 u1 v2 u2, St o ((its.set i (spI A c z' v1 u1)).set j (rpI B c z' v2 u2)) w' ∧ z'.ok c (k + 1) := by
  have hk2 : k + 1 ≤ 4611686018427 := by omega
  have okT := ok.turn t
  have h0 := h.box #[.int .i64 3, .int .i64 om, .int .i64 oi, .int .i64 on, .int .i64 ox, .int .i64 fa, .int .i64 fb, .int .i64 fc, .int .u64 fd, .int .u64 fe] 52
  have HO : Hid (((z.turn t).store oi ox).ok c (k + 1)) := ok.storeT oi ox
  clear h
  unfold spp rpp
  go_enter Tryz.func16, Tryz.ntmps16
  go_upto_region 1 with fail
  generalize w.alloc (.cells #[.int .i64 3, .int .i64 om, .int .i64 oi, .int .i64 on, .int .i64 ox, .int .i64 fa, .int .i64 fb, .int .i64 fc, .int .u64 fd, .int .u64 fe] 52) = W0 at *
  generalize w.heap.size = C at *
  have a0 : W0.cell? ⟨C, 0, none⟩ = some (.int .i64 3) := h0.cell 0 rfl 0
  have a2 : W0.cell? ⟨C, 2, none⟩ = some (.int .i64 oi) := h0.cell 0 rfl 2
  have a4 : W0.cell? ⟨C, 4, none⟩ = some (.int .i64 ox) := h0.cell 0 rfl 4
  have hq : Calls Tryz.prog 41 #[.pointer (some ⟨A.sp, 0, none⟩), .int .i64 oi, .int .i64 ox] W0 fun e w' => e = .returned (.int .i64 (loadE z.xs oi)) ∧ ∃ v1, (w'.cell? ⟨C, 2, none⟩ = some (.int .i64 oi) ∧ w'.cell? ⟨C, 4, none⟩ = some (.int .i64 ox)) ∧ St o (boxI C #[.int .i64 3, .int .i64 om, .int .i64 oi, .int .i64 on, .int .i64 ox, .int .i64 fa, .int .i64 fb, .int .i64 fc, .int .u64 fd, .int .u64 fe] 52 :: its.set i (spI A c ((z.turn t).store oi ox) v1 u)) w' := by
    refine (spStore h0 (i + 1) hi okT hk2 oi ox).mono ?_
    rintro e w' ⟨he, v1, h'⟩
    have h'' : St o (boxI C #[.int .i64 3, .int .i64 om, .int .i64 oi, .int .i64 on, .int .i64 ox, .int .i64 fa, .int .i64 fb, .int .i64 fc, .int .u64 fd, .int .u64 fe] 52 :: its.set i (spI A c ((z.turn t).store oi ox) v1 u)) w' := h'
    exact ⟨he, v1, ⟨h''.cell 0 rfl 2, h''.cell 0 rfl 4⟩, h''⟩
  have hr : ∀ W v1, St o (boxI C #[.int .i64 3, .int .i64 om, .int .i64 oi, .int .i64 on, .int .i64 ox, .int .i64 fa, .int .i64 fb, .int .i64 fc, .int .u64 fd, .int .u64 fe] 52 :: its.set i (spI A c ((z.turn t).store oi ox) v1 u)) W → W.cell? ⟨B.sp, 7, none⟩ = some (.pointer (some ⟨B.r, 0, none⟩)) ∧ Calls Tryz.prog 42 #[.pointer (some ⟨B.r, 0, none⟩), .int .i64 oi, .int .i64 ox] W.drew fun e w' => e = .returned (.int .i64 (loadE z.xs oi)) ∧ (w'.cell? ⟨C, 2, none⟩ = some (.int .i64 oi) ∧ w'.cell? ⟨C, 4, none⟩ = some (.int .i64 ox) ∧ w'.cell? ⟨B.sp, 7, none⟩ = some (.pointer (some ⟨B.r, 0, none⟩))) ∧ Hid (∃ v2, St o ((its.set i (spI A c ((z.turn t).store oi ox) v1 u)).set j (rpI B c ((z.turn t).store oi ox) v2 q)) w') := by
    intro W v1 hS
    refine ⟨rpCell hS (j + 1) (set_other hj hij) 7, (rpStore hS.drew (j + 1) (set_other hj hij) okT hk2 oi ox).mono ?_⟩
    rintro e w' ⟨he, v2, h2⟩
    have h3 : St o (boxI C #[.int .i64 3, .int .i64 om, .int .i64 oi, .int .i64 on, .int .i64 ox, .int .i64 fa, .int .i64 fb, .int .i64 fc, .int .u64 fd, .int .u64 fe] 52 :: (its.set i (spI A c ((z.turn t).store oi ox) v1 u)).set j (rpI B c ((z.turn t).store oi ox) v2 q)) w' := h2
    exact ⟨he, ⟨h3.cell 0 rfl 2, h3.cell 0 rfl 4, rpCell h3 (j + 1) (set_self (set_other hj hij)) 7⟩, _, h3.pop⟩
  generalize loadE z.xs oi = R0 at *
  have t0 : (R0 == R0) = true := by simp
  clear hij hi hj ok okT h0
  go_wp2_with fail
  refine hq.mono ?_
  rintro e w1 ⟨rfl, v1, cS, h1⟩
  obtain ⟨b2, b4⟩ := cS
  obtain ⟨bp, hr1⟩ := hr w1 v1 h1
  clear hq hr h1 a2 a4 
  go_upto_region 4 with fail
  go_region_held3 (fun W => W.cell? ⟨C, 2, none⟩ = some (.int .i64 oi) ∧ W.cell? ⟨C, 4, none⟩ = some (.int .i64 ox) ∧ W.cell? ⟨B.sp, 7, none⟩ = some (.pointer (some ⟨B.r, 0, none⟩))) (first | go_keep | exact rS)
    (first | (go_at_call 42; refine hr1.mono ?_; rintro e w2 ⟨rfl, rS, HS⟩))
  clear hr1 rS bp b2 b4
  go_wp2
  obtain ⟨v2, HT⟩ := HS.out
  go_ret
  exact ⟨rfl, _, _, _, _, _, HT, HO.out⟩

set_option maxRecDepth 100000 in
set_option maxHeartbeats 4000000 in
theorem raw_take {o w : World} {its : List It} {A : Ad} {B : Bd} {c : Cfg} {z : SSt} {t : Int} {v u p q : Value} (h : St o its w) (i j : Nat) (hij : i ≠ j) (hi : its[i]? = some (spI A c (z.turn t) v u)) (hj : its[j]? = some (rpI B c (z.turn t) p q)) {k : Nat} (ok : z.ok c k) (hk : k < 4611686018427) (om oi on ox : Int) (fa fb fc fd fe : Int) :
    Calls Tryz.prog 16 #[spp A, rpp B, .agg #[.int .i64 5, .int .i64 om, .int .i64 oi, .int .i64 on, .int .i64 ox, .int .i64 fa, .int .i64 fb, .int .i64 fc, .int .u64 fd, .int .u64 fe]] w fun e w' => e = .returned (.bool true) ∧ ∃ z' v1 u1 v2 u2, St o ((its.set i (spI A c z' v1 u1)).set j (rpI B c z' v2 u2)) w' ∧ z'.ok c (k + 1) := by
  have hk2 : k + 1 ≤ 4611686018427 := by omega
  have okT := ok.turn t
  have h0 := h.box #[.int .i64 5, .int .i64 om, .int .i64 oi, .int .i64 on, .int .i64 ox, .int .i64 fa, .int .i64 fb, .int .i64 fc, .int .u64 fd, .int .u64 fe] 52
  have HO : Hid (((z.turn t).take oi).ok c (k + 1)) := ok.takeT oi
  clear h
  unfold spp rpp
  go_enter Tryz.func16, Tryz.ntmps16
  go_upto_region 1 with fail
  generalize w.alloc (.cells #[.int .i64 5, .int .i64 om, .int .i64 oi, .int .i64 on, .int .i64 ox, .int .i64 fa, .int .i64 fb, .int .i64 fc, .int .u64 fd, .int .u64 fe] 52) = W0 at *
  generalize w.heap.size = C at *
  have a0 : W0.cell? ⟨C, 0, none⟩ = some (.int .i64 5) := h0.cell 0 rfl 0
  have a2 : W0.cell? ⟨C, 2, none⟩ = some (.int .i64 oi) := h0.cell 0 rfl 2
  have hq : Calls Tryz.prog 44 #[.pointer (some ⟨A.g, 0, none⟩), .int .i64 oi] W0.drew fun e w' => e = .returned (.tuple #[.int .i64 (takeR z.x oi), .int .i64 (takeE z.x oi)]) ∧ ∃ v1, (w'.cell? ⟨C, 2, none⟩ = some (.int .i64 oi)) ∧ St o (boxI C #[.int .i64 5, .int .i64 om, .int .i64 oi, .int .i64 on, .int .i64 ox, .int .i64 fa, .int .i64 fb, .int .i64 fc, .int .u64 fd, .int .u64 fe] 52 :: its.set i (spI A c ((z.turn t).take oi) v1 u)) w' := by
    refine (spTake h0.drew (i + 1) hi okT hk2 oi).mono ?_
    rintro e w' ⟨he, v1, h'⟩
    have h'' : St o (boxI C #[.int .i64 5, .int .i64 om, .int .i64 oi, .int .i64 on, .int .i64 ox, .int .i64 fa, .int .i64 fb, .int .i64 fc, .int .u64 fd, .int .u64 fe] 52 :: its.set i (spI A c ((z.turn t).take oi) v1 u)) w' := h'
    exact ⟨he, v1, h''.cell 0 rfl 2, h''⟩
  have hg : Calls Tryz.prog 43 #[.pointer (some ⟨A.sp, 0, none⟩)] W0.drew fun e w' => e = .returned (.pointer (some ⟨A.g, 0, none⟩)) ∧ w' = W0.drew := spGate h0.drew (i + 1) hi
  have hr : ∀ W v1, St o (boxI C #[.int .i64 5, .int .i64 om, .int .i64 oi, .int .i64 on, .int .i64 ox, .int .i64 fa, .int .i64 fb, .int .i64 fc, .int .u64 fd, .int .u64 fe] 52 :: its.set i (spI A c ((z.turn t).take oi) v1 u)) W → W.cell? ⟨B.sp, 8, none⟩ = some (.pointer (some ⟨B.g, 0, none⟩)) ∧ Calls Tryz.prog 45 #[.pointer (some ⟨B.g, 0, none⟩), .int .i64 oi] W.drew fun e w' => e = .returned (.tuple #[.int .i64 (takeR z.x oi), .int .i64 (takeE z.x oi)]) ∧ (w'.cell? ⟨C, 2, none⟩ = some (.int .i64 oi) ∧ w'.cell? ⟨B.sp, 8, none⟩ = some (.pointer (some ⟨B.g, 0, none⟩))) ∧ Hid (∃ v2, St o ((its.set i (spI A c ((z.turn t).take oi) v1 u)).set j (rpI B c ((z.turn t).take oi) v2 q)) w') := by
    intro W v1 hS
    refine ⟨rpCell hS (j + 1) (set_other hj hij) 8, (rpTake hS.drew (j + 1) (set_other hj hij) okT hk2 oi).mono ?_⟩
    rintro e w' ⟨he, v2, h2⟩
    have h3 : St o (boxI C #[.int .i64 5, .int .i64 om, .int .i64 oi, .int .i64 on, .int .i64 ox, .int .i64 fa, .int .i64 fb, .int .i64 fc, .int .u64 fd, .int .u64 fe] 52 :: (its.set i (spI A c ((z.turn t).take oi) v1 u)).set j (rpI B c ((z.turn t).take oi) v2 q)) w' := h2
    exact ⟨he, ⟨h3.cell 0 rfl 2, rpCell h3 (j + 1) (set_self (set_other hj hij)) 8⟩, _, h3.pop⟩
  generalize takeR z.x oi = R0 at *
  have t0 : (R0 == R0) = true := by simp
  generalize takeE z.x oi = R1 at *
  have t1 : (R1 == R1) = true := by simp
  clear hij hi hj ok okT h0
  go_upto_region 6 with fail
  go_region_held3 (fun W => W.cell? ⟨C, 2, none⟩ = some (.int .i64 oi)) (first | go_keep | exact cS)
    (first | (go_at_call 43; refine hg.mono ?_; rintro e wg ⟨rfl, rfl⟩) | (go_at_call 44; refine hq.mono ?_; rintro e w1 ⟨rfl, v1, cS, h1⟩))
  have b2 := cS
  obtain ⟨bp, hr1⟩ := hr w1 v1 h1
  clear hq hr h1 a2 hg
  go_upto_region 7 with fail
  go_region_held3 (fun W => W.cell? ⟨C, 2, none⟩ = some (.int .i64 oi) ∧ W.cell? ⟨B.sp, 8, none⟩ = some (.pointer (some ⟨B.g, 0, none⟩))) (first | go_keep | exact rS)
    (first | (go_at_call 45; refine hr1.mono ?_; rintro e w2 ⟨rfl, rS, HS⟩))
  clear hr1 rS bp b2
  go_wp2
  obtain ⟨v2, HT⟩ := HS.out
  go_ret
  exact ⟨rfl, _, _, _, _, _, HT, HO.out⟩

set_option maxRecDepth 100000 in
set_option maxHeartbeats 4000000 in
theorem raw_give {o w : World} {its : List It} {A : Ad} {B : Bd} {c : Cfg} {z : SSt} {t : Int} {v u p q : Value} (h : St o its w) (i j : Nat) (hij : i ≠ j) (hi : its[i]? = some (spI A c (z.turn t) v u)) (hj : its[j]? = some (rpI B c (z.turn t) p q)) {k : Nat} (ok : z.ok c k) (hk : k < 4611686018427) (om oi on ox : Int) (fa fb fc fd fe : Int) :
    Calls Tryz.prog 16 #[spp A, rpp B, .agg #[.int .i64 6, .int .i64 om, .int .i64 oi, .int .i64 on, .int .i64 ox, .int .i64 fa, .int .i64 fb, .int .i64 fc, .int .u64 fd, .int .u64 fe]] w fun e w' => e = .returned (.bool true) ∧ ∃ z' v1 u1 v2 u2, St o ((its.set i (spI A c z' v1 u1)).set j (rpI B c z' v2 u2)) w' ∧ z'.ok c (k + 1) := by
  have hk2 : k + 1 ≤ 4611686018427 := by omega
  have okT := ok.turn t
  have h0 := h.box #[.int .i64 6, .int .i64 om, .int .i64 oi, .int .i64 on, .int .i64 ox, .int .i64 fa, .int .i64 fb, .int .i64 fc, .int .u64 fd, .int .u64 fe] 52
  have HO : Hid (((z.turn t).give oi).ok c (k + 1)) := ok.giveT oi
  clear h
  unfold spp rpp
  go_enter Tryz.func16, Tryz.ntmps16
  go_upto_region 1 with fail
  generalize w.alloc (.cells #[.int .i64 6, .int .i64 om, .int .i64 oi, .int .i64 on, .int .i64 ox, .int .i64 fa, .int .i64 fb, .int .i64 fc, .int .u64 fd, .int .u64 fe] 52) = W0 at *
  generalize w.heap.size = C at *
  have a0 : W0.cell? ⟨C, 0, none⟩ = some (.int .i64 6) := h0.cell 0 rfl 0
  have a2 : W0.cell? ⟨C, 2, none⟩ = some (.int .i64 oi) := h0.cell 0 rfl 2
  have hq : Calls Tryz.prog 46 #[.pointer (some ⟨A.g, 0, none⟩), .int .i64 oi] W0.drew fun e w' => e = .returned (.int .i64 (giveE z.x oi)) ∧ ∃ v1, (w'.cell? ⟨C, 2, none⟩ = some (.int .i64 oi)) ∧ St o (boxI C #[.int .i64 6, .int .i64 om, .int .i64 oi, .int .i64 on, .int .i64 ox, .int .i64 fa, .int .i64 fb, .int .i64 fc, .int .u64 fd, .int .u64 fe] 52 :: its.set i (spI A c ((z.turn t).give oi) v1 u)) w' := by
    refine (spGive h0.drew (i + 1) hi okT hk2 oi).mono ?_
    rintro e w' ⟨he, v1, h'⟩
    have h'' : St o (boxI C #[.int .i64 6, .int .i64 om, .int .i64 oi, .int .i64 on, .int .i64 ox, .int .i64 fa, .int .i64 fb, .int .i64 fc, .int .u64 fd, .int .u64 fe] 52 :: its.set i (spI A c ((z.turn t).give oi) v1 u)) w' := h'
    exact ⟨he, v1, h''.cell 0 rfl 2, h''⟩
  have hg : Calls Tryz.prog 43 #[.pointer (some ⟨A.sp, 0, none⟩)] W0.drew fun e w' => e = .returned (.pointer (some ⟨A.g, 0, none⟩)) ∧ w' = W0.drew := spGate h0.drew (i + 1) hi
  have hr : ∀ W v1, St o (boxI C #[.int .i64 6, .int .i64 om, .int .i64 oi, .int .i64 on, .int .i64 ox, .int .i64 fa, .int .i64 fb, .int .i64 fc, .int .u64 fd, .int .u64 fe] 52 :: its.set i (spI A c ((z.turn t).give oi) v1 u)) W → W.cell? ⟨B.sp, 8, none⟩ = some (.pointer (some ⟨B.g, 0, none⟩)) ∧ Calls Tryz.prog 47 #[.pointer (some ⟨B.g, 0, none⟩), .int .i64 oi] W.drew fun e w' => e = .returned (.int .i64 (giveE z.x oi)) ∧ (w'.cell? ⟨C, 2, none⟩ = some (.int .i64 oi) ∧ w'.cell? ⟨B.sp, 8, none⟩ = some (.pointer (some ⟨B.g, 0, none⟩))) ∧ Hid (∃ v2, St o ((its.set i (spI A c ((z.turn t).give oi) v1 u)).set j (rpI B c ((z.turn t).give oi) v2 q)) w') := by
    intro W v1 hS
    refine ⟨rpCell hS (j + 1) (set_other hj hij) 8, (rpGive hS.drew (j + 1) (set_other hj hij) okT hk2 oi).mono ?_⟩
    rintro e w' ⟨he, v2, h2⟩
    have h3 : St o (boxI C #[.int .i64 6, .int .i64 om, .int .i64 oi, .int .i64 on, .int .i64 ox, .int .i64 fa, .int .i64 fb, .int .i64 fc, .int .u64 fd, .int .u64 fe] 52 :: (its.set i (spI A c ((z.turn t).give oi) v1 u)).set j (rpI B c ((z.turn t).give oi) v2 q)) w' := h2
    exact ⟨he, ⟨h3.cell 0 rfl 2, rpCell h3 (j + 1) (set_self (set_other hj hij)) 8⟩, _, h3.pop⟩
  generalize giveE z.x oi = R0 at *
  have t0 : (R0 == R0) = true := by simp
  clear hij hi hj ok okT h0
  go_upto_region 10 with fail
  go_region_held3 (fun W => W.cell? ⟨C, 2, none⟩ = some (.int .i64 oi)) (first | go_keep | exact cS)
    (first | (go_at_call 43; refine hg.mono ?_; rintro e wg ⟨rfl, rfl⟩) | (go_at_call 46; refine hq.mono ?_; rintro e w1 ⟨rfl, v1, cS, h1⟩))
  have b2 := cS
  obtain ⟨bp, hr1⟩ := hr w1 v1 h1
  clear hq hr h1 a2 hg
  go_upto_region 11 with fail
  go_region_held3 (fun W => W.cell? ⟨C, 2, none⟩ = some (.int .i64 oi) ∧ W.cell? ⟨B.sp, 8, none⟩ = some (.pointer (some ⟨B.g, 0, none⟩))) (first | go_keep | exact rS)
    (first | (go_at_call 47; refine hr1.mono ?_; rintro e w2 ⟨rfl, rS, HS⟩))
  clear hr1 rS bp b2
  go_wp2
  obtain ⟨v2, HT⟩ := HS.out
  go_ret
  exact ⟨rfl, _, _, _, _, _, HT, HO.out⟩
end Go.Proofs.YtajfjkhbimehbaaGreat

namespace Go.Proofs.YtajfjkhbimehbaaGreat
open Go.RowKit
set_option linter.unusedVariables false
set_option linter.unusedSimpArgs false
attribute [local go_sem ↓] Go.wp_at_zero Go.wp_at_succ


set_option maxRecDepth 100000 in
set_option maxHeartbeats 4000000 in
theorem raw_claim {o w : World} {its : List It} {A : Ad} {B : Bd} {c : Cfg} {z : SSt} {t : Int} {v u p q : Value} (h : St o its w) (i j : Nat) (hij : i ≠ j) (hi : its[i]? = some (spI A c (z.turn t) v u)) (hj : its[j]? = some (rpI B c (z.turn t) p q)) {k : Nat} (ok : z.ok c k) (hk : k < 4611686018427) (om oi on ox : Int) (fa fb fc fd fe : Int) :
    Calls Tryz.prog 16 #[spp A, rpp B, .agg #[.int .i64 7, .int .i64 om, .int .i64 oi, .int .i64 on, .int .i64 ox, .int .i64 fa, .int .i64 fb, .int .i64 fc, .int .u64 fd, .int .u64 fe]] w fun e w' => e = .returned (.bool true) ∧ ∃ z' v1 u1 v2 u2, St o ((its.set i (spI A c z' v1 u1)).set j (rpI B c z' v2 u2)) w' ∧ z'.ok c (k + 1) := by
  have hk2 : k + 1 ≤ 4611686018427 := by omega
  have okT := ok.turn t
  have h0 := h.box #[.int .i64 7, .int .i64 om, .int .i64 oi, .int .i64 on, .int .i64 ox, .int .i64 fa, .int .i64 fb, .int .i64 fc, .int .u64 fd, .int .u64 fe] 52
  have HO : Hid (((z.turn t).op (claimOp on) oi).ok c (k + 1)) := ok.opT (claimOp on) oi (claim_keeps ok.hd on oi)
  clear h
  unfold spp rpp
  go_enter Tryz.func16, Tryz.ntmps16
  go_upto_region 1 with fail
  generalize w.alloc (.cells #[.int .i64 7, .int .i64 om, .int .i64 oi, .int .i64 on, .int .i64 ox, .int .i64 fa, .int .i64 fb, .int .i64 fc, .int .u64 fd, .int .u64 fe] 52) = W0 at *
  generalize w.heap.size = C at *
  have a0 : W0.cell? ⟨C, 0, none⟩ = some (.int .i64 7) := h0.cell 0 rfl 0
  have a2 : W0.cell? ⟨C, 2, none⟩ = some (.int .i64 oi) := h0.cell 0 rfl 2
  have a3 : W0.cell? ⟨C, 3, none⟩ = some (.int .i64 on) := h0.cell 0 rfl 3
  have hq : Calls Tryz.prog 49 #[.pointer (some ⟨A.t, 0, none⟩), .int .i64 oi, .int .i64 on] W0.drew fun e w' => e = .returned (.tuple #[.int .i64 (claimR z.hs oi on), .int .i64 ((claimOp on).E z.hs oi)]) ∧ ∃ v1, (w'.cell? ⟨C, 2, none⟩ = some (.int .i64 oi) ∧ w'.cell? ⟨C, 3, none⟩ = some (.int .i64 on)) ∧ St o (boxI C #[.int .i64 7, .int .i64 om, .int .i64 oi, .int .i64 on, .int .i64 ox, .int .i64 fa, .int .i64 fb, .int .i64 fc, .int .u64 fd, .int .u64 fe] 52 :: its.set i (spI A c ((z.turn t).op (claimOp on) oi) v1 u)) w' := by
    refine (spClaim h0.drew (i + 1) hi okT hk2 oi on).mono ?_
    rintro e w' ⟨he, v1, h'⟩
    have h'' : St o (boxI C #[.int .i64 7, .int .i64 om, .int .i64 oi, .int .i64 on, .int .i64 ox, .int .i64 fa, .int .i64 fb, .int .i64 fc, .int .u64 fd, .int .u64 fe] 52 :: its.set i (spI A c ((z.turn t).op (claimOp on) oi) v1 u)) w' := h'
    exact ⟨he, v1, ⟨h''.cell 0 rfl 2, h''.cell 0 rfl 3⟩, h''⟩
  have hg : Calls Tryz.prog 48 #[.pointer (some ⟨A.sp, 0, none⟩)] W0.drew fun e w' => e = .returned (.pointer (some ⟨A.t, 0, none⟩)) ∧ w' = W0.drew := spSlots h0.drew (i + 1) hi
  have hr : ∀ W v1, St o (boxI C #[.int .i64 7, .int .i64 om, .int .i64 oi, .int .i64 on, .int .i64 ox, .int .i64 fa, .int .i64 fb, .int .i64 fc, .int .u64 fd, .int .u64 fe] 52 :: its.set i (spI A c ((z.turn t).op (claimOp on) oi) v1 u)) W → W.cell? ⟨B.sp, 9, none⟩ = some (.pointer (some ⟨B.y, 0, none⟩)) ∧ Calls Tryz.prog 50 #[.pointer (some ⟨B.y, 0, none⟩), .int .i64 oi, .int .i64 on] W.drew fun e w' => e = .returned (.tuple #[.int .i64 (claimR z.hs oi on), .int .i64 ((claimOp on).E z.hs oi)]) ∧ (w'.cell? ⟨C, 2, none⟩ = some (.int .i64 oi) ∧ w'.cell? ⟨C, 3, none⟩ = some (.int .i64 on) ∧ w'.cell? ⟨B.sp, 9, none⟩ = some (.pointer (some ⟨B.y, 0, none⟩))) ∧ Hid (∃ v2, St o ((its.set i (spI A c ((z.turn t).op (claimOp on) oi) v1 u)).set j (rpI B c ((z.turn t).op (claimOp on) oi) v2 q)) w') := by
    intro W v1 hS
    refine ⟨rpCell hS (j + 1) (set_other hj hij) 9, (rpClaim hS.drew (j + 1) (set_other hj hij) okT hk2 oi on).mono ?_⟩
    rintro e w' ⟨he, v2, h2⟩
    have h3 : St o (boxI C #[.int .i64 7, .int .i64 om, .int .i64 oi, .int .i64 on, .int .i64 ox, .int .i64 fa, .int .i64 fb, .int .i64 fc, .int .u64 fd, .int .u64 fe] 52 :: (its.set i (spI A c ((z.turn t).op (claimOp on) oi) v1 u)).set j (rpI B c ((z.turn t).op (claimOp on) oi) v2 q)) w' := h2
    exact ⟨he, ⟨h3.cell 0 rfl 2, h3.cell 0 rfl 3, rpCell h3 (j + 1) (set_self (set_other hj hij)) 9⟩, _, h3.pop⟩
  generalize claimR z.hs oi on = R0 at *
  have t0 : (R0 == R0) = true := by simp
  generalize (claimOp on).E z.hs oi = R1 at *
  have t1 : (R1 == R1) = true := by simp
  clear hij hi hj ok okT h0
  go_upto_region 13 with fail
  go_region_held3 (fun W => W.cell? ⟨C, 2, none⟩ = some (.int .i64 oi) ∧ W.cell? ⟨C, 3, none⟩ = some (.int .i64 on)) (first | go_keep | exact cS)
    (first | (go_at_call 48; refine hg.mono ?_; rintro e wg ⟨rfl, rfl⟩) | (go_at_call 49; refine hq.mono ?_; rintro e w1 ⟨rfl, v1, cS, h1⟩))
  obtain ⟨b2, b3⟩ := cS
  obtain ⟨bp, hr1⟩ := hr w1 v1 h1
  clear hq hr h1 a2 a3 hg
  go_upto_region 14 with fail
  go_region_held3 (fun W => W.cell? ⟨C, 2, none⟩ = some (.int .i64 oi) ∧ W.cell? ⟨C, 3, none⟩ = some (.int .i64 on) ∧ W.cell? ⟨B.sp, 9, none⟩ = some (.pointer (some ⟨B.y, 0, none⟩))) (first | go_keep | exact rS)
    (first | (go_at_call 50; refine hr1.mono ?_; rintro e w2 ⟨rfl, rS, HS⟩))
  clear hr1 rS bp b2 b3
  go_wp2
  obtain ⟨v2, HT⟩ := HS.out
  go_ret
  exact ⟨rfl, _, _, _, _, _, HT, HO.out⟩

set_option maxRecDepth 100000 in
set_option maxHeartbeats 4000000 in
theorem raw_ready {o w : World} {its : List It} {A : Ad} {B : Bd} {c : Cfg} {z : SSt} {t : Int} {v u p q : Value} (h : St o its w) (i j : Nat) (hij : i ≠ j) (hi : its[i]? = some (spI A c (z.turn t) v u)) (hj : its[j]? = some (rpI B c (z.turn t) p q)) {k : Nat} (ok : z.ok c k) (hk : k < 4611686018427) (om oi on ox : Int) (fa fb fc fd fe : Int) :
    Calls Tryz.prog 16 #[spp A, rpp B, .agg #[.int .i64 8, .int .i64 om, .int .i64 oi, .int .i64 on, .int .i64 ox, .int .i64 fa, .int .i64 fb, .int .i64 fc, .int .u64 fd, .int .u64 fe]] w fun e w' => e = .returned (.bool true) ∧ ∃ z' v1 u1 v2 u2, St o ((its.set i (spI A c z' v1 u1)).set j (rpI B c z' v2 u2)) w' ∧ z'.ok c (k + 1) := by
  have hk2 : k + 1 ≤ 4611686018427 := by omega
  have okT := ok.turn t
  have h0 := h.box #[.int .i64 8, .int .i64 om, .int .i64 oi, .int .i64 on, .int .i64 ox, .int .i64 fa, .int .i64 fb, .int .i64 fc, .int .u64 fd, .int .u64 fe] 52
  have HO : Hid (((z.turn t).op (readyOp on ox) oi).ok c (k + 1)) := ok.opT (readyOp on ox) oi (ready_keeps ok.hd on ox oi)
  clear h
  unfold spp rpp
  go_enter Tryz.func16, Tryz.ntmps16
  go_upto_region 1 with fail
  generalize w.alloc (.cells #[.int .i64 8, .int .i64 om, .int .i64 oi, .int .i64 on, .int .i64 ox, .int .i64 fa, .int .i64 fb, .int .i64 fc, .int .u64 fd, .int .u64 fe] 52) = W0 at *
  generalize w.heap.size = C at *
  have a0 : W0.cell? ⟨C, 0, none⟩ = some (.int .i64 8) := h0.cell 0 rfl 0
  have a2 : W0.cell? ⟨C, 2, none⟩ = some (.int .i64 oi) := h0.cell 0 rfl 2
  have a3 : W0.cell? ⟨C, 3, none⟩ = some (.int .i64 on) := h0.cell 0 rfl 3
  have a4 : W0.cell? ⟨C, 4, none⟩ = some (.int .i64 ox) := h0.cell 0 rfl 4
  have hq : Calls Tryz.prog 51 #[.pointer (some ⟨A.t, 0, none⟩), .int .i64 oi, .int .i64 on, .int .i64 ox] W0.drew fun e w' => e = .returned (.int .i64 ((readyOp on ox).E z.hs oi)) ∧ ∃ v1, (w'.cell? ⟨C, 2, none⟩ = some (.int .i64 oi) ∧ w'.cell? ⟨C, 3, none⟩ = some (.int .i64 on) ∧ w'.cell? ⟨C, 4, none⟩ = some (.int .i64 ox)) ∧ St o (boxI C #[.int .i64 8, .int .i64 om, .int .i64 oi, .int .i64 on, .int .i64 ox, .int .i64 fa, .int .i64 fb, .int .i64 fc, .int .u64 fd, .int .u64 fe] 52 :: its.set i (spI A c ((z.turn t).op (readyOp on ox) oi) v1 u)) w' := by
    refine (spReady h0.drew (i + 1) hi okT hk2 oi on ox).mono ?_
    rintro e w' ⟨he, v1, h'⟩
    have h'' : St o (boxI C #[.int .i64 8, .int .i64 om, .int .i64 oi, .int .i64 on, .int .i64 ox, .int .i64 fa, .int .i64 fb, .int .i64 fc, .int .u64 fd, .int .u64 fe] 52 :: its.set i (spI A c ((z.turn t).op (readyOp on ox) oi) v1 u)) w' := h'
    exact ⟨he, v1, ⟨h''.cell 0 rfl 2, h''.cell 0 rfl 3, h''.cell 0 rfl 4⟩, h''⟩
  have hg : Calls Tryz.prog 48 #[.pointer (some ⟨A.sp, 0, none⟩)] W0.drew fun e w' => e = .returned (.pointer (some ⟨A.t, 0, none⟩)) ∧ w' = W0.drew := spSlots h0.drew (i + 1) hi
  have hr : ∀ W v1, St o (boxI C #[.int .i64 8, .int .i64 om, .int .i64 oi, .int .i64 on, .int .i64 ox, .int .i64 fa, .int .i64 fb, .int .i64 fc, .int .u64 fd, .int .u64 fe] 52 :: its.set i (spI A c ((z.turn t).op (readyOp on ox) oi) v1 u)) W → W.cell? ⟨B.sp, 9, none⟩ = some (.pointer (some ⟨B.y, 0, none⟩)) ∧ Calls Tryz.prog 52 #[.pointer (some ⟨B.y, 0, none⟩), .int .i64 oi, .int .i64 on, .int .i64 ox] W.drew fun e w' => e = .returned (.int .i64 ((readyOp on ox).E z.hs oi)) ∧ (w'.cell? ⟨C, 2, none⟩ = some (.int .i64 oi) ∧ w'.cell? ⟨C, 3, none⟩ = some (.int .i64 on) ∧ w'.cell? ⟨C, 4, none⟩ = some (.int .i64 ox) ∧ w'.cell? ⟨B.sp, 9, none⟩ = some (.pointer (some ⟨B.y, 0, none⟩))) ∧ Hid (∃ v2, St o ((its.set i (spI A c ((z.turn t).op (readyOp on ox) oi) v1 u)).set j (rpI B c ((z.turn t).op (readyOp on ox) oi) v2 q)) w') := by
    intro W v1 hS
    refine ⟨rpCell hS (j + 1) (set_other hj hij) 9, (rpReady hS.drew (j + 1) (set_other hj hij) okT hk2 oi on ox).mono ?_⟩
    rintro e w' ⟨he, v2, h2⟩
    have h3 : St o (boxI C #[.int .i64 8, .int .i64 om, .int .i64 oi, .int .i64 on, .int .i64 ox, .int .i64 fa, .int .i64 fb, .int .i64 fc, .int .u64 fd, .int .u64 fe] 52 :: (its.set i (spI A c ((z.turn t).op (readyOp on ox) oi) v1 u)).set j (rpI B c ((z.turn t).op (readyOp on ox) oi) v2 q)) w' := h2
    exact ⟨he, ⟨h3.cell 0 rfl 2, h3.cell 0 rfl 3, h3.cell 0 rfl 4, rpCell h3 (j + 1) (set_self (set_other hj hij)) 9⟩, _, h3.pop⟩
  generalize (readyOp on ox).E z.hs oi = R0 at *
  have t0 : (R0 == R0) = true := by simp
  clear hij hi hj ok okT h0
  go_upto_region 17 with fail
  go_region_held3 (fun W => W.cell? ⟨C, 2, none⟩ = some (.int .i64 oi) ∧ W.cell? ⟨C, 3, none⟩ = some (.int .i64 on) ∧ W.cell? ⟨C, 4, none⟩ = some (.int .i64 ox)) (first | go_keep | exact cS)
    (first | (go_at_call 48; refine hg.mono ?_; rintro e wg ⟨rfl, rfl⟩) | (go_at_call 51; refine hq.mono ?_; rintro e w1 ⟨rfl, v1, cS, h1⟩))
  obtain ⟨b2, b3, b4⟩ := cS
  obtain ⟨bp, hr1⟩ := hr w1 v1 h1
  clear hq hr h1 a2 a3 a4 hg
  go_upto_region 18 with fail
  go_region_held3 (fun W => W.cell? ⟨C, 2, none⟩ = some (.int .i64 oi) ∧ W.cell? ⟨C, 3, none⟩ = some (.int .i64 on) ∧ W.cell? ⟨C, 4, none⟩ = some (.int .i64 ox) ∧ W.cell? ⟨B.sp, 9, none⟩ = some (.pointer (some ⟨B.y, 0, none⟩))) (first | go_keep | exact rS)
    (first | (go_at_call 52; refine hr1.mono ?_; rintro e w2 ⟨rfl, rS, HS⟩))
  clear hr1 rS bp b2 b3 b4
  go_wp2
  obtain ⟨v2, HT⟩ := HS.out
  go_ret
  exact ⟨rfl, _, _, _, _, _, HT, HO.out⟩

set_option maxRecDepth 100000 in
set_option maxHeartbeats 4000000 in
theorem raw_doom {o w : World} {its : List It} {A : Ad} {B : Bd} {c : Cfg} {z : SSt} {t : Int} {v u p q : Value} (h : St o its w) (i j : Nat) (hij : i ≠ j) (hi : its[i]? = some (spI A c (z.turn t) v u)) (hj : its[j]? = some (rpI B c (z.turn t) p q)) {k : Nat} (ok : z.ok c k) (hk : k < 4611686018427) (om oi on ox : Int) (fa fb fc fd fe : Int) :
    Calls Tryz.prog 16 #[spp A, rpp B, .agg #[.int .i64 9, .int .i64 om, .int .i64 oi, .int .i64 on, .int .i64 ox, .int .i64 fa, .int .i64 fb, .int .i64 fc, .int .u64 fd, .int .u64 fe]] w fun e w' => e = .returned (.bool true) ∧ ∃ z' v1 u1 v2 u2, St o ((its.set i (spI A c z' v1 u1)).set j (rpI B c z' v2 u2)) w' ∧ z'.ok c (k + 1) := by
  have hk2 : k + 1 ≤ 4611686018427 := by omega
  have okT := ok.turn t
  have h0 := h.box #[.int .i64 9, .int .i64 om, .int .i64 oi, .int .i64 on, .int .i64 ox, .int .i64 fa, .int .i64 fb, .int .i64 fc, .int .u64 fd, .int .u64 fe] 52
  have HO : Hid (((z.turn t).op (doomOp on ox) oi).ok c (k + 1)) := ok.opT (doomOp on ox) oi (doom_keeps ok.hd on ox oi)
  clear h
  unfold spp rpp
  go_enter Tryz.func16, Tryz.ntmps16
  go_upto_region 1 with fail
  generalize w.alloc (.cells #[.int .i64 9, .int .i64 om, .int .i64 oi, .int .i64 on, .int .i64 ox, .int .i64 fa, .int .i64 fb, .int .i64 fc, .int .u64 fd, .int .u64 fe] 52) = W0 at *
  generalize w.heap.size = C at *
  have a0 : W0.cell? ⟨C, 0, none⟩ = some (.int .i64 9) := h0.cell 0 rfl 0
  have a2 : W0.cell? ⟨C, 2, none⟩ = some (.int .i64 oi) := h0.cell 0 rfl 2
  have a3 : W0.cell? ⟨C, 3, none⟩ = some (.int .i64 on) := h0.cell 0 rfl 3
  have a4 : W0.cell? ⟨C, 4, none⟩ = some (.int .i64 ox) := h0.cell 0 rfl 4
  have hq : Calls Tryz.prog 53 #[.pointer (some ⟨A.t, 0, none⟩), .int .i64 oi, .int .i64 on, .int .i64 ox] W0.drew fun e w' => e = .returned (.int .i64 ((doomOp on ox).E z.hs oi)) ∧ ∃ v1, (w'.cell? ⟨C, 2, none⟩ = some (.int .i64 oi) ∧ w'.cell? ⟨C, 3, none⟩ = some (.int .i64 on) ∧ w'.cell? ⟨C, 4, none⟩ = some (.int .i64 ox)) ∧ St o (boxI C #[.int .i64 9, .int .i64 om, .int .i64 oi, .int .i64 on, .int .i64 ox, .int .i64 fa, .int .i64 fb, .int .i64 fc, .int .u64 fd, .int .u64 fe] 52 :: its.set i (spI A c ((z.turn t).op (doomOp on ox) oi) v1 u)) w' := by
    refine (spDoom h0.drew (i + 1) hi okT hk2 oi on ox).mono ?_
    rintro e w' ⟨he, v1, h'⟩
    have h'' : St o (boxI C #[.int .i64 9, .int .i64 om, .int .i64 oi, .int .i64 on, .int .i64 ox, .int .i64 fa, .int .i64 fb, .int .i64 fc, .int .u64 fd, .int .u64 fe] 52 :: its.set i (spI A c ((z.turn t).op (doomOp on ox) oi) v1 u)) w' := h'
    exact ⟨he, v1, ⟨h''.cell 0 rfl 2, h''.cell 0 rfl 3, h''.cell 0 rfl 4⟩, h''⟩
  have hg : Calls Tryz.prog 48 #[.pointer (some ⟨A.sp, 0, none⟩)] W0.drew fun e w' => e = .returned (.pointer (some ⟨A.t, 0, none⟩)) ∧ w' = W0.drew := spSlots h0.drew (i + 1) hi
  have hr : ∀ W v1, St o (boxI C #[.int .i64 9, .int .i64 om, .int .i64 oi, .int .i64 on, .int .i64 ox, .int .i64 fa, .int .i64 fb, .int .i64 fc, .int .u64 fd, .int .u64 fe] 52 :: its.set i (spI A c ((z.turn t).op (doomOp on ox) oi) v1 u)) W → W.cell? ⟨B.sp, 9, none⟩ = some (.pointer (some ⟨B.y, 0, none⟩)) ∧ Calls Tryz.prog 54 #[.pointer (some ⟨B.y, 0, none⟩), .int .i64 oi, .int .i64 on, .int .i64 ox] W.drew fun e w' => e = .returned (.int .i64 ((doomOp on ox).E z.hs oi)) ∧ (w'.cell? ⟨C, 2, none⟩ = some (.int .i64 oi) ∧ w'.cell? ⟨C, 3, none⟩ = some (.int .i64 on) ∧ w'.cell? ⟨C, 4, none⟩ = some (.int .i64 ox) ∧ w'.cell? ⟨B.sp, 9, none⟩ = some (.pointer (some ⟨B.y, 0, none⟩))) ∧ Hid (∃ v2, St o ((its.set i (spI A c ((z.turn t).op (doomOp on ox) oi) v1 u)).set j (rpI B c ((z.turn t).op (doomOp on ox) oi) v2 q)) w') := by
    intro W v1 hS
    refine ⟨rpCell hS (j + 1) (set_other hj hij) 9, (rpDoom hS.drew (j + 1) (set_other hj hij) okT hk2 oi on ox).mono ?_⟩
    rintro e w' ⟨he, v2, h2⟩
    have h3 : St o (boxI C #[.int .i64 9, .int .i64 om, .int .i64 oi, .int .i64 on, .int .i64 ox, .int .i64 fa, .int .i64 fb, .int .i64 fc, .int .u64 fd, .int .u64 fe] 52 :: (its.set i (spI A c ((z.turn t).op (doomOp on ox) oi) v1 u)).set j (rpI B c ((z.turn t).op (doomOp on ox) oi) v2 q)) w' := h2
    exact ⟨he, ⟨h3.cell 0 rfl 2, h3.cell 0 rfl 3, h3.cell 0 rfl 4, rpCell h3 (j + 1) (set_self (set_other hj hij)) 9⟩, _, h3.pop⟩
  generalize (doomOp on ox).E z.hs oi = R0 at *
  have t0 : (R0 == R0) = true := by simp
  clear hij hi hj ok okT h0
  go_upto_region 20 with fail
  go_region_held3 (fun W => W.cell? ⟨C, 2, none⟩ = some (.int .i64 oi) ∧ W.cell? ⟨C, 3, none⟩ = some (.int .i64 on) ∧ W.cell? ⟨C, 4, none⟩ = some (.int .i64 ox)) (first | go_keep | exact cS)
    (first | (go_at_call 48; refine hg.mono ?_; rintro e wg ⟨rfl, rfl⟩) | (go_at_call 53; refine hq.mono ?_; rintro e w1 ⟨rfl, v1, cS, h1⟩))
  obtain ⟨b2, b3, b4⟩ := cS
  obtain ⟨bp, hr1⟩ := hr w1 v1 h1
  clear hq hr h1 a2 a3 a4 hg
  go_upto_region 21 with fail
  go_region_held3 (fun W => W.cell? ⟨C, 2, none⟩ = some (.int .i64 oi) ∧ W.cell? ⟨C, 3, none⟩ = some (.int .i64 on) ∧ W.cell? ⟨C, 4, none⟩ = some (.int .i64 ox) ∧ W.cell? ⟨B.sp, 9, none⟩ = some (.pointer (some ⟨B.y, 0, none⟩))) (first | go_keep | exact rS)
    (first | (go_at_call 54; refine hr1.mono ?_; rintro e w2 ⟨rfl, rS, HS⟩))
  clear hr1 rS bp b2 b3 b4
  go_wp2
  obtain ⟨v2, HT⟩ := HS.out
  go_ret
  exact ⟨rfl, _, _, _, _, _, HT, HO.out⟩
end Go.Proofs.YtajfjkhbimehbaaGreat

namespace Go.Proofs.YtajfjkhbimehbaaGreat
open Go.RowKit
set_option linter.unusedVariables false
set_option linter.unusedSimpArgs false
attribute [local go_sem ↓] Go.wp_at_zero Go.wp_at_succ


set_option maxRecDepth 100000 in
set_option maxHeartbeats 4000000 in
theorem raw_free {o w : World} {its : List It} {A : Ad} {B : Bd} {c : Cfg} {z : SSt} {t : Int} {v u p q : Value} (h : St o its w) (i j : Nat) (hij : i ≠ j) (hi : its[i]? = some (spI A c (z.turn t) v u)) (hj : its[j]? = some (rpI B c (z.turn t) p q)) {k : Nat} (ok : z.ok c k) (hk : k < 4611686018427) (om oi on ox : Int) (fa fb fc fd fe : Int) :
    Calls Tryz.prog 16 #[spp A, rpp B, .agg #[.int .i64 10, .int .i64 om, .int .i64 oi, .int .i64 on, .int .i64 ox, .int .i64 fa, .int .i64 fb, .int .i64 fc, .int .u64 fd, .int .u64 fe]] w fun e w' => e = .returned (.bool true) ∧ ∃ z' v1 u1 v2 u2, St o ((its.set i (spI A c z' v1 u1)).set j (rpI B c z' v2 u2)) w' ∧ z'.ok c (k + 1) := by
  have hk2 : k + 1 ≤ 4611686018427 := by omega
  have okT := ok.turn t
  have h0 := h.box #[.int .i64 10, .int .i64 om, .int .i64 oi, .int .i64 on, .int .i64 ox, .int .i64 fa, .int .i64 fb, .int .i64 fc, .int .u64 fd, .int .u64 fe] 52
  have HO : Hid (((z.turn t).op (freeOp on) oi).ok c (k + 1)) := ok.opT (freeOp on) oi (free_keeps ok.hd on oi)
  clear h
  unfold spp rpp
  go_enter Tryz.func16, Tryz.ntmps16
  go_upto_region 1 with fail
  generalize w.alloc (.cells #[.int .i64 10, .int .i64 om, .int .i64 oi, .int .i64 on, .int .i64 ox, .int .i64 fa, .int .i64 fb, .int .i64 fc, .int .u64 fd, .int .u64 fe] 52) = W0 at *
  generalize w.heap.size = C at *
  have a0 : W0.cell? ⟨C, 0, none⟩ = some (.int .i64 10) := h0.cell 0 rfl 0
  have a2 : W0.cell? ⟨C, 2, none⟩ = some (.int .i64 oi) := h0.cell 0 rfl 2
  have a3 : W0.cell? ⟨C, 3, none⟩ = some (.int .i64 on) := h0.cell 0 rfl 3
  have hq : Calls Tryz.prog 55 #[.pointer (some ⟨A.t, 0, none⟩), .int .i64 oi, .int .i64 on] W0.drew fun e w' => e = .returned (.int .i64 ((freeOp on).E z.hs oi)) ∧ ∃ v1, (w'.cell? ⟨C, 2, none⟩ = some (.int .i64 oi) ∧ w'.cell? ⟨C, 3, none⟩ = some (.int .i64 on)) ∧ St o (boxI C #[.int .i64 10, .int .i64 om, .int .i64 oi, .int .i64 on, .int .i64 ox, .int .i64 fa, .int .i64 fb, .int .i64 fc, .int .u64 fd, .int .u64 fe] 52 :: its.set i (spI A c ((z.turn t).op (freeOp on) oi) v1 u)) w' := by
    refine (spFree h0.drew (i + 1) hi okT hk2 oi on).mono ?_
    rintro e w' ⟨he, v1, h'⟩
    have h'' : St o (boxI C #[.int .i64 10, .int .i64 om, .int .i64 oi, .int .i64 on, .int .i64 ox, .int .i64 fa, .int .i64 fb, .int .i64 fc, .int .u64 fd, .int .u64 fe] 52 :: its.set i (spI A c ((z.turn t).op (freeOp on) oi) v1 u)) w' := h'
    exact ⟨he, v1, ⟨h''.cell 0 rfl 2, h''.cell 0 rfl 3⟩, h''⟩
  have hg : Calls Tryz.prog 48 #[.pointer (some ⟨A.sp, 0, none⟩)] W0.drew fun e w' => e = .returned (.pointer (some ⟨A.t, 0, none⟩)) ∧ w' = W0.drew := spSlots h0.drew (i + 1) hi
  have hr : ∀ W v1, St o (boxI C #[.int .i64 10, .int .i64 om, .int .i64 oi, .int .i64 on, .int .i64 ox, .int .i64 fa, .int .i64 fb, .int .i64 fc, .int .u64 fd, .int .u64 fe] 52 :: its.set i (spI A c ((z.turn t).op (freeOp on) oi) v1 u)) W → W.cell? ⟨B.sp, 9, none⟩ = some (.pointer (some ⟨B.y, 0, none⟩)) ∧ Calls Tryz.prog 56 #[.pointer (some ⟨B.y, 0, none⟩), .int .i64 oi, .int .i64 on] W.drew fun e w' => e = .returned (.int .i64 ((freeOp on).E z.hs oi)) ∧ (w'.cell? ⟨C, 2, none⟩ = some (.int .i64 oi) ∧ w'.cell? ⟨C, 3, none⟩ = some (.int .i64 on) ∧ w'.cell? ⟨B.sp, 9, none⟩ = some (.pointer (some ⟨B.y, 0, none⟩))) ∧ Hid (∃ v2, St o ((its.set i (spI A c ((z.turn t).op (freeOp on) oi) v1 u)).set j (rpI B c ((z.turn t).op (freeOp on) oi) v2 q)) w') := by
    intro W v1 hS
    refine ⟨rpCell hS (j + 1) (set_other hj hij) 9, (rpFree hS.drew (j + 1) (set_other hj hij) okT hk2 oi on).mono ?_⟩
    rintro e w' ⟨he, v2, h2⟩
    have h3 : St o (boxI C #[.int .i64 10, .int .i64 om, .int .i64 oi, .int .i64 on, .int .i64 ox, .int .i64 fa, .int .i64 fb, .int .i64 fc, .int .u64 fd, .int .u64 fe] 52 :: (its.set i (spI A c ((z.turn t).op (freeOp on) oi) v1 u)).set j (rpI B c ((z.turn t).op (freeOp on) oi) v2 q)) w' := h2
    exact ⟨he, ⟨h3.cell 0 rfl 2, h3.cell 0 rfl 3, rpCell h3 (j + 1) (set_self (set_other hj hij)) 9⟩, _, h3.pop⟩
  generalize (freeOp on).E z.hs oi = R0 at *
  have t0 : (R0 == R0) = true := by simp
  clear hij hi hj ok okT h0
  go_upto_region 23 with fail
  go_region_held3 (fun W => W.cell? ⟨C, 2, none⟩ = some (.int .i64 oi) ∧ W.cell? ⟨C, 3, none⟩ = some (.int .i64 on)) (first | go_keep | exact cS)
    (first | (go_at_call 48; refine hg.mono ?_; rintro e wg ⟨rfl, rfl⟩) | (go_at_call 55; refine hq.mono ?_; rintro e w1 ⟨rfl, v1, cS, h1⟩))
  obtain ⟨b2, b3⟩ := cS
  obtain ⟨bp, hr1⟩ := hr w1 v1 h1
  clear hq hr h1 a2 a3 hg
  go_upto_region 24 with fail
  go_region_held3 (fun W => W.cell? ⟨C, 2, none⟩ = some (.int .i64 oi) ∧ W.cell? ⟨C, 3, none⟩ = some (.int .i64 on) ∧ W.cell? ⟨B.sp, 9, none⟩ = some (.pointer (some ⟨B.y, 0, none⟩))) (first | go_keep | exact rS)
    (first | (go_at_call 56; refine hr1.mono ?_; rintro e w2 ⟨rfl, rS, HS⟩))
  clear hr1 rS bp b2 b3
  go_wp2
  obtain ⟨v2, HT⟩ := HS.out
  go_ret
  exact ⟨rfl, _, _, _, _, _, HT, HO.out⟩

set_option maxRecDepth 100000 in
set_option maxHeartbeats 4000000 in
theorem raw_put {o w : World} {its : List It} {A : Ad} {B : Bd} {c : Cfg} {z : SSt} {t : Int} {v u p q : Value} (h : St o its w) (i j : Nat) (hij : i ≠ j) (hi : its[i]? = some (spI A c (z.turn t) v u)) (hj : its[j]? = some (rpI B c (z.turn t) p q)) {k : Nat} (ok : z.ok c k) (hk : k < 4611686018427) (om oi on ox : Int) (fa fb fc fd fe : Int) :
    Calls Tryz.prog 16 #[spp A, rpp B, .agg #[.int .i64 12, .int .i64 om, .int .i64 oi, .int .i64 on, .int .i64 ox, .int .i64 fa, .int .i64 fb, .int .i64 fc, .int .u64 fd, .int .u64 fe]] w fun e w' => e = .returned (.bool true) ∧ ∃ z' v1 u1 v2 u2, St o ((its.set i (spI A c z' v1 u1)).set j (rpI B c z' v2 u2)) w' ∧ z'.ok c (k + 1) := by
  have hk2 : k + 1 ≤ 4611686018427 := by omega
  have okT := ok.turn t
  have h0 := h.box #[.int .i64 12, .int .i64 om, .int .i64 oi, .int .i64 on, .int .i64 ox, .int .i64 fa, .int .i64 fb, .int .i64 fc, .int .u64 fd, .int .u64 fe] 52
  have HO : Hid (((z.turn t).put oi on (ox % 18446744073709551616)).ok c (k + 1)) := ok.putT oi on (ox % 18446744073709551616)
  clear h
  unfold spp rpp
  go_enter Tryz.func16, Tryz.ntmps16
  go_upto_region 1 with fail
  generalize w.alloc (.cells #[.int .i64 12, .int .i64 om, .int .i64 oi, .int .i64 on, .int .i64 ox, .int .i64 fa, .int .i64 fb, .int .i64 fc, .int .u64 fd, .int .u64 fe] 52) = W0 at *
  generalize w.heap.size = C at *
  have a0 : W0.cell? ⟨C, 0, none⟩ = some (.int .i64 12) := h0.cell 0 rfl 0
  have a2 : W0.cell? ⟨C, 2, none⟩ = some (.int .i64 oi) := h0.cell 0 rfl 2
  have a3 : W0.cell? ⟨C, 3, none⟩ = some (.int .i64 on) := h0.cell 0 rfl 3
  have a4 : W0.cell? ⟨C, 4, none⟩ = some (.int .i64 ox) := h0.cell 0 rfl 4
  have hq : Calls Tryz.prog 57 #[.pointer (some ⟨A.t, 0, none⟩), .int .i64 oi, .int .i64 on, .int .u64 (ox % 18446744073709551616)] W0.drew fun e w' => e = .returned (.int .i64 (wordE z.hs.length oi on)) ∧ ∃ v1, (w'.cell? ⟨C, 2, none⟩ = some (.int .i64 oi) ∧ w'.cell? ⟨C, 3, none⟩ = some (.int .i64 on) ∧ w'.cell? ⟨C, 4, none⟩ = some (.int .i64 ox)) ∧ St o (boxI C #[.int .i64 12, .int .i64 om, .int .i64 oi, .int .i64 on, .int .i64 ox, .int .i64 fa, .int .i64 fb, .int .i64 fc, .int .u64 fd, .int .u64 fe] 52 :: its.set i (spI A c ((z.turn t).put oi on (ox % 18446744073709551616)) v1 u)) w' := by
    refine (spPut h0.drew (i + 1) hi okT hk2 oi on (ox % 18446744073709551616)).mono ?_
    rintro e w' ⟨he, v1, h'⟩
    have h'' : St o (boxI C #[.int .i64 12, .int .i64 om, .int .i64 oi, .int .i64 on, .int .i64 ox, .int .i64 fa, .int .i64 fb, .int .i64 fc, .int .u64 fd, .int .u64 fe] 52 :: its.set i (spI A c ((z.turn t).put oi on (ox % 18446744073709551616)) v1 u)) w' := h'
    exact ⟨he, v1, ⟨h''.cell 0 rfl 2, h''.cell 0 rfl 3, h''.cell 0 rfl 4⟩, h''⟩
  have hg : Calls Tryz.prog 48 #[.pointer (some ⟨A.sp, 0, none⟩)] W0.drew fun e w' => e = .returned (.pointer (some ⟨A.t, 0, none⟩)) ∧ w' = W0.drew := spSlots h0.drew (i + 1) hi
  have hr : ∀ W v1, St o (boxI C #[.int .i64 12, .int .i64 om, .int .i64 oi, .int .i64 on, .int .i64 ox, .int .i64 fa, .int .i64 fb, .int .i64 fc, .int .u64 fd, .int .u64 fe] 52 :: its.set i (spI A c ((z.turn t).put oi on (ox % 18446744073709551616)) v1 u)) W → W.cell? ⟨B.sp, 9, none⟩ = some (.pointer (some ⟨B.y, 0, none⟩)) ∧ Calls Tryz.prog 58 #[.pointer (some ⟨B.y, 0, none⟩), .int .i64 oi, .int .i64 on, .int .u64 (ox % 18446744073709551616)] W.drew fun e w' => e = .returned (.int .i64 (wordE z.hs.length oi on)) ∧ (w'.cell? ⟨C, 2, none⟩ = some (.int .i64 oi) ∧ w'.cell? ⟨C, 3, none⟩ = some (.int .i64 on) ∧ w'.cell? ⟨C, 4, none⟩ = some (.int .i64 ox) ∧ w'.cell? ⟨B.sp, 9, none⟩ = some (.pointer (some ⟨B.y, 0, none⟩))) ∧ Hid (∃ v2, St o ((its.set i (spI A c ((z.turn t).put oi on (ox % 18446744073709551616)) v1 u)).set j (rpI B c ((z.turn t).put oi on (ox % 18446744073709551616)) v2 q)) w') := by
    intro W v1 hS
    refine ⟨rpCell hS (j + 1) (set_other hj hij) 9, (rpPut hS.drew (j + 1) (set_other hj hij) okT hk2 oi on (ox % 18446744073709551616)).mono ?_⟩
    rintro e w' ⟨he, v2, h2⟩
    have h3 : St o (boxI C #[.int .i64 12, .int .i64 om, .int .i64 oi, .int .i64 on, .int .i64 ox, .int .i64 fa, .int .i64 fb, .int .i64 fc, .int .u64 fd, .int .u64 fe] 52 :: (its.set i (spI A c ((z.turn t).put oi on (ox % 18446744073709551616)) v1 u)).set j (rpI B c ((z.turn t).put oi on (ox % 18446744073709551616)) v2 q)) w' := h2
    exact ⟨he, ⟨h3.cell 0 rfl 2, h3.cell 0 rfl 3, h3.cell 0 rfl 4, rpCell h3 (j + 1) (set_self (set_other hj hij)) 9⟩, _, h3.pop⟩
  generalize wordE z.hs.length oi on = R0 at *
  have t0 : (R0 == R0) = true := by simp
  clear hij hi hj ok okT h0
  go_upto_region 26 with fail
  go_region_held3 (fun W => W.cell? ⟨C, 2, none⟩ = some (.int .i64 oi) ∧ W.cell? ⟨C, 3, none⟩ = some (.int .i64 on) ∧ W.cell? ⟨C, 4, none⟩ = some (.int .i64 ox)) (first | go_keep | exact cS)
    (first | (go_at_call 48; refine hg.mono ?_; rintro e wg ⟨rfl, rfl⟩) | (go_at_call 57; refine hq.mono ?_; rintro e w1 ⟨rfl, v1, cS, h1⟩))
  obtain ⟨b2, b3, b4⟩ := cS
  obtain ⟨bp, hr1⟩ := hr w1 v1 h1
  clear hq hr h1 a2 a3 a4 hg
  go_upto_region 27 with fail
  go_region_held3 (fun W => W.cell? ⟨C, 2, none⟩ = some (.int .i64 oi) ∧ W.cell? ⟨C, 3, none⟩ = some (.int .i64 on) ∧ W.cell? ⟨C, 4, none⟩ = some (.int .i64 ox) ∧ W.cell? ⟨B.sp, 9, none⟩ = some (.pointer (some ⟨B.y, 0, none⟩))) (first | go_keep | exact rS)
    (first | (go_at_call 58; refine hr1.mono ?_; rintro e w2 ⟨rfl, rS, HS⟩))
  clear hr1 rS bp b2 b3 b4
  go_wp2
  obtain ⟨v2, HT⟩ := HS.out
  go_ret
  exact ⟨rfl, _, _, _, _, _, HT, HO.out⟩

set_option maxRecDepth 100000 in
set_option maxHeartbeats 4000000 in
theorem raw_none {o w : World} {its : List It} {A : Ad} {B : Bd} {c : Cfg} {z : SSt} {t : Int} {v u p q : Value} (h : St o its w) (i j : Nat) (hij : i ≠ j) (hi : its[i]? = some (spI A c (z.turn t) v u)) (hj : its[j]? = some (rpI B c (z.turn t) p q)) {k : Nat} (ok : z.ok c k) (hk : k < 4611686018427) (kind om oi on ox : Int) (fa fb fc fd fe : Int) (e3 : (kind == 3) = false) (e5 : (kind == 5) = false) (e6 : (kind == 6) = false) (e7 : (kind == 7) = false) (e8 : (kind == 8) = false) (e9 : (kind == 9) = false) (e10 : (kind == 10) = false) (e12 : (kind == 12) = false) :
    Calls Tryz.prog 16 #[spp A, rpp B, .agg #[.int .i64 kind, .int .i64 om, .int .i64 oi, .int .i64 on, .int .i64 ox, .int .i64 fa, .int .i64 fb, .int .i64 fc, .int .u64 fd, .int .u64 fe]] w fun e w' => e = .returned (.bool true) ∧ ∃ z' v1 u1 v2 u2, St o ((its.set i (spI A c z' v1 u1)).set j (rpI B c z' v2 u2)) w' ∧ z'.ok c (k + 1) := by
  have h0 := h.box #[.int .i64 kind, .int .i64 om, .int .i64 oi, .int .i64 on, .int .i64 ox, .int .i64 fa, .int .i64 fb, .int .i64 fc, .int .u64 fd, .int .u64 fe] 52
  have HO : Hid (∃ z' v1 u1 v2 u2, St o ((its.set i (spI A c z' v1 u1)).set j (rpI B c z' v2 u2)) (w.alloc (.cells #[.int .i64 kind, .int .i64 om, .int .i64 oi, .int .i64 on, .int .i64 ox, .int .i64 fa, .int .i64 fb, .int .i64 fc, .int .u64 fd, .int .u64 fe] 52)) ∧ z'.ok c (k + 1)) := ⟨z.turn t, v, u, p, q, by rw [set_back hi, set_back hj]; exact h0.pop, ok.turn t⟩
  have a0 : (w.alloc (.cells #[.int .i64 kind, .int .i64 om, .int .i64 oi, .int .i64 on, .int .i64 ox, .int .i64 fa, .int .i64 fb, .int .i64 fc, .int .u64 fd, .int .u64 fe] 52)).cell? ⟨w.heap.size, 0, none⟩ = some (.int .i64 kind) := h0.cell 0 rfl 0
  clear h h0 hi hj ok
  unfold spp rpp
  go_enter Tryz.func16, Tryz.ntmps16
  go_upto_region 1 with fail
  generalize w.alloc (.cells #[.int .i64 kind, .int .i64 om, .int .i64 oi, .int .i64 on, .int .i64 ox, .int .i64 fa, .int .i64 fb, .int .i64 fc, .int .u64 fd, .int .u64 fe] 52) = W0 at *
  generalize w.heap.size = C at *
  go_wp2
  go_ret
  exact ⟨rfl, HO.out⟩
end Go.Proofs.YtajfjkhbimehbaaGreat
