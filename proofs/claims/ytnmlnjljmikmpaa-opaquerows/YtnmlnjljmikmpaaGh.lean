/- Package ghost: those, at moves and at stories, as what it tells. -/
import Derived.Test.YtnmlnjljmikmpaaGg
import Derived.RangeFuncBound
import Derived.Shelf.Abstract
import Derived.Shelf.RegionOpen
import Derived.OwnWalkIn
import Derived.LoopNIn
import Derived.LoopIn
import Derived.Sort.LoopGhostIn
namespace Go.Proofs.Ytnmlnjljmikmpaa
open Go.RowKit Go.Shelf
set_option linter.unusedVariables false
set_option linter.unusedSimpArgs false
attribute [local go_sem ↓] Go.wp_at_zero Go.wp_at_succ
attribute [local go_sem] Oper.semAt_some

theorem box_at {o w : World} {its : List It} (h : St o its w) {k : Nat} {cs : Array Value} {t : TypeId} (hm : boxI k cs t ∈ its) (j : Nat) : w.cell? ⟨k, j, none⟩ = cs[j]? := cell_of_heap (h.all _ hm)
theorem take_snoc {α : Type} {xs : List α} {j : Nat} {x : α} (h : xs[j]? = some x) : xs.take (j + 1) = xs.take j ++ [x] := by
  obtain ⟨h1, h2⟩ := List.getElem?_eq_some_iff.1 h
  subst h2
  exact List.take_succ_eq_append_getElem h1
theorem take_split {α : Type} {xs : List α} {j : Nat} {x : α} (h : xs[j]? = some x) : ∃ r, xs = xs.take j ++ x :: r := by
  obtain ⟨h1, h2⟩ := List.getElem?_eq_some_iff.1 h
  subst h2
  exact ⟨xs.drop (j + 1), by rw [← List.drop_eq_getElem_cons h1, List.take_append_drop]⟩
theorem Sat.calm {α : Type} {o : World} {K : List α → List It → Prop} {R : List It} {pre : List α} {W W' : World} (h : Sat o K R pre W) (k : Kept (fun _ => False) W W') : Sat o K R pre W' := by
  obtain ⟨X, hK, hs⟩ := h
  exact ⟨X, hK, hs.calm k⟩
def Mv.puts (m : Mv) : Bool := m.wr
theorem writesP_any (m : Mv) (w : World) : Calls Try.prog 56 #[mvV m] w fun e w' => e = .returned (.bool m.puts) ∧ Kept (fun _ => False) w w' := writes_any m w
def Sm.commits (m : Sm) : Bool := m.s.ft == 1
def Sm.aborts (m : Sm) : Bool := m.s.ft == 2
abbrev thRqMove (b1 b2 f : Nat) (la : Option Addr) (n lc : Nat) : List It := [boxI b2 #[.func (.func f) #[] #[]] 99, boxI b1 #[.slice la n lc] 42]
theorem thoseMove_any {o w : World} {R : List It} (h : St o R w) (la : Option Addr) (n lc f : Nat) : Calls Try.prog 57 #[.slice la n lc, .func (.func f) #[] #[]] w fun e w' =>
    ∃ b1 b2, e = .returned (.func (.func 75) #[] #[.pointer (some ⟨b1, 0, none⟩), .pointer (some ⟨b2, 0, none⟩)]) ∧ St o (thRqMove b1 b2 f la n lc ++ R) w' := by
  have HS := hid ((h.box #[.slice la n lc] 42).box #[.func (.func f) #[] #[]] 99)
  rw [alloc_size] at HS
  clear h
  go_enter Try.func57, Try.ntmps57
  go_wp2
  go_ret
  exact ⟨_, _, rfl, HS.out⟩
abbrev thRqStory (b1 b2 f : Nat) (la : Option Addr) (n lc : Nat) : List It := [boxI b2 #[.func (.func f) #[] #[]] 74, boxI b1 #[.slice la n lc] 23]
set_option maxRecDepth 100000 in
set_option maxHeartbeats 4000000 in
theorem those_looksOut {o : World} {la : Option Addr} {n lc : Nat} {xs : List Mv} (hX : RIn mC o la n xs) (hn : n ≤ 140737488355328) (b1 b2 : Nat) :
    Tells Try.prog o 75 #[.pointer (some ⟨b1, 0, none⟩), .pointer (some ⟨b2, 0, none⟩)] mvV (fun pre x => ∃ r, pre ++ x :: r = xs.filter Mv.out) (fun ys => ys = xs.filter Mv.out) (fun pre => ∃ r, pre ++ r = xs.filter Mv.out) (thRqMove b1 b2 58 la n lc) := by
  generalize hRQ : thRqMove b1 b2 58 la n lc = RQ
  intro l K Kx T N W hN hY h0
  show CallsIn _ _ _ _ #[.func (.yield l) #[] #[], .pointer (some ⟨b1, 0, none⟩), .pointer (some ⟨b2, 0, none⟩)] _ _
  have HF : ∀ pre W', Sat o K (RQ ++ T) pre W' → W'.cell? ⟨b1, 0, none⟩ = some (.slice la n lc) ∧ W'.cell? ⟨b2, 0, none⟩ = some (.func (.func 58) #[] #[]) ∧ RIn mC W' la n xs := fun pre W' hs => by
    obtain ⟨X, _, hs⟩ := hs
    subst hRQ
    exact ⟨box_at hs (k := b1) (cs := #[.slice la n lc]) (t := 42) (by simp) 0, box_at hs (k := b2) (cs := #[.func (.func 58) #[] #[]]) (t := 99) (by simp) 0, hX.kept hs.same⟩
  have c0 := (HF [] W h0).1
  clear hRQ
  replace HF := hid HF
  replace hY := hid hY
  have HLN := hid hX.1
  have hn1 : (n : Int) ≤ 140737488355328 := by omega
  have hf1 : Fence.wide.fn 58 := trivial
  clear hN hX
  refine callsIn_of_wp Try.func75 rfl trivial ?_ rfl
  simp only [Try.ntmps75, List.size_toArray, List.length_cons, List.length_nil, Nat.reduceAdd, Nat.reduceSub, Array.replicate_succ, Array.replicate_zero, List.push_toArray, List.append_toArray, List.nil_append, List.cons_append]
  gi_wp2
  clear c0
  gi_loopg [8] n (fun k v wr => ∃ (j : Nat), v = .int .i64 j ∧ j ≤ n ∧ Sat o K (RQ ++ T) ((xs.take j).filter Mv.out) wr ∧ k + j = n)
  case atStart => exact ⟨0, rfl, Nat.zero_le _, h0, by simp⟩
  case round =>
    obtain ⟨j, rfl, hj, hS, hk⟩ := hrel
    have hk := hid hk
    by_cases hlt : j < n
    · have hlt' : (j : Int) < (n : Int) := by omega
      have hj0 : (0 : Int) ≤ (j : Int) := by omega
      obtain ⟨c1, c2, hr⟩ := HF.out _ _ hS
      obtain ⟨g, off, rfl⟩ := hr.addr (by omega)
      obtain ⟨x, hx⟩ : ∃ x, xs[j]? = some x := ⟨_, List.getElem?_eq_getElem (by have := HLN.out; omega)⟩
      have q := fun i u hu => hr.at (k := 6) (fun _ => rfl) hx i u hu
      have q0 := q 0 _ rfl
      have q1 := q 1 _ rfl
      have q2 := q 2 _ rfl
      have q3 := q 3 _ rfl
      have q4 := q 4 _ rfl
      have q5 := q 5 _ rfl
      rw [Nat.add_zero] at q0
      have hP := hid (looksOut_any x)
      have htk : xs.take (j + 1) = xs.take j ++ [x] := take_snoc hx
      have hsp : ∃ r, xs = xs.take j ++ x :: r := take_split hx
      obtain ⟨ms, mw, mc, mx, mo, mg⟩ := x
      clear q hr
      have hB := (St.nil wr).box #[.int .i64 ms, .bool mw, .int .i64 mc, .int .i64 mx, .bool mo, .int .i64 mg] 46
      have hK1 := kept_alloc wr (.cells #[.int .i64 ms, .bool mw, .int .i64 mc, .int .i64 mx, .bool mo, .int .i64 mg] 46)
      generalize hw1 : wr.alloc (.cells #[.int .i64 ms, .bool mw, .int .i64 mc, .int .i64 mx, .bool mo, .int .i64 mg] 46) = w1 at *
      generalize hE : wr.heap.size = E at *
      have FC : Hid (∀ W, Kept (fun _ => False) w1 W → W.cell? ⟨E, 0, none⟩ = some (.int .i64 ms) ∧ W.cell? ⟨E, 1, none⟩ = some (.bool mw) ∧ W.cell? ⟨E, 2, none⟩ = some (.int .i64 mc) ∧ W.cell? ⟨E, 3, none⟩ = some (.int .i64 mx) ∧ W.cell? ⟨E, 4, none⟩ = some (.bool mo) ∧ W.cell? ⟨E, 5, none⟩ = some (.int .i64 mg)) := hid (fun W hW => by
        have hs := hB.calm hW
        exact ⟨hs.cell 0 rfl 0, hs.cell 0 rfl 1, hs.cell 0 rfl 2, hs.cell 0 rfl 3, hs.cell 0 rfl 4, hs.cell 0 rfl 5⟩)
      obtain ⟨d0, d1, d2, d3, d4, d5⟩ := FC.out _ (Kept.refl _ w1)
      have c2' := (HF.out _ _ (hS.calm hK1)).2.1
      have hP1 := hP.out w1
      cases hp : Mv.out ⟨ms, mw, mc, mx, mo, mg⟩ with
      | false =>
        rw [show Mv.out ⟨ms, mw, mc, mx, mo, mg⟩ = false from hp] at hP1
        have HR : Hid (∀ W, Kept (fun _ => False) w1 W → Sat o K (RQ ++ T) ((xs.take (j + 1)).filter Mv.out) W) := hid (fun W hW => by
          rw [htk, List.filter_append, List.filter_cons_of_neg (by simp [hp]), List.filter_nil, List.append_nil]
          exact (hS.calm hK1).calm hW)
        clear hB hK1 hS hx htk hsp hp hP hY HF HLN
        gi_wp2_with (first | simp only [hw1, hE] | (gi_at_call 58; refine (callsIn_wide.2 hP1).mono ?_; rintro e w2 ⟨rfl, hk2⟩; have HK2 := hid hk2; clear hk2))
        refine ⟨fun _ h => (by cases h), ?_⟩
        gi_wp2
        gi_roundg (gk - 1)
        case rel => exact ⟨j + 1, by simp, by omega, HR.out _ HK2.out, by have := hk.out; omega⟩
        case measure => have := hk.out; omega
      | true =>
        rw [show Mv.out ⟨ms, mw, mc, mx, mo, mg⟩ = true from hp] at hP1
        have hok : ∃ r, (xs.take j).filter Mv.out ++ ⟨ms, mw, mc, mx, mo, mg⟩ :: r = xs.filter Mv.out := by
          obtain ⟨r, hr⟩ := hsp
          exact ⟨r.filter Mv.out, by conv => rhs; rw [hr, List.filter_append, List.filter_cons_of_pos (by simp [hp])]⟩
        have HY1 := hid (fun (W : World) (hW : Kept (fun _ => False) w1 W) => hY.out T _ _ W hok ((hS.calm hK1).calm hW))
        have e1 : (xs.take (j + 1)).filter Mv.out = (xs.take j).filter Mv.out ++ [⟨ms, mw, mc, mx, mo, mg⟩] := by rw [htk, List.filter_append, List.filter_cons_of_pos (by simp [hp]), List.filter_nil]
        have HE1 := hid e1
        have HOK := hid hok
        clear hB hK1 hS hx htk hsp hp hP hY HF HLN hok e1
        gi_wp2_with (first | simp only [hw1, hE] | (gi_at_call 58; refine (callsIn_wide.2 hP1).mono ?_; rintro e w2 ⟨rfl, hk2⟩; obtain ⟨d0, d1, d2, d3, d4, d5⟩ := FC.out _ hk2; obtain ⟨fn, tmps, assign, body, hy, hR⟩ := HY1.out _ hk2; have HRR := hid hR; clear hk2 hR))
        refine (roundIn_any HRR.out).mono ?_
        rintro e W3 (⟨rfl, hS3⟩ | ⟨rfl, hS3⟩)
        · rw [← HE1.out] at hS3
          have HS3 := hid hS3
          clear hS3
          gi_wp2
          gi_roundg (gk - 1)
          case rel => exact ⟨j + 1, by simp, by omega, HS3.out, by have := hk.out; omega⟩
          case measure => have := hk.out; omega
        · have HS3 := hid hS3
          clear hS3
          gi_wp2
          exact bodyPost_ret (v := .tuple #[]) (by simp [results, Try.f75, go_sem]) rfl ⟨⟨_, rfl⟩, .inr ⟨_, (by obtain ⟨r, hr⟩ := HOK.out; exact ⟨r, by rw [List.append_assoc]; exact hr⟩), HS3.out⟩⟩
    · have hlt' : ¬ (j : Int) < (n : Int) := by omega
      have e : xs.take j = xs := List.take_of_length_le (by have := HLN.out; omega)
      rw [e] at hS
      have HS9 := hid hS
      clear hS
      gi_wp2
      go_end0
      first | exact ⟨⟨_, rfl⟩, .inl HS9.out⟩ | exact ⟨⟨_, rfl⟩, .inl ⟨_, rfl, HS9.out⟩⟩
set_option maxRecDepth 100000 in
set_option maxHeartbeats 4000000 in
theorem those_writes {o : World} {la : Option Addr} {n lc : Nat} {xs : List Mv} (hX : RIn mC o la n xs) (hn : n ≤ 140737488355328) (b1 b2 : Nat) :
    Tells Try.prog o 75 #[.pointer (some ⟨b1, 0, none⟩), .pointer (some ⟨b2, 0, none⟩)] mvV (fun pre x => ∃ r, pre ++ x :: r = xs.filter Mv.puts) (fun ys => ys = xs.filter Mv.puts) (fun pre => ∃ r, pre ++ r = xs.filter Mv.puts) (thRqMove b1 b2 56 la n lc) := by
  generalize hRQ : thRqMove b1 b2 56 la n lc = RQ
  intro l K Kx T N W hN hY h0
  show CallsIn _ _ _ _ #[.func (.yield l) #[] #[], .pointer (some ⟨b1, 0, none⟩), .pointer (some ⟨b2, 0, none⟩)] _ _
  have HF : ∀ pre W', Sat o K (RQ ++ T) pre W' → W'.cell? ⟨b1, 0, none⟩ = some (.slice la n lc) ∧ W'.cell? ⟨b2, 0, none⟩ = some (.func (.func 56) #[] #[]) ∧ RIn mC W' la n xs := fun pre W' hs => by
    obtain ⟨X, _, hs⟩ := hs
    subst hRQ
    exact ⟨box_at hs (k := b1) (cs := #[.slice la n lc]) (t := 42) (by simp) 0, box_at hs (k := b2) (cs := #[.func (.func 56) #[] #[]]) (t := 99) (by simp) 0, hX.kept hs.same⟩
  have c0 := (HF [] W h0).1
  clear hRQ
  replace HF := hid HF
  replace hY := hid hY
  have HLN := hid hX.1
  have hn1 : (n : Int) ≤ 140737488355328 := by omega
  have hf1 : Fence.wide.fn 56 := trivial
  clear hN hX
  refine callsIn_of_wp Try.func75 rfl trivial ?_ rfl
  simp only [Try.ntmps75, List.size_toArray, List.length_cons, List.length_nil, Nat.reduceAdd, Nat.reduceSub, Array.replicate_succ, Array.replicate_zero, List.push_toArray, List.append_toArray, List.nil_append, List.cons_append]
  gi_wp2
  clear c0
  gi_loopg [8] n (fun k v wr => ∃ (j : Nat), v = .int .i64 j ∧ j ≤ n ∧ Sat o K (RQ ++ T) ((xs.take j).filter Mv.puts) wr ∧ k + j = n)
  case atStart => exact ⟨0, rfl, Nat.zero_le _, h0, by simp⟩
  case round =>
    obtain ⟨j, rfl, hj, hS, hk⟩ := hrel
    have hk := hid hk
    by_cases hlt : j < n
    · have hlt' : (j : Int) < (n : Int) := by omega
      have hj0 : (0 : Int) ≤ (j : Int) := by omega
      obtain ⟨c1, c2, hr⟩ := HF.out _ _ hS
      obtain ⟨g, off, rfl⟩ := hr.addr (by omega)
      obtain ⟨x, hx⟩ : ∃ x, xs[j]? = some x := ⟨_, List.getElem?_eq_getElem (by have := HLN.out; omega)⟩
      have q := fun i u hu => hr.at (k := 6) (fun _ => rfl) hx i u hu
      have q0 := q 0 _ rfl
      have q1 := q 1 _ rfl
      have q2 := q 2 _ rfl
      have q3 := q 3 _ rfl
      have q4 := q 4 _ rfl
      have q5 := q 5 _ rfl
      rw [Nat.add_zero] at q0
      have hP := hid (writesP_any x)
      have htk : xs.take (j + 1) = xs.take j ++ [x] := take_snoc hx
      have hsp : ∃ r, xs = xs.take j ++ x :: r := take_split hx
      obtain ⟨ms, mw, mc, mx, mo, mg⟩ := x
      clear q hr
      have hB := (St.nil wr).box #[.int .i64 ms, .bool mw, .int .i64 mc, .int .i64 mx, .bool mo, .int .i64 mg] 46
      have hK1 := kept_alloc wr (.cells #[.int .i64 ms, .bool mw, .int .i64 mc, .int .i64 mx, .bool mo, .int .i64 mg] 46)
      generalize hw1 : wr.alloc (.cells #[.int .i64 ms, .bool mw, .int .i64 mc, .int .i64 mx, .bool mo, .int .i64 mg] 46) = w1 at *
      generalize hE : wr.heap.size = E at *
      have FC : Hid (∀ W, Kept (fun _ => False) w1 W → W.cell? ⟨E, 0, none⟩ = some (.int .i64 ms) ∧ W.cell? ⟨E, 1, none⟩ = some (.bool mw) ∧ W.cell? ⟨E, 2, none⟩ = some (.int .i64 mc) ∧ W.cell? ⟨E, 3, none⟩ = some (.int .i64 mx) ∧ W.cell? ⟨E, 4, none⟩ = some (.bool mo) ∧ W.cell? ⟨E, 5, none⟩ = some (.int .i64 mg)) := hid (fun W hW => by
        have hs := hB.calm hW
        exact ⟨hs.cell 0 rfl 0, hs.cell 0 rfl 1, hs.cell 0 rfl 2, hs.cell 0 rfl 3, hs.cell 0 rfl 4, hs.cell 0 rfl 5⟩)
      obtain ⟨d0, d1, d2, d3, d4, d5⟩ := FC.out _ (Kept.refl _ w1)
      have c2' := (HF.out _ _ (hS.calm hK1)).2.1
      have hP1 := hP.out w1
      cases hp : Mv.puts ⟨ms, mw, mc, mx, mo, mg⟩ with
      | false =>
        rw [show Mv.puts ⟨ms, mw, mc, mx, mo, mg⟩ = false from hp] at hP1
        have HR : Hid (∀ W, Kept (fun _ => False) w1 W → Sat o K (RQ ++ T) ((xs.take (j + 1)).filter Mv.puts) W) := hid (fun W hW => by
          rw [htk, List.filter_append, List.filter_cons_of_neg (by simp [hp]), List.filter_nil, List.append_nil]
          exact (hS.calm hK1).calm hW)
        clear hB hK1 hS hx htk hsp hp hP hY HF HLN
        gi_wp2_with (first | simp only [hw1, hE] | (gi_at_call 56; refine (callsIn_wide.2 hP1).mono ?_; rintro e w2 ⟨rfl, hk2⟩; have HK2 := hid hk2; clear hk2))
        refine ⟨fun _ h => (by cases h), ?_⟩
        gi_wp2
        gi_roundg (gk - 1)
        case rel => exact ⟨j + 1, by simp, by omega, HR.out _ HK2.out, by have := hk.out; omega⟩
        case measure => have := hk.out; omega
      | true =>
        rw [show Mv.puts ⟨ms, mw, mc, mx, mo, mg⟩ = true from hp] at hP1
        have hok : ∃ r, (xs.take j).filter Mv.puts ++ ⟨ms, mw, mc, mx, mo, mg⟩ :: r = xs.filter Mv.puts := by
          obtain ⟨r, hr⟩ := hsp
          exact ⟨r.filter Mv.puts, by conv => rhs; rw [hr, List.filter_append, List.filter_cons_of_pos (by simp [hp])]⟩
        have HY1 := hid (fun (W : World) (hW : Kept (fun _ => False) w1 W) => hY.out T _ _ W hok ((hS.calm hK1).calm hW))
        have e1 : (xs.take (j + 1)).filter Mv.puts = (xs.take j).filter Mv.puts ++ [⟨ms, mw, mc, mx, mo, mg⟩] := by rw [htk, List.filter_append, List.filter_cons_of_pos (by simp [hp]), List.filter_nil]
        have HE1 := hid e1
        have HOK := hid hok
        clear hB hK1 hS hx htk hsp hp hP hY HF HLN hok e1
        gi_wp2_with (first | simp only [hw1, hE] | (gi_at_call 56; refine (callsIn_wide.2 hP1).mono ?_; rintro e w2 ⟨rfl, hk2⟩; obtain ⟨d0, d1, d2, d3, d4, d5⟩ := FC.out _ hk2; obtain ⟨fn, tmps, assign, body, hy, hR⟩ := HY1.out _ hk2; have HRR := hid hR; clear hk2 hR))
        refine (roundIn_any HRR.out).mono ?_
        rintro e W3 (⟨rfl, hS3⟩ | ⟨rfl, hS3⟩)
        · rw [← HE1.out] at hS3
          have HS3 := hid hS3
          clear hS3
          gi_wp2
          gi_roundg (gk - 1)
          case rel => exact ⟨j + 1, by simp, by omega, HS3.out, by have := hk.out; omega⟩
          case measure => have := hk.out; omega
        · have HS3 := hid hS3
          clear hS3
          gi_wp2
          exact bodyPost_ret (v := .tuple #[]) (by simp [results, Try.f75, go_sem]) rfl ⟨⟨_, rfl⟩, .inr ⟨_, (by obtain ⟨r, hr⟩ := HOK.out; exact ⟨r, by rw [List.append_assoc]; exact hr⟩), HS3.out⟩⟩
    · have hlt' : ¬ (j : Int) < (n : Int) := by omega
      have e : xs.take j = xs := List.take_of_length_le (by have := HLN.out; omega)
      rw [e] at hS
      have HS9 := hid hS
      clear hS
      gi_wp2
      go_end0
      first | exact ⟨⟨_, rfl⟩, .inl HS9.out⟩ | exact ⟨⟨_, rfl⟩, .inl ⟨_, rfl, HS9.out⟩⟩
end Go.Proofs.Ytnmlnjljmikmpaa
