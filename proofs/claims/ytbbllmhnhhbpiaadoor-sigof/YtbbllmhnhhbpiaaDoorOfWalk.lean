/- SigOf, step by step: it answers true. -/
import Derived.Test.YtbbllmhnhhbpiaaDoorLent
import Derived.Test.YtbbllmhnhhbpiaaDoorUp
namespace Go.Proofs.YtbbllmhnhhbpiaaDoor
open Go.RowKit
set_option linter.unusedVariables false
set_option linter.unusedSimpArgs false

/-- A list lent stays as it is. -/
theorem ownsRow_calm {w w' : World} {base n : Nat} {v : Value} {e : TypeId} {size : Nat} {xs : List Value} (h : w.ownsRow base e size v n xs) (k : Kept (fun _ => False) w w') : w'.ownsRow base e size v n xs := ownsRow_kept h k (fun _ _ f => f)
theorem lent_ints {w : World} {base g n cap : Nat} {zs : List Int} (hn : n = zs.length) (ho : w.ownsRow base 3 1 (.slice (some ⟨g, 0, none⟩) (n + 2) cap) (n + 2) ((zs ++ [991, 992]).map (Value.int .i64))) : IntsIn w (some ⟨g, 0, none⟩) n zs := by
  refine ⟨hn, fun h0 => ⟨g, 0, rfl, fun j hj => ?_⟩⟩
  rw [Nat.zero_add, owned_cell ho (by omega)]
  simp [List.getElem?_append_left (show j < zs.length by omega)]

set_option maxRecDepth 100000 in
set_option maxHeartbeats 2000000 in
theorem sigOf_walk (la lb : Option Addr) (n m ca cb : Nat) (xs ys : List Int) (b : Int) (w : World) (hT : Tab w) (hX : ListAt w la n ca xs) (hY : ListAt w lb m cb ys) :
    Calls Tryd.prog 4 #[.slice la n ca, .int .i64 b, .slice lb m cb] w fun e w' => e = .returned (.bool true) ∧ Kept (fun _ => False) w w' := by
  obtain ⟨hIX, hxl, hxb⟩ := list_ints hX
  obtain ⟨hIY, hyl, hyb⟩ := list_ints hY
  have hn : n ≤ 17592186044414 := by omega
  have hm : m ≤ 17592186044414 := by omega
  have HX : Hid (n = xs.length) := hxl
  have HY : Hid (m = ys.length) := hyl
  have HIX : Hid (∀ w', Kept (fun _ => False) w w' → IntsIn w' la n xs) := fun w' k => hIX.kept k
  have HIY : Hid (∀ w', Kept (fun _ => False) w w' → IntsIn w' lb m ys) := fun w' k => hIY.kept k
  have HLX : Hid (∀ w', Kept (fun _ => False) w w' → ListAt w' la n ca xs) := fun w' k => hX.kept k
  have HLY : Hid (∀ w', Kept (fun _ => False) w w' → ListAt w' lb m cb ys) := fun w' k => hY.kept k
  have hA := awake_any w hT
  have hE := eqS
  clear hX hY hIX hIY hxl hyl hxb hyb
  go_enter Tryd.func4, Tryd.ntmps4
  go_wp2_with fail
  refine hA.mono ?_
  rintro e wa ⟨rfl, ka⟩
  clear hA
  go_wp2_with fail
  refine (lent_any la n ca xs wa (HLX.out _ ka)).mono ?_
  rintro e w1 ⟨g1, c1, rfl, o1, k1⟩
  replace k1 : Kept (fun _ => False) w w1 := ka.trans k1 (fun _ _ f => f)
  clear ka
  go_wp2_with fail
  refine (lent_any lb m cb ys w1 (HLY.out _ k1)).mono ?_
  rintro e w2 ⟨g2, c2, rfl, o2, k2⟩
  replace o1 := ownsRow_calm o1 k2
  replace k2 : Kept (fun _ => False) w w2 := k1.trans k2 (fun _ _ f => f)
  clear k1
  go_wp2_with fail
  have hO := of_any (some ⟨g1, 0, none⟩) n c1 xs b w2 (lent_ints HX.out o1) (by omega)
  have hO2 : Hid (∀ w', Kept (fun _ => False) w w' → Calls Tryd.prog 14 #[.slice la n ca, .int .i64 b] w' fun e w'' => e = .returned (.tuple #[(ofR xs b).1.val, .int .i64 (ofR xs b).2]) ∧ Kept (fun _ => False) w' w'') := fun w' k => refOf_any la n ca xs b w' (HIX.out _ k) (by omega)
  generalize ofR xs b = R at *
  obtain ⟨⟨s0, s1⟩, e1⟩ := R
  simp only [Sg.val] at hO hO2
  refine hO.mono ?_
  rintro e w3 ⟨rfl, k3⟩
  replace o1 := ownsRow_calm o1 k3
  replace o2 := ownsRow_calm o2 k3
  replace k3 : Kept (fun _ => False) w w3 := k2.trans k3 (fun _ _ f => f)
  clear hO k2
  go_wp2_with fail
  have B1 := Box.new w3 s0 s1
  replace o1 := ownsRow_calm o1 ((Kept.refl _ w3).alloc (.cells #[.int .u64 s0, .int .u64 s1] 31))
  replace o2 := ownsRow_calm o2 ((Kept.refl _ w3).alloc (.cells #[.int .u64 s0, .int .u64 s1] 31))
  replace k3 := k3.alloc (.cells #[.int .u64 s0, .int .u64 s1] 31)
  generalize w3.alloc (.cells #[.int .u64 s0, .int .u64 s1] 31) = w4 at *
  generalize w3.heap.size = m1 at *
  refine (hO2.out w4 k3).mono ?_
  rintro e w5 ⟨rfl, k5⟩
  replace o1 := ownsRow_calm o1 k5
  replace o2 := ownsRow_calm o2 k5
  replace B1 := B1.kept k5 id
  replace k5 : Kept (fun _ => False) w w5 := k3.trans k5 (fun _ _ f => f)
  clear hO2 k3
  go_wp2_with fail
  have B2 := Box.new w5 s0 s1
  replace o1 := ownsRow_calm o1 ((Kept.refl _ w5).alloc (.cells #[.int .u64 s0, .int .u64 s1] 31))
  replace o2 := ownsRow_calm o2 ((Kept.refl _ w5).alloc (.cells #[.int .u64 s0, .int .u64 s1] 31))
  replace B1 := B1.alloc (.cells #[.int .u64 s0, .int .u64 s1] 31)
  replace k5 := k5.alloc (.cells #[.int .u64 s0, .int .u64 s1] 31)
  generalize w5.alloc (.cells #[.int .u64 s0, .int .u64 s1] 31) = w6 at *
  generalize w5.heap.size = m2 at *
  have hF := from_any (some ⟨g2, 0, none⟩) m c2 ys w6 (lent_ints HY.out o2) (by omega)
  have hF2 : Hid (∀ w', Kept (fun _ => False) w w' → Calls Tryd.prog 16 #[.slice lb m cb] w' fun e w'' => e = .returned (.tuple #[(fromGo ys Sg.zero).1.val, .int .i64 (fromGo ys Sg.zero).2]) ∧ Kept (fun _ => False) w' w'') := fun w' k => refFrom_any lb m cb ys w' (HIY.out _ k) (by omega)
  generalize fromGo ys Sg.zero = R at *
  obtain ⟨⟨t0, t1⟩, e2⟩ := R
  simp only [Sg.val] at hF hF2
  refine hF.mono ?_
  rintro e w7 ⟨rfl, k7⟩
  replace o1 := ownsRow_calm o1 k7
  replace o2 := ownsRow_calm o2 k7
  replace B1 := B1.kept k7 id
  replace B2 := B2.kept k7 id
  replace k7 : Kept (fun _ => False) w w7 := k5.trans k7 (fun _ _ f => f)
  clear hF k5
  go_wp2_with fail
  have B3 := Box.new w7 t0 t1
  replace o1 := ownsRow_calm o1 ((Kept.refl _ w7).alloc (.cells #[.int .u64 t0, .int .u64 t1] 31))
  replace o2 := ownsRow_calm o2 ((Kept.refl _ w7).alloc (.cells #[.int .u64 t0, .int .u64 t1] 31))
  replace B1 := B1.alloc (.cells #[.int .u64 t0, .int .u64 t1] 31)
  replace B2 := B2.alloc (.cells #[.int .u64 t0, .int .u64 t1] 31)
  replace k7 := k7.alloc (.cells #[.int .u64 t0, .int .u64 t1] 31)
  generalize w7.alloc (.cells #[.int .u64 t0, .int .u64 t1] 31) = w8 at *
  generalize w7.heap.size = m3 at *
  refine (hF2.out w8 k7).mono ?_
  rintro e w9 ⟨rfl, k9⟩
  replace o1 := ownsRow_calm o1 k9
  replace o2 := ownsRow_calm o2 k9
  replace B1 := B1.kept k9 id
  replace B2 := B2.kept k9 id
  replace B3 := B3.kept k9 id
  replace k9 : Kept (fun _ => False) w w9 := k7.trans k9 (fun _ _ f => f)
  clear hF2 k7
  have hs : ((s0 : Int) == (s0 : Int)) = true := by simp
  have hs' : ((s1 : Int) == (s1 : Int)) = true := by simp
  have ht : ((t0 : Int) == (t0 : Int)) = true := by simp
  have ht' : ((t1 : Int) == (t1 : Int)) = true := by simp
  have he1 : (e1 == e1) = true := by simp
  have he2 : (e2 == e2) = true := by simp
  have B4 := Box.new w9 t0 t1
  replace o1 := ownsRow_calm o1 ((Kept.refl _ w9).alloc (.cells #[.int .u64 t0, .int .u64 t1] 31))
  replace o2 := ownsRow_calm o2 ((Kept.refl _ w9).alloc (.cells #[.int .u64 t0, .int .u64 t1] 31))
  replace B1 := B1.alloc (.cells #[.int .u64 t0, .int .u64 t1] 31)
  replace B2 := B2.alloc (.cells #[.int .u64 t0, .int .u64 t1] 31)
  replace B3 := B3.alloc (.cells #[.int .u64 t0, .int .u64 t1] 31)
  have x0 := B1.c0; have x1 := B1.c1; have x2 := B2.c0; have x3 := B2.c1; have x4 := B3.c0; have x5 := B3.c1; have x6 := B4.c0; have x7 := B4.c1
  simp only at x0 x1 x2 x3 x4 x5 x6 x7
  have k10 := k9.alloc (.cells #[.int .u64 t0, .int .u64 t1] 31)
  go_wp2_with fail
  clear x0 x1 x2 x3 x4 x5 x6 x7 B1 B2 B3 B4
  generalize w9.alloc (.cells #[.int .u64 t0, .int .u64 t1] 31) = w10 at *
  refine (whole_true _ g1 c1 la n ca xs w10 (HIX.out _ k10) hn o1).mono ?_
  rintro e w11 ⟨rfl, k11⟩
  replace o2 := ownsRow_calm o2 k11
  replace k11 : Kept (fun _ => False) w w11 := k10.trans k11 (fun _ _ f => f)
  go_wp2_with fail
  refine (whole_true _ g2 c2 lb m cb ys w11 (HIY.out _ k11) hm o2).mono ?_
  rintro e w12 ⟨rfl, k12⟩
  go_wp2
  go_ret
  exact ⟨rfl, k11.trans k12 (fun _ _ f => f)⟩
end Go.Proofs.YtbbllmhnhhbpiaaDoor
