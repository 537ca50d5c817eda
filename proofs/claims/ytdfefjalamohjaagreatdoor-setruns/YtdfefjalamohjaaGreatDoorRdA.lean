/- What stands below and above a key in a list that rises. No program is named here. The document's Do. -/
import Derived.Test.YtdfefjalamohjaaGreatDoorSeD
import Derived.Test.YtdfefjalamohjaaGreatDoorSeL
namespace Go.Proofs.YtdfefjalamohjaaGreatDoor
open Go.RowKit
set_option linter.unusedVariables false
set_option linter.unusedSimpArgs false

def lessM (l : List Int) (x : Int) : List Int := l.filter (fun z => decide (z < x))
def moreM (l : List Int) (x : Int) : List Int := l.filter (fun z => decide (x < z))
theorem none_less {l : List Int} {x : Int} (h : ∀ z ∈ l, x ≤ z) : lessM l x = [] ∧ atS l x = 0 := by
  constructor
  · unfold lessM
    rw [List.filter_eq_nil_iff]
    intro z hz
    have := h z hz
    simp; omega
  · unfold atS
    rw [List.countP_eq_zero]
    intro z hz
    have := h z hz
    simp; omega
theorem all_more {l : List Int} {x : Int} (h : ∀ z ∈ l, x < z) : moreM l x = l := by
  unfold moreM
  rw [List.filter_eq_self]
  intro z hz
  simpa using h z hz
theorem less_take {l : List Int} (h : l.Pairwise (· < ·)) (x : Int) : l.take (atS l x) = lessM l x := by
  induction l with
  | nil => rfl
  | cons a l ih =>
    rw [List.pairwise_cons] at h
    by_cases ha : a < x
    · have e1 : atS (a :: l) x = atS l x + 1 := by unfold atS; rw [List.countP_cons_of_pos (by simpa using ha)]
      have e2 : lessM (a :: l) x = a :: lessM l x := by unfold lessM; rw [List.filter_cons_of_pos (by simpa using ha)]
      rw [e1, e2, List.take_succ_cons, ih h.2]
    · have hall : ∀ z ∈ a :: l, x ≤ z := fun z hz => by
        rcases List.mem_cons.1 hz with rfl | hz
        · omega
        · have := h.1 z hz; omega
      rw [(none_less hall).1, (none_less hall).2]
      rfl
theorem more_drop {l : List Int} (h : l.Pairwise (· < ·)) (x : Int) : l.drop (atS l x + (if l.contains x = true then 1 else 0)) = moreM l x := by
  induction l with
  | nil => rfl
  | cons a l ih =>
    rw [List.pairwise_cons] at h
    by_cases ha : a < x
    · have e1 : atS (a :: l) x = atS l x + 1 := by unfold atS; rw [List.countP_cons_of_pos (by simpa using ha)]
      have e2 : moreM (a :: l) x = moreM l x := by unfold moreM; rw [List.filter_cons_of_neg (by simp; omega)]
      have e3 : (a :: l).contains x = l.contains x := by
        have : (x == a) = false := by simp; omega
        rw [List.contains_cons, this, Bool.false_or]
      rw [e1, e2, e3, Nat.add_right_comm, List.drop_succ_cons, ih h.2]
    · have hall : ∀ z ∈ a :: l, x ≤ z := fun z hz => by
        rcases List.mem_cons.1 hz with rfl | hz
        · omega
        · have := h.1 z hz; omega
      rw [(none_less hall).2]
      by_cases he : a = x
      · subst he
        have e3 : (a :: l).contains a = true := by simp
        have e2 : moreM (a :: l) a = moreM l a := by unfold moreM; rw [List.filter_cons_of_neg (by simp)]
        rw [e3, e2, all_more h.1]
        rfl
      · have hall2 : ∀ z ∈ a :: l, x < z := fun z hz => by
          rcases List.mem_cons.1 hz with rfl | hz
          · omega
          · have := h.1 z hz; omega
        have e3 : (a :: l).contains x = false := by
          rw [Bool.eq_false_iff]
          intro hc
          have hm : x ∈ a :: l := by simpa using hc
          have := hall2 x hm
          omega
        rw [e3, all_more hall2]
        rfl
/-- What the document's Do says, in its own words. -/
def doR (l : List Int) (n : Int) (d : Dd) : List Int × List Int :=
  if d.op = 1 then (if l.contains d.x = true then (l, [0]) else if (l.length : Int) = n then (l, [2]) else (lessM l d.x ++ [d.x] ++ moreM l d.x, [1]))
  else if d.op = 2 then (if l.contains d.x = true then (lessM l d.x ++ moreM l d.x, [1]) else (l, [0]))
  else if d.op = 3 then (if l.contains d.x = true then (l, [1]) else (l, [0]))
  else if d.op = 4 then (if l = [] then (l, [0]) else (l, [1, l.getD 0 0]))
  else (l, [(l.length : Int)])
theorem doR_doS {l : List Int} (h : risesB l = true) (n : Int) (d : Dd) : doR l n d = doS l n d := by
  have hp := rises_pairwise h
  have h1 := less_take hp d.x
  have h2 := more_drop hp d.x
  unfold doR doS
  by_cases hc : l.contains d.x = true
  · rw [if_pos hc] at h2
    rw [h1, h2]
    simp only [if_pos hc]
  · rw [if_neg hc, Nat.add_zero] at h2
    rw [h1, h2]
    simp only [if_neg hc]
    simp
theorem less_snoc (l : List Int) (x z : Int) : lessM (l ++ [z]) x = if z < x then lessM l x ++ [z] else lessM l x := by
  unfold lessM
  rw [List.filter_append]
  by_cases h : z < x
  · simp [h]
  · simp [h]
theorem more_snoc (l : List Int) (x z : Int) : moreM (l ++ [z]) x = if x < z then moreM l x ++ [z] else moreM l x := by
  unfold moreM
  rw [List.filter_append]
  by_cases h : x < z
  · simp [h]
  · simp [h]
theorem contains_snoc (l : List Int) (x z : Int) : (l ++ [z]).contains x = (l.contains x || decide (z = x)) := by
  have e : ([z] : List Int).contains x = decide (z = x) := by
    rw [Bool.eq_iff_iff]
    simp only [List.contains_iff_mem, List.mem_singleton, decide_eq_true_eq]
    exact ⟨fun h => h.symm, fun h => h.symm⟩
  rw [← e, Bool.eq_iff_iff]
  simp only [Bool.or_eq_true, List.contains_iff_mem, List.mem_append]
theorem less_le (l : List Int) (x : Int) : (lessM l x).length ≤ l.length := List.length_filter_le _ _
theorem more_le (l : List Int) (x : Int) : (moreM l x).length ≤ l.length := List.length_filter_le _ _
end Go.Proofs.YtdfefjalamohjaaGreatDoor

namespace Go.Proofs.YtdfefjalamohjaaGreatDoor
open Go.RowKit
set_option linter.unusedVariables false
set_option linter.unusedSimpArgs false
attribute [local go_sem ↓] Go.wp_at_zero Go.wp_at_succ

abbrev lstI (v : Value) (zs : List Int) : It := ownI 2 1 v zs.length (xC zs)
section
variable {o0 w : World} {R its : List It} {v : Value} {xs zs : List Int}
theorem st_xin {la : Option Addr} {n lc : Nat} (h : St o0 its w) (i : Nat) (hi : its[i]? = some (ownI 2 1 (.slice la n lc) n (xC zs))) (hn : n = zs.length) : XIn w la n zs := by
  subst hn
  obtain ⟨la', lc', e, hx, _⟩ := own_xin (show w.ownsRow 0 2 1 (.slice la zs.length lc) zs.length (xC zs) from h.get i hi)
  simp only [Value.slice.injEq] at e
  obtain ⟨rfl, _, rfl⟩ := e
  exact hx
theorem lst_new (h : St o0 its w) (zs : List Int) (hm : zs.length ≤ maxLen) : St o0 (lstI (.slice (some ⟨w.heap.size, 0, none⟩) zs.length zs.length) zs :: its) (w.alloc (.cells (xC zs).toArray 2)) := h.new64 zs hm
theorem lst_nil (h : St o0 its w) : St o0 (lstI (.slice none 0 0) [] :: its) w := h.own (Kept.refl _ _) (World.ownsRow_nil _ _ _ _)
/-- append(v, z), z laid in a new block first. -/
theorem wpList_app1_st {ops : Array Oper} {rest : List Oper} {o : Oper} {a : Act} {Q : Exit → Act → World → Prop} (h : St o0 (lstI v xs :: R) w) (hgd : o.guard = none) (s x : Operand)
    (ho : o.op = .call { callee := .builtin .append, args := #[s, x], argTypes := #[24, 24] }) (hs : a.eval s = v) (z : Int) (hx : a.eval x = .slice (some ⟨w.heap.size, 0, none⟩) 1 1)
    (hsm : (xs.length + 1) * 8 ≤ 140737488355328)
    (hk : ∀ v' w', St o0 (lstI v' (xs ++ [z]) :: R) w' → wpList Tryz.prog ops Q rest (a.put o.dst v') w') :
    wpList Tryz.prog ops Q (o :: rest) a (w.alloc (.cells #[.int .i64 z] 2)) := by
  have p0 : (w.alloc (.cells #[.int .i64 z] 2)).ownsRow 0 2 1 v xs.length (xC xs) := World.ownsRow.alloc (show w.ownsRow 0 2 1 v xs.length (xC xs) from h.get 0 rfl) _
  refine wpList_append_one _ hgd s x ho v xs.length (xC xs) hs p0 ⟨w.heap.size, 0, none⟩ z hx (cell_one_new w (.int .i64 z) 2 0 _ rfl) (by unfold maxLen; omega) hsm (fun g cap w' h1 h2 h3 => hk _ _ ?_)
  have s1 := h.ownGrow 0 rfl h1 (((Kept.refl _ w).alloc (.cells #[.int .i64 z] 2)).grown h2 (fun k e => .inl e)) (by
    rcases h3 with e | e
    · exact .inl e
    · exact .inr ⟨_, e, by rw [alloc_size]; omega⟩)
  have e1 : (xs ++ [z]).length = xs.length + 1 := by simp
  have e2 : xC (xs ++ [z]) = xC xs ++ [.int .i64 z] := by simp [xC]
  show St o0 (ownI 2 1 _ (xs ++ [z]).length (xC (xs ++ [z])) :: _) _
  rw [e1, e2]
  exact s1
/-- append(v, l...) -/
theorem wpList_app_st {ops : Array Oper} {rest : List Oper} {o : Oper} {a : Act} {Q : Exit → Act → World → Prop} (h : St o0 (lstI v xs :: R) w) (hgd : o.guard = none) (s x : Operand)
    (ho : o.op = .call { callee := .builtin .append, args := #[s, x], argTypes := #[24, 24] }) (hs : a.eval s = v)
    (la : Option Addr) (m c : Nat) (hx : a.eval x = .slice la m c) (hl : XIn w la m zs) (h0 : la = none → m = 0 ∧ c = 0)
    (hsm : (xs.length + zs.length) * 8 ≤ 140737488355328)
    (hk : ∀ v' w', St o0 (lstI v' (xs ++ zs) :: R) w' → wpList Tryz.prog ops Q rest (a.put o.dst v') w') :
    wpList Tryz.prog ops Q (o :: rest) a w := by
  obtain ⟨i0, hi0, hz0, hz1, hz2⟩ := info_parts Tryz.infoX
  have p0 : w.ownsRow 0 2 1 v xs.length (xC xs) := h.get 0 rfl
  have hm := hl.1
  cases la with
  | none =>
    obtain ⟨rfl, rfl⟩ := h0 rfl
    obtain rfl : zs = [] := List.length_eq_zero_iff.1 hl.1.symm
    exact wpList_append_own_none hgd s x 24 ho 0 2 i0 1 Tryz.underlying24 hi0 v _ _ hs p0 hx (hk v w (by rw [List.append_nil]; exact h))
  | some ad =>
    refine wpList_append_own_at w hgd s x 24 ho 0 2 i0 _ 1 8 Tryz.underlying24 hi0 hz0 hz1 hz2 rfl (by omega) v _ _ hs p0 ad m c (xC zs) hx (by rw [xC_length, ← hl.1, Nat.mul_one]) ?_ (xC_one zs) (by unfold maxLen; omega) (by omega) (Nat.zero_le _) (fun v' w' h1 h2 _ h3 => hk _ _ ?_)
    · intro j u hu
      have hj := (List.getElem?_eq_some_iff.1 hu).1
      rw [xC_length, ← hl.1] at hj
      obtain ⟨g, off, e, hc⟩ := hl.2 (by omega)
      simp only [Option.some.injEq] at e
      subst e
      rw [Addr.add_lit, hc j hj]
      rw [xC_at zs j (by rw [← hl.1]; exact hj)] at hu
      exact hu
    · have s1 := h.ownGrow 0 rfl h1 ((Kept.refl _ w).grown h2 (fun k e => .inl e)) (by
        rcases h3 with e | e
        · exact .inl e
        · exact .inr ⟨_, e, Nat.le_refl _⟩)
      have e1 : (xs ++ zs).length = xs.length + m := by rw [List.length_append, hm]
      show St o0 (ownI 2 1 _ (xs ++ zs).length (xC (xs ++ zs)) :: _) _
      rw [e1, xC_append]
      exact s1
/-- append(v, l...), as one step of a region that draws its order. -/
theorem step_app_st {ops : Array Oper} {o : Oper} {a : Act} {K : Act → World → Prop} {Q : Exit → Act → World → Prop} {E : Prop} (h : St o0 (lstI v xs :: R) w) (hgd : o.guard = none) (s x : Operand)
    (ho : o.op = .call { callee := .builtin .append, args := #[s, x], argTypes := #[24, 24] }) (hs : a.eval s = v)
    (la : Option Addr) (m c : Nat) (hx : a.eval x = .slice la m c) (hl : XIn w la m zs) (h0 : la = none → m = 0 ∧ c = 0)
    (hsm : (xs.length + zs.length) * 8 ≤ 140737488355328)
    (hk : ∀ v' w', St o0 (lstI v' (xs ++ zs) :: R) w' → K (a.put o.dst v') w') :
    if Region.wanted o (yielded ops a.tmps) = true then Oper.wp Tryz.prog o a w K Q else E := by
  have hw : Region.wanted o (yielded ops a.tmps) = true := by simp [Region.wanted, hgd]
  rw [if_pos hw]
  obtain ⟨i0, hi0, hz0, hz1, hz2⟩ := info_parts Tryz.infoX
  have p0 : w.ownsRow 0 2 1 v xs.length (xC xs) := h.get 0 rfl
  have hm := hl.1
  cases la with
  | none =>
    obtain ⟨rfl, rfl⟩ := h0 rfl
    obtain rfl : zs = [] := List.length_eq_zero_iff.1 hl.1.symm
    have hrun := run_append_owned_none (P := Tryz.prog) (w := w) 0 24 o.type 2 i0 1 Tryz.underlying24 hi0 v _ _ p0
    unfold Oper.wp
    simp [execOp, ho, resolve, invoke, builtin, hs, hx, hrun, Result.andThen]
    exact hk v w (by rw [List.append_nil]; exact h)
  | some ad =>
    obtain ⟨v', w', hr, h1, h2, -, h3⟩ := run_append_own_at (P := Tryz.prog) w 0 24 o.type 2 i0 _ 1 8 Tryz.underlying24 hi0 hz0 hz1 hz2 rfl (by omega) v _ _ p0 ad m c (xC zs) (by rw [xC_length, ← hl.1, Nat.mul_one]) (by
      intro j u hu
      have hj := (List.getElem?_eq_some_iff.1 hu).1
      rw [xC_length, ← hl.1] at hj
      obtain ⟨g, off, e, hc⟩ := hl.2 (by omega)
      simp only [Option.some.injEq] at e
      subst e
      rw [Addr.add_lit, hc j hj]
      rw [xC_at zs j (by rw [← hl.1]; exact hj)] at hu
      exact hu) (xC_one zs) (by unfold maxLen; omega) (by omega) (Nat.zero_le _)
    unfold Oper.wp execOp
    simp only [ho, resolve, invoke, builtin, Sem.run_bind, Sem.run_pure, Result.andThen_ok, List.map_toArray, List.map_cons, List.map_nil, hs, hx, hr]
    refine hk v' w' ?_
    have s1 := h.ownGrow 0 rfl h1 ((Kept.refl _ w).grown h2 (fun k e => .inl e)) (by
      rcases h3 with e | e
      · exact .inl e
      · exact .inr ⟨_, e, Nat.le_refl _⟩)
    have e1 : (xs ++ zs).length = xs.length + m := by rw [List.length_append, hm]
    show St o0 (ownI 2 1 _ (xs ++ zs).length (xC (xs ++ zs)) :: _) _
    rw [e1, xC_append]
    exact s1
theorem xin_new (h : St o0 its w) (z : Int) : XIn (w.alloc (.cells #[.int .i64 z] 2)) (some ⟨w.heap.size, 0, none⟩) 1 [z] := st_xin (lst_new h [z] (by unfold maxLen; simp)) 0 rfl rfl
theorem lst_under (h : St o0 (lstI v xs :: R) w) (z : Int) : St o0 (lstI v xs :: lstI (.slice (some ⟨w.heap.size, 0, none⟩) 1 1) [z] :: R) (w.alloc (.cells #[.int .i64 z] 2)) := (lst_new h [z] (by unfold maxLen; simp)).perm (List.Perm.swap _ _ _)
theorem lst_drop1 {A B : It} (h : St o0 (A :: B :: R) w) : St o0 (A :: R) w := (h.perm (List.Perm.swap _ _ _)).pop
end
theorem doR_put {l : List Int} {n a b x y : Int} (h : l.contains x = false) (hn : ¬ (l.length : Int) = n) : doR l n ⟨1, a, b, x, y⟩ = (lessM l x ++ [x] ++ moreM l x, [1]) := by
  unfold doR
  simp only [h, Bool.false_eq_true, if_false, if_true, if_neg hn]
theorem doR_full {l : List Int} {n a b x y : Int} (h : l.contains x = false) (hn : (l.length : Int) = n) : doR l n ⟨1, a, b, x, y⟩ = (l, [2]) := by
  unfold doR
  simp only [h, Bool.false_eq_true, if_false, if_true, if_pos hn]
/-- How the document's Do ends. -/
def rDoE (l : List Int) (n : Int) (d : Dd) (w : World) (e : Ending) (w' : World) : Prop :=
  if okS l n d = true then ∃ v t, e = .returned (.tuple #[v, t, .bool true]) ∧ St w [lstI t (doS l n d).2, lstI v (doS l n d).1] w'
  else e = .returned (.tuple #[.slice none 0 0, .slice none 0 0, .bool false]) ∧ Kept (fun _ => False) w w'
set_option maxRecDepth 100000 in
set_option maxHeartbeats 8000000 in
theorem rDo_any (la : Option Addr) (m lc : Nat) (l : List Int) (n : Int) (d : Dd) (w : World) (hX : XIn w la m l) (hnil : la = none → m = 0 ∧ lc = 0) : Calls Tryz.prog 22 #[.slice la m lc, .int .i64 n, d.val] w (rDoE l n d w) := by
  have hml := hX.1
  have hR := fun W => rRoom_any n W
  have hB := fun W => rMay_any n d W
  obtain ⟨op, a, b, x, y⟩ := d
  have s1 := (St.nil w).box #[.int .i64 op, .int .i64 a, .int .i64 b, .int .i64 x, .int .i64 y] 40
  have HN : Hid (okS l n ⟨op, a, b, x, y⟩ = false → ∀ w', Kept (fun _ => False) w w' → rDoE l n ⟨op, a, b, x, y⟩ w (.returned (.tuple #[.slice none 0 0, .slice none 0 0, .bool false])) w') := hid (fun h w' k => by
    unfold rDoE
    rw [if_neg (by rw [h]; decide)]
    exact ⟨rfl, k⟩)
  have HY : Hid (okS l n ⟨op, a, b, x, y⟩ = true → ∀ v t w' R r1 r2, doR l n ⟨op, a, b, x, y⟩ = (r1, r2) → St w (lstI t r2 :: lstI v r1 :: R) w' → rDoE l n ⟨op, a, b, x, y⟩ w (.returned (.tuple #[v, t, .bool true])) w') := hid (fun h v t w' R r1 r2 hr s => by
    unfold rDoE
    rw [if_pos h]
    have h9 := h
    unfold okS at h9
    simp only [Bool.and_eq_true] at h9
    rw [doR_doS h9.2.2.2] at hr
    rw [hr]
    exact ⟨v, t, rfl, St.cut (A := [_, _]) (B := R) s⟩)
  have HD : Hid (doR l n ⟨op, a, b, x, y⟩ = doR l n ⟨op, a, b, x, y⟩) := hid rfl
  unfold Dd.val at hB ⊢
  simp only at hB ⊢
  have HM : Hid (mayS ⟨op, a, b, x, y⟩ = mayS ⟨op, a, b, x, y⟩) := hid rfl
  generalize hmay : mayS ⟨op, a, b, x, y⟩ = mm at *
  generalize e1 : w.alloc (.cells #[.int .i64 op, .int .i64 a, .int .i64 b, .int .i64 x, .int .i64 y] 40) = w1 at *
  generalize eM : w.heap.size = M at *
  have c0 : w1.cell? ⟨M, 0, none⟩ = some (.int .i64 op) := s1.cell 0 rfl 0
  have c1 : w1.cell? ⟨M, 1, none⟩ = some (.int .i64 a) := s1.cell 0 rfl 1
  have c2 : w1.cell? ⟨M, 2, none⟩ = some (.int .i64 b) := s1.cell 0 rfl 2
  have c3 : w1.cell? ⟨M, 3, none⟩ = some (.int .i64 x) := s1.cell 0 rfl 3
  have c4 : w1.cell? ⟨M, 4, none⟩ = some (.int .i64 y) := s1.cell 0 rfl 4
  have HS1 := hid s1
  have HX := hid hX
  have HML := hid hml
  have HNil := hid hnil
  have hr0 : 0 ≤ roomS n := (roomS_le n).1
  have HOK : Hid (okS l n ⟨op, a, b, x, y⟩ = (decide (0 < roomS n) && (decide ((l.length : Int) ≤ n) && (mm && risesB l)))) := hid (by unfold okS; rw [hmay])
  have HRP : Hid (0 < roomS n → n ≤ 60) := hid (fun h => (roomS_pos h).2.1)
  have HOp : Hid (mm = true → op = 1 ∨ op = 2 ∨ op = 3 ∨ op = 4 ∨ op = 5) := hid (fun h => may_op (d := ⟨op, a, b, x, y⟩) (by rw [hmay]; exact h))
  clear hX hml hnil s1 hmay HM HD
  generalize rDoE l n ⟨op, a, b, x, y⟩ w = QQ at *
  generalize roomS n = r at *
  by_cases h0 : 0 < r
  case neg =>
    have hok : okS l n ⟨op, a, b, x, y⟩ = false := by rw [HOK.out]; simp [h0]
    have HQ := hid (HN.out hok)
    have t0 : (r == 0) = true := by simp; omega
    clear hok HOK HN HY h0 HRP
    go_enter Tryz.func22, Tryz.ntmps22
    go_wp2_with (first | simp only [e1, eM] | (go_at_call 24; refine (hB _).mono ?_; rintro e w2 ⟨rfl, k2⟩) | (go_at_call 12; refine (hR _).mono ?_; rintro e w' ⟨rfl, rfl⟩))
    go_ret3
    exact HQ.out _ (HS1.out.calm k2).same
  have t0 : (r == 0) = false := by simp; omega
  by_cases h1 : (m : Int) ≤ n
  case neg =>
    have hok : okS l n ⟨op, a, b, x, y⟩ = false := by rw [HOK.out]; have := HML.out; simp; omega
    have HQ := hid (HN.out hok)
    have t1 : decide (n < (m : Int)) = true := by simp; omega
    clear hok HOK HN HY h0 h1 HRP
    go_enter Tryz.func22, Tryz.ntmps22
    go_wp2_with (first | simp only [e1, eM] | (go_at_call 24; refine (hB _).mono ?_; rintro e w2 ⟨rfl, k2⟩) | (go_at_call 12; refine (hR _).mono ?_; rintro e w' ⟨rfl, rfl⟩))
    go_ret3
    exact HQ.out _ (HS1.out.calm k2).same
  have t1 : decide (n < (m : Int)) = false := by simp; omega
  cases mm with
  | false =>
    have hok : okS l n ⟨op, a, b, x, y⟩ = false := by rw [HOK.out]; simp
    have HQ := hid (HN.out hok)
    clear hok HOK HN HY h0 h1 HRP
    go_enter Tryz.func22, Tryz.ntmps22
    go_wp2_with (first | simp only [e1, eM] | (go_at_call 24; refine (hB _).mono ?_; rintro e w2 ⟨rfl, k2⟩) | (go_at_call 12; refine (hR _).mono ?_; rintro e w' ⟨rfl, rfl⟩))
    go_ret3
    exact HQ.out _ (HS1.out.calm k2).same
  | true =>
  have hm6 : m ≤ 60 := by have := HRP.out h0; omega
  replace HN := hid (show risesB l = false → _ from fun h => HN.out (by rw [HOK.out, h]; simp))
  have HOK2 : Hid (risesB l = true → okS l n ⟨op, a, b, x, y⟩ = true) := hid (fun h => by rw [HOK.out, h]; have := HML.out; simp; omega)
  replace HY := hid (fun h => HY.out (HOK2.out h))
  clear HOK HOK2 HRP
  go_enter Tryz.func22, Tryz.ntmps22
  go_upto_region 7 with (first | simp only [e1, eM] | (go_at_call 24; refine (hB _).mono ?_; rintro e w2 ⟨rfl, k2⟩) | (go_at_call 12; refine (hR _).mono ?_; rintro e w' ⟨rfl, rfl⟩))
  have s2 := lst_nil (lst_nil (HS1.out.calm k2))
  have HS2 := hid s2
  clear HS1 s2 k2 c0 c1 c2 c3 c4 e1 eM t0 t1 hB hR
  go_wp2
  go_loopw [10, 11, 12, 13] (fun bv lv mv iv wr => ∃ j : Nat, j ≤ m ∧ iv = .int .i64 j ∧ bv = .bool ((l.take j).contains x) ∧ risesB (l.take j) = true ∧ St w [lstI lv (lessM (l.take j) x), lstI mv (moreM (l.take j) x), boxI M #[.int .i64 op, .int .i64 a, .int .i64 b, .int .i64 x, .int .i64 y] 40] wr) (fun _ _ _ iv _ => m - (intOf iv).toNat)
  case atStart => exact ⟨0, by omega, rfl, rfl, rfl, HS2.out⟩
  case round =>
    obtain ⟨j, hj, rfl, rfl, hri, hs⟩ := hrel
    by_cases hlt : j < m
    · obtain ⟨g, o, rfl⟩ := HX.out.addr (by omega)
      have hjl : j < l.length := by have := HML.out; omega
      have HC : Hid (∀ (W : World) (it1 it2 : It), St w [it1, it2, boxI M #[.int .i64 op, .int .i64 a, .int .i64 b, .int .i64 x, .int .i64 y] 40] W → W.cell? ⟨g, o + j, none⟩ = some (.int .i64 (l.getD j 0)) ∧ W.cell? ⟨M, 3, none⟩ = some (.int .i64 x) ∧ (0 < j → W.cell? ⟨g, o + (j - 1), none⟩ = some (.int .i64 (l.getD (j - 1) 0)))) := hid (fun W it1 it2 h => ⟨(HX.out.kept h.same).cell hlt, h.cell 2 rfl 3, fun h0 => (HX.out.kept h.same).cell (by omega)⟩)
      have hts := take_snoc l hjl
      have HRN : Hid (0 < j → ¬ l.getD (j - 1) 0 < l.getD j 0 → risesB l = false) := hid (fun h0 hn => by
        rw [Bool.eq_false_iff]
        intro hr
        have h1 := rises_pre hr (List.take_prefix (j + 1) l)
        rw [hts, rises_snoc _ _ hri] at h1
        have hlen : (l.take j).length = j := by simp; omega
        have hne : (l.take j).isEmpty = false := by rw [Bool.eq_false_iff]; intro he; rw [List.isEmpty_iff] at he; rw [he] at hlen; simp at hlen; omega
        rw [hne, hlen, Bool.false_or, decide_eq_true_eq] at h1
        apply hn
        have : (l.take j).getD (j - 1) 0 = l.getD (j - 1) 0 := by simp only [List.getD_eq_getElem?_getD]; rw [List.getElem?_take_of_lt (by omega)]
        rw [this] at h1
        exact h1)
      have HRY : Hid ((0 < j → l.getD (j - 1) 0 < l.getD j 0) → risesB (l.take (j + 1)) = true) := hid (fun h => by
        rw [hts, rises_snoc _ _ hri]
        by_cases h0 : 0 < j
        · have hlen : (l.take j).length = j := by simp; omega
          have : (l.take j).getD (j - 1) 0 = l.getD (j - 1) 0 := by simp only [List.getD_eq_getElem?_getD]; rw [List.getElem?_take_of_lt (by omega)]
          rw [hlen, this, decide_eq_true (h h0), Bool.or_true]
        · obtain rfl : j = 0 := by omega
          rfl)
      have HL1 : Hid (lessM (l.take (j + 1)) x = if l.getD j 0 < x then lessM (l.take j) x ++ [l.getD j 0] else lessM (l.take j) x) := hid (by rw [hts, less_snoc])
      have HL2 : Hid (moreM (l.take (j + 1)) x = if x < l.getD j 0 then moreM (l.take j) x ++ [l.getD j 0] else moreM (l.take j) x) := hid (by rw [hts, more_snoc])
      have HL3 : Hid ((l.take (j + 1)).contains x = ((l.take j).contains x || decide (l.getD j 0 = x))) := hid (by rw [hts, contains_snoc])
      have hn1 : (lessM (l.take j) x).length ≤ 60 := by have := less_le (l.take j) x; rw [List.length_take] at this; omega
      have hn2 : (moreM (l.take j) x).length ≤ 60 := by have := more_le (l.take j) x; rw [List.length_take] at this; omega
      have hj0 : (0 : Int) ≤ (j : Int) := by omega
      have hj1 : (j : Int) < (m : Int) := by omega
      have hj6 : (j : Int) ≤ 60 := by omega
      have hb1 := fun W z => buildX1 W z
      generalize lessM (l.take j) x = L at *
      generalize moreM (l.take j) x = Mo at *
      generalize (l.take j).contains x = bb at *
      generalize l.getD j 0 = z at *
      generalize l.getD (j - 1) 0 = p at *
      have HJ := hid hlt
      have HJ2 := hid hjl
      have HSr := hid hs
      obtain ⟨z1, x1, p1⟩ := HC.out _ _ _ hs.drew
      obtain ⟨z2, x2, -⟩ := HC.out _ _ _ hs.drew.drew
      clear hri hts hs hlt hjl hj
      by_cases h0 : 0 < j
      · have d0 : decide ((0 : Int) < (j : Int)) = true := by simp; omega
        have d0n : decide (0 < j) = true := by simp; omega
        have en : ((j : Int) - 1).toNat = j - 1 := by omega
        have b0 : (0 : Int) ≤ (j : Int) - 1 := by omega
        have b1 : (j : Int) - 1 < (m : Int) := by omega
        replace p1 := p1 h0
        by_cases hpz : p < z
        · have d1 : decide (z ≤ p) = false := by simp; omega
          have HR := hid (HRY.out (fun _ => hpz))
          clear HRN HRY hpz h0
          by_cases hz1 : z < x
          · have q1 : decide (z < x) = true := by simp; omega
            have q2 : decide (x < z) = false := by simp; omega
            have q3 : (z == x) = false := by simp; omega
            have q4 : decide (z = x) = false := by simp; omega
            rw [if_pos (by omega)] at HL1
            rw [if_neg (by omega)] at HL2
            rw [q4] at HL3
            clear q4 hz1
            have HSd := hid HSr.out.drew.drew
            go_upto_region 10 with fail
            go_region
            go_upto_region 12 with fail
            go_region
            go_upto_region 14 with (first | simp only [hb1] | (at_builtin; refine wpList_app1_st HSd.out rfl (.tmp 60) (.tmp 65) rfl rfl z rfl (by omega) ?_; intro v4 w4 h4; have HS4 := hid h4; clear h4))
            obtain ⟨z3, x3, -⟩ := HC.out _ _ _ HS4.out.drew
            obtain ⟨z4, x4, -⟩ := HC.out _ _ _ HS4.out.drew.drew
            have HSe := hid HS4.out.drew.drew
            go_region
            go_upto_region 16 with fail
            cases bb
            all_goals
              go_region
              go_wp2
              go_roundw
              case rel => exact ⟨j + 1, by have := HJ.out; omega, by simp, by rw [HL3.out]; rfl, HR.out, by rw [HL1.out, HL2.out]; exact HSe.out⟩
              case measure => have := HJ.out; simp [intOf]; omega
          · by_cases hz2 : z = x
            · have q1 : decide (z < x) = false := by simp; omega
              have q2 : decide (x < z) = false := by simp; omega
              have q3 : (z == x) = true := by simp; omega
              have q4 : decide (z = x) = true := by simp; omega
              rw [if_neg (by omega)] at HL1
              rw [if_neg (by omega)] at HL2
              rw [q4] at HL3
              clear q4 hz1 hz2
              have HSd := hid HSr.out.drew.drew
              go_upto_region 10 with fail
              go_region
              go_upto_region 12 with fail
              go_region
              obtain ⟨z3, x3, -⟩ := HC.out _ _ _ HSd.out.drew
              obtain ⟨z4, x4, -⟩ := HC.out _ _ _ HSd.out.drew.drew
              have HSe := hid HSd.out.drew.drew
              go_upto_region 14 with fail
              go_region
              go_upto_region 16 with fail
              cases bb
              all_goals
                go_region
                go_wp2
                go_roundw
                case rel => exact ⟨j + 1, by have := HJ.out; omega, by simp, by rw [HL3.out]; rfl, HR.out, by rw [HL1.out, HL2.out]; exact HSe.out⟩
                case measure => have := HJ.out; simp [intOf]; omega
            · have q1 : decide (z < x) = false := by simp; omega
              have q2 : decide (x < z) = true := by simp; omega
              have q3 : (z == x) = false := by simp; omega
              have q4 : decide (z = x) = false := by simp; omega
              rw [if_neg (by omega)] at HL1
              rw [if_pos (by omega)] at HL2
              rw [q4] at HL3
              clear q4 hz1 hz2
              have HSd := hid HSr.out.drew.drew
              go_upto_region 10 with fail
              go_region
              go_upto_region 12 with fail
              go_region
              obtain ⟨z3, x3, -⟩ := HC.out _ _ _ HSd.out.drew
              go_upto_region 14 with fail
              go_region
              have HSp := hid (HSd.out.drew.perm (List.Perm.swap _ _ _))
              go_upto_region 16 with (first | simp only [hb1] | (at_builtin; refine wpList_app1_st HSp.out rfl (.tmp 74) (.tmp 79) rfl rfl z rfl (by omega) ?_; intro v4 w4 h4; have HS4 := hid (h4.perm (List.Perm.swap _ _ _)); clear h4))
              obtain ⟨z4, x4, -⟩ := HC.out _ _ _ HS4.out.drew
              have HSe := hid HS4.out.drew
              cases bb
              all_goals
                go_region
                go_wp2
                go_roundw
                case rel => exact ⟨j + 1, by have := HJ.out; omega, by simp, by rw [HL3.out]; rfl, HR.out, by rw [HL1.out, HL2.out]; exact HSe.out⟩
                case measure => have := HJ.out; simp [intOf]; omega
        · have d1 : decide (z ≤ p) = true := by simp; omega
          have HF := hid (HN.out (HRN.out h0 hpz))
          clear HRN HRY hpz h0
          go_upto_region 10 with fail
          go_region
          go_wp2
          go_ret3
          exact HF.out _ HSr.out.drew.same
      · have d0 : decide ((0 : Int) < (j : Int)) = false := by simp; omega
        have d0n : decide (0 < j) = false := by simp; omega
        have HR := hid (HRY.out (fun h => absurd h h0))
        clear HRN HRY h0 p1
        by_cases hz1 : z < x
        · have q1 : decide (z < x) = true := by simp; omega
          have q2 : decide (x < z) = false := by simp; omega
          have q3 : (z == x) = false := by simp; omega
          have q4 : decide (z = x) = false := by simp; omega
          rw [if_pos (by omega)] at HL1
          rw [if_neg (by omega)] at HL2
          rw [q4] at HL3
          clear q4 hz1
          have HSd := hid HSr.out.drew.drew
          go_upto_region 10 with fail
          go_region
          go_upto_region 12 with fail
          go_region
          go_upto_region 14 with (first | simp only [hb1] | (at_builtin; refine wpList_app1_st HSd.out rfl (.tmp 60) (.tmp 65) rfl rfl z rfl (by omega) ?_; intro v4 w4 h4; have HS4 := hid h4; clear h4))
          obtain ⟨z3, x3, -⟩ := HC.out _ _ _ HS4.out.drew
          obtain ⟨z4, x4, -⟩ := HC.out _ _ _ HS4.out.drew.drew
          have HSe := hid HS4.out.drew.drew
          go_region
          go_upto_region 16 with fail
          cases bb
          all_goals
            go_region
            go_wp2
            go_roundw
            case rel => exact ⟨j + 1, by have := HJ.out; omega, by simp, by rw [HL3.out]; rfl, HR.out, by rw [HL1.out, HL2.out]; exact HSe.out⟩
            case measure => have := HJ.out; simp [intOf]; omega
        · by_cases hz2 : z = x
          · have q1 : decide (z < x) = false := by simp; omega
            have q2 : decide (x < z) = false := by simp; omega
            have q3 : (z == x) = true := by simp; omega
            have q4 : decide (z = x) = true := by simp; omega
            rw [if_neg (by omega)] at HL1
            rw [if_neg (by omega)] at HL2
            rw [q4] at HL3
            clear q4 hz1 hz2
            have HSd := hid HSr.out.drew.drew
            go_upto_region 10 with fail
            go_region
            go_upto_region 12 with fail
            go_region
            obtain ⟨z3, x3, -⟩ := HC.out _ _ _ HSd.out.drew
            obtain ⟨z4, x4, -⟩ := HC.out _ _ _ HSd.out.drew.drew
            have HSe := hid HSd.out.drew.drew
            go_upto_region 14 with fail
            go_region
            go_upto_region 16 with fail
            cases bb
            all_goals
              go_region
              go_wp2
              go_roundw
              case rel => exact ⟨j + 1, by have := HJ.out; omega, by simp, by rw [HL3.out]; rfl, HR.out, by rw [HL1.out, HL2.out]; exact HSe.out⟩
              case measure => have := HJ.out; simp [intOf]; omega
          · have q1 : decide (z < x) = false := by simp; omega
            have q2 : decide (x < z) = true := by simp; omega
            have q3 : (z == x) = false := by simp; omega
            have q4 : decide (z = x) = false := by simp; omega
            rw [if_neg (by omega)] at HL1
            rw [if_pos (by omega)] at HL2
            rw [q4] at HL3
            clear q4 hz1 hz2
            have HSd := hid HSr.out.drew.drew
            go_upto_region 10 with fail
            go_region
            go_upto_region 12 with fail
            go_region
            obtain ⟨z3, x3, -⟩ := HC.out _ _ _ HSd.out.drew
            go_upto_region 14 with fail
            go_region
            have HSp := hid (HSd.out.drew.perm (List.Perm.swap _ _ _))
            go_upto_region 16 with (first | simp only [hb1] | (at_builtin; refine wpList_app1_st HSp.out rfl (.tmp 74) (.tmp 79) rfl rfl z rfl (by omega) ?_; intro v4 w4 h4; have HS4 := hid (h4.perm (List.Perm.swap _ _ _)); clear h4))
            obtain ⟨z4, x4, -⟩ := HC.out _ _ _ HS4.out.drew
            have HSe := hid HS4.out.drew
            cases bb
            all_goals
              go_region
              go_wp2
              go_roundw
              case rel => exact ⟨j + 1, by have := HJ.out; omega, by simp, by rw [HL3.out]; rfl, HR.out, by rw [HL1.out, HL2.out]; exact HSe.out⟩
              case measure => have := HJ.out; simp [intOf]; omega
    · have hz : ¬ (j : Int) < (m : Int) := by omega
      obtain rfl : j = m := by omega
      have htl : l.take j = l := by have := HML.out; rw [this]; exact List.take_length
      rw [htl] at hri hs
      rw [htl]
      have HYr := hid (HY.out hri)
      generalize hbb : l.contains x = bb at *
      have hcon := hid hbb
      clear hbb
      obtain ⟨l1, c1, e1, -, -, hn1⟩ := own_xin (show wr.ownsRow 0 2 1 _ (lessM l x).length (xC (lessM l x)) from hs.get 0 rfl)
      obtain ⟨l2, c2, e2, -, -, hn2⟩ := own_xin (show wr.ownsRow 0 2 1 _ (moreM l x).length (xC (moreM l x)) from hs.get 1 rfl)
      subst e1 e2
      have hb1 := fun W z => buildX1 W z
      have hb0 := fun W => buildX0 W
      have hk1 : (lessM l x).length ≤ 60 := by have := less_le l x; have := HML.out; omega
      have hk2 : (moreM l x).length ≤ 60 := by have := more_le l x; have := HML.out; omega
      have HN1 := hid hn1
      have HN2 := hid hn2
      have HSr := hid hs
      have HD : Hid (doR l n ⟨op, a, b, x, y⟩ = doR l n ⟨op, a, b, x, y⟩) := hid rfl
      generalize hL : lessM l x = L at *
      generalize hMo : moreM l x = Mo at *
      have HLq := hid hL
      have HMq := hid hMo
      clear hn1 hn2 hs hri htl HY HN hL hMo
      go_upto_region 17 with fail
      go_cut [14] from 91 (fun u14 wx => St w [lstI u14 (L ++ [x] ++ Mo), lstI (.slice l1 L.length c1) L, lstI (.slice l2 Mo.length c2) Mo, boxI M #[.int .i64 op, .int .i64 a, .int .i64 b, .int .i64 x, .int .i64 y] 40] wx)
      case first =>
        have hS0 := HSr.out
        have x0 : wr.cell? ⟨M, 3, none⟩ = some (.int .i64 x) := hS0.cell 2 rfl 3
        have S1 := lst_new hS0 [] (by unfold maxLen; simp)
        have x1 : (wr.alloc (.cells #[] 2)).cell? ⟨M, 3, none⟩ = some (.int .i64 x) := S1.cell 3 rfl 3
        have S2 := lst_under S1 x
        have S3 := lst_new (lst_new hS0 [x] (by unfold maxLen; simp)) [] (by unfold maxLen; simp)
        have HC3 : Hid (∀ (W : World) (its : List It) (k : Nat), St w its W → its[k]? = some (boxI M #[.int .i64 op, .int .i64 a, .int .i64 b, .int .i64 x, .int .i64 y] 40) → W.cell? ⟨M, 3, none⟩ = some (.int .i64 x)) := hid (fun W its k h hk => h.cell k hk 3)
        rw [alloc_size] at S2
        rw [alloc_size] at S3
        have HS1 := hid S1.drew
        have HS2 := hid S2.drew
        have HS3 := hid S3.drew
        clear S1 S2 S3 hS0
        go_region_law (first
          | (refine step_app_st HS1.out rfl (.tmp 91) (.tmp 92) rfl rfl l1 L.length c1 rfl (st_xin HS1.out 1 rfl rfl) HN1.out (by simp; omega) ?_; intro v4 w4 h4; have HA := hid h4; have x4 := HC3.out _ _ 3 h4 rfl; clear h4)
          | (refine step_app_st HS2.out rfl (.tmp 91) (.tmp 92) rfl rfl l1 L.length c1 rfl (st_xin HS2.out 2 rfl rfl) HN1.out (by simp; omega) ?_; intro v4 w4 h4; have HAB := hid h4; clear h4)
          | (refine step_app_st HS3.out rfl (.tmp 91) (.tmp 92) rfl rfl l1 L.length c1 rfl (st_xin HS3.out 2 rfl rfl) HN1.out (by simp; omega) ?_; intro v4 w4 h4; have HAB := hid h4; clear h4)
          | (refine step_app_st (lst_under HA.out x) rfl (.tmp 93) (.tmp 96) rfl rfl _ 1 1 rfl (st_xin (lst_under HA.out x) 1 rfl rfl) (fun e => by cases e) (by simp; omega) ?_; intro v5 w5 h5; have HF := hid h5; clear h5)
          | (refine step_app_st (lst_under HA.out x).drew rfl (.tmp 93) (.tmp 96) rfl rfl _ 1 1 rfl (st_xin (lst_under HA.out x).drew 1 rfl rfl) (fun e => by cases e) (by simp; omega) ?_; intro v5 w5 h5; have HF := hid h5; clear h5)
          | (refine step_app_st (lst_under HA.out.drew x) rfl (.tmp 93) (.tmp 96) rfl rfl _ 1 1 rfl (st_xin (lst_under HA.out.drew x) 1 rfl rfl) (fun e => by cases e) (by simp; omega) ?_; intro v5 w5 h5; have HF := hid h5; clear h5)
          | (refine step_app_st HAB.out rfl (.tmp 93) (.tmp 96) rfl rfl _ 1 1 rfl (st_xin HAB.out 1 rfl rfl) (fun e => by cases e) (by simp; omega) ?_; intro v5 w5 h5; have HF := hid h5; clear h5)
          | (refine step_app_st HAB.out.drew rfl (.tmp 93) (.tmp 96) rfl rfl _ 1 1 rfl (st_xin HAB.out.drew 1 rfl rfl) (fun e => by cases e) (by simp; omega) ?_; intro v5 w5 h5; have HF := hid h5; clear h5)
          | (refine step_app_st HF.out rfl (.tmp 97) (.tmp 98) rfl rfl l2 Mo.length c2 rfl (st_xin HF.out 3 rfl rfl) HN2.out (by simp; omega) ?_; intro v6 w6 h6; have HG := hid h6; clear h6)
          | (refine step_app_st HF.out.drew rfl (.tmp 97) (.tmp 98) rfl rfl l2 Mo.length c2 rfl (st_xin HF.out.drew 3 rfl rfl) HN2.out (by simp; omega) ?_; intro v6 w6 h6; have HG := hid h6; clear h6))
        all_goals
          go_wp2
          go_meet
          exact lst_drop1 HG.out
      case rest =>
        have HSc := hid hcut
        clear hcut HSr
        go_upto_region 20 with (first | simp only [hb0] | (at_builtin; refine wpList_app_st (lst_new HSc.out [] (by unfold maxLen; simp)) rfl (.tmp 100) (.tmp 101) rfl rfl l1 L.length c1 rfl (st_xin (lst_new HSc.out [] (by unfold maxLen; simp)) 2 rfl rfl) HN1.out (by simp; omega) ?_; intro v7 w7 h7; have HW7 := hid h7; clear h7) | (at_builtin; refine wpList_app_st HW7.out rfl (.tmp 102) (.tmp 103) rfl rfl l2 Mo.length c2 rfl (st_xin HW7.out 3 rfl rfl) HN2.out (by simp; omega) ?_; intro v8 w8 h8; have HW8 := hid h8; clear h8) | (at_builtin; refine wpList_app_st (lst_new HW8.out [] (by unfold maxLen; simp)) rfl (.tmp 105) (.tmp 106) rfl rfl la j lc rfl (HX.out.kept (lst_new HW8.out [] (by unfold maxLen; simp)).same) HNil.out (by have := HML.out; simp; omega) ?_; intro v9 w9 h9; have HW9 := hid h9; clear h9))
        have HW : Hid (St w [lstI v9 l, lstI v8 (L ++ Mo), lstI u14 (L ++ [x] ++ Mo), lstI (.slice l1 L.length c1) L, lstI (.slice l2 Mo.length c2) Mo, boxI M #[.int .i64 op, .int .i64 a, .int .i64 b, .int .i64 x, .int .i64 y] 40] w9) := hid HW9.out
        have hc0 : w9.cell? ⟨M, 0, none⟩ = some (.int .i64 op) := HW.out.cell 5 rfl 0
        have hop := HOp.out (by simp)
        clear HW9 HW8 HW7 HSc
        rcases hop with rfl | rfl | rfl | rfl | rfl
        · cases bb with
          | true =>
            go_wp2_with (simp only [hb1])
            go_ret3
            exact HYr.out _ _ _ _ (l) ([0]) (by unfold doR; simp only [hcon.out, Int.reduceEq, Bool.false_eq_true, ↓reduceIte]) (lst_new HW.out [0] (by unfold maxLen; simp))
          | false =>
            by_cases hn : (j : Int) = n
            · have t1 : ((j : Int) == n) = true := by simpa using hn
              go_wp2_with (simp only [hb1])
              go_ret3
              exact HYr.out _ _ _ _ (l) ([2]) (doR_full hcon.out (by have := HML.out; omega)) (lst_new HW.out [2] (by unfold maxLen; simp))
            · have t1 : ((j : Int) == n) = false := by simpa using hn
              go_wp2_with (simp only [hb1])
              go_ret3
              exact HYr.out _ _ _ _ (L ++ [x] ++ Mo) ([1]) (by rw [doR_put hcon.out (by have := HML.out; omega), HLq.out, HMq.out]) ((lst_new HW.out [1] (by unfold maxLen; simp)).perm (.cons _ (List.perm_middle (l₁ := [_, _]))))
        · cases bb with
          | true =>
            go_wp2_with (simp only [hb1])
            go_ret3
            exact HYr.out _ _ _ _ (L ++ Mo) ([1]) (by unfold doR; simp only [hcon.out, HLq.out, HMq.out, Int.reduceEq, ↓reduceIte]) ((lst_new HW.out [1] (by unfold maxLen; simp)).perm (.cons _ (List.Perm.swap _ _ _)))
          | false =>
            go_wp2_with (simp only [hb1])
            go_ret3
            exact HYr.out _ _ _ _ (l) ([0]) (by unfold doR; simp only [hcon.out, Int.reduceEq, Bool.false_eq_true, ↓reduceIte]) (lst_new HW.out [0] (by unfold maxLen; simp))
        · cases bb with
          | true =>
            go_wp2_with (simp only [hb1])
            go_ret3
            exact HYr.out _ _ _ _ (l) ([1]) (by unfold doR; simp only [hcon.out, Int.reduceEq, Bool.false_eq_true, ↓reduceIte]) (lst_new HW.out [1] (by unfold maxLen; simp))
          | false =>
            go_wp2_with (simp only [hb1])
            go_ret3
            exact HYr.out _ _ _ _ (l) ([0]) (by unfold doR; simp only [hcon.out, Int.reduceEq, Bool.false_eq_true, ↓reduceIte]) (lst_new HW.out [0] (by unfold maxLen; simp))
        · by_cases h0 : 0 < j
          · have t1 : decide ((0 : Int) < (j : Int)) = true := by simp; omega
            have t1n : decide (0 < j) = true := by simp; omega
            obtain ⟨g, o, rfl⟩ := HX.out.addr (by omega)
            have r0 : w9.cell? ⟨g, o, none⟩ = some (.int .i64 (l.getD 0 0)) := (HX.out.kept HW.out.same).cell (j := 0) h0
            have HE : Hid (doR l n ⟨4, a, b, x, y⟩ = (l, [1, l.getD 0 0])) := hid (by
              have hne : ¬ l = [] := by intro e; have := HML.out; rw [e] at this; simp at this; omega
              simp [doR, hne])
            have HT := hid (lst_new HW.out [1, l.getD 0 0] (by unfold maxLen; simp)).drew
            have HT2 := hid (lst_new HW.out.drew [1, l.getD 0 0] (by unfold maxLen; simp))
            have hb2 := fun W z => buildX2 W 1 z
            generalize l.getD 0 0 = z at *
            have hj1 : (0 : Int) < (j : Int) := by omega
            go_upto_region 35 with fail
            go_region
            all_goals go_wp2
            all_goals go_ret3
            all_goals first | exact HYr.out _ _ _ _ _ _ HE.out HT.out | exact HYr.out _ _ _ _ _ _ HE.out HT2.out
          · have t1 : decide ((0 : Int) < (j : Int)) = false := by simp; omega
            have t1n : decide (0 < j) = false := by simp; omega
            go_wp2_with (simp only [hb1])
            go_ret3
            exact HYr.out _ _ _ _ (l) ([0]) (by rw [show l = [] from List.length_eq_zero_iff.1 (by have := HML.out; omega)]; rfl) (lst_new HW.out [0] (by unfold maxLen; simp))
        · have HE : Hid (doR l n ⟨5, a, b, x, y⟩ = (l, [(j : Int)])) := hid (by have := HML.out; simp [doR, this])
          go_wp2_with (simp only [hb1])
          go_ret3
          exact HYr.out _ _ _ _ _ _ HE.out (lst_new HW.out [(j : Int)] (by unfold maxLen; simp))
end Go.Proofs.YtdfefjalamohjaaGreatDoor
