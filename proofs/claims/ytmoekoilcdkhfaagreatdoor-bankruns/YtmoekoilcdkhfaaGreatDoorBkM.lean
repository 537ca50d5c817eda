/- Banks and their deeds as plain data: what may be, what is done, the programs and their texts. No program is named here. -/
import Derived.Test.YtmoekoilcdkhfaaGreatDoorNt
import Derived.Test.YtmoekoilcdkhfaaGreatDoorVfM
import Derived.Lib.ItoaLen
namespace Go.Proofs.YtmoekoilcdkhfaaGreatDoor
open Go.RowKit
set_option linter.unusedVariables false
set_option linter.unusedSimpArgs false

structure Dd where
  op : Int
  a : Int
  b : Int
  x : Int
  y : Int
deriving DecidableEq
def Dd.cells (d : Dd) : List Value := [.int .i64 d.op, .int .i64 d.a, .int .i64 d.b, .int .i64 d.x, .int .i64 d.y]
def Dd.val (d : Dd) : Value := .agg #[.int .i64 d.op, .int .i64 d.a, .int .i64 d.b, .int .i64 d.x, .int .i64 d.y]
def Dd.zero : Dd := ⟨0, 0, 0, 0, 0⟩
def roomM (n : Int) : Int := if 1 ≤ n ∧ n ≤ 64 then n else 0
/-- May a field hold v? -/
def fldM (has : Bool) (v most : Int) : Bool := decide (0 ≤ v) && decide (v ≤ if has = true then most else 0)
def mayD (n : Int) (d : Dd) : Bool :=
  if d.op = 1 ∨ d.op = 2 then fldM true d.a (n - 1) && (fldM false d.b (n - 1) && (fldM true d.x 2147483648 && (d.y == 0)))
  else if d.op = 3 then fldM true d.a (n - 1) && (fldM true d.b (n - 1) && (fldM true d.x 2147483648 && (d.y == 0)))
  else if d.op = 4 then fldM true d.a (n - 1) && (fldM false d.b (n - 1) && (fldM false d.x 2147483648 && (d.y == 0)))
  else if d.op = 5 then fldM false d.a (n - 1) && (fldM false d.b (n - 1) && (fldM false d.x 2147483648 && (d.y == 0)))
  else false
def sumM (l : List Int) : Int := l.foldl (fun t x => wrap64 (t + x)) 0
/-- What a deed leaves, and tells. -/
def doM (l : List Int) (d : Dd) : List Int × Int :=
  if d.op = 1 then (l.set d.a.toNat (wrap64 (l.getD d.a.toNat 0 + d.x)), wrap64 (l.getD d.a.toNat 0 + d.x))
  else if d.op = 2 then (if l.getD d.a.toNat 0 < d.x then (l, 0) else (l.set d.a.toNat (wrap64 (l.getD d.a.toNat 0 - d.x)), 1))
  else if d.op = 3 then
    (if l.getD d.a.toNat 0 < d.x then (l, 0)
     else ((l.set d.a.toNat (wrap64 (l.getD d.a.toNat 0 - d.x))).set d.b.toNat (wrap64 ((l.set d.a.toNat (wrap64 (l.getD d.a.toNat 0 - d.x))).getD d.b.toNat 0 + d.x)), 1))
  else if d.op = 4 then (l, l.getD d.a.toNat 0)
  else (l, sumM l)
/-- May there be a bank from base on? -/
def fitsM (base n cells : Int) : Bool := decide (0 < roomM n) && (decide (0 ≤ base) && decide (base ≤ cells - roomM n))
def codeM (base n : Int) (d : Dd) : List Ins :=
  if d.op = 1 then [⟨16, 0⟩, ⟨1, base + d.a⟩, ⟨1, base + d.a⟩, ⟨17, 0⟩, ⟨1, d.x⟩, ⟨7, 0⟩, ⟨3, 0⟩, ⟨21, 0⟩, ⟨18, 0⟩, ⟨19, 0⟩]
  else if d.op = 2 then [⟨16, 0⟩, ⟨1, base + d.a⟩, ⟨17, 0⟩, ⟨6, 0⟩, ⟨5, 0⟩, ⟨1, d.x⟩, ⟨11, 0⟩, ⟨13, 0⟩, ⟨3, 0⟩, ⟨21, 0⟩, ⟨15, 16⟩, ⟨1, base + d.a⟩, ⟨5, 0⟩, ⟨1, d.x⟩, ⟨8, 0⟩, ⟨18, 0⟩, ⟨19, 0⟩]
  else if d.op = 3 then [⟨16, 0⟩, ⟨1, base + d.a⟩, ⟨17, 0⟩, ⟨6, 0⟩, ⟨5, 0⟩, ⟨1, d.x⟩, ⟨11, 0⟩, ⟨13, 0⟩, ⟨3, 0⟩, ⟨21, 0⟩, ⟨15, 22⟩, ⟨1, base + d.a⟩, ⟨5, 0⟩, ⟨1, d.x⟩, ⟨8, 0⟩, ⟨18, 0⟩, ⟨1, base + d.b⟩, ⟨1, base + d.b⟩, ⟨17, 0⟩, ⟨1, d.x⟩, ⟨7, 0⟩, ⟨18, 0⟩, ⟨19, 0⟩]
  else if d.op = 4 then [⟨16, 0⟩, ⟨1, base + d.a⟩, ⟨17, 0⟩, ⟨21, 0⟩, ⟨19, 0⟩]
  else [⟨16, 0⟩, ⟨1, 0⟩, ⟨1, base⟩, ⟨6, 0⟩, ⟨5, 0⟩, ⟨17, 0⟩, ⟨7, 0⟩, ⟨5, 0⟩, ⟨1, 1⟩, ⟨7, 0⟩, ⟨3, 0⟩, ⟨6, 0⟩, ⟨1, base + n⟩, ⟨12, 0⟩, ⟨15, 4⟩, ⟨21, 0⟩, ⟨19, 0⟩]

/-- Marks in a text, filled one behind the other. -/
def fillM (t : List UInt8) (xs : List Int) : List UInt8 := xs.foldl (fun t x => Lib.replace t [35] (Lib.itoa x) 1) t
def holes : List (List UInt8) → List UInt8
  | [] => []
  | p :: ps => 35 :: (p ++ holes ps)
def filled : List (List UInt8) → List Int → List UInt8
  | p :: ps, x :: xs => Lib.itoa x ++ (p ++ filled ps xs)
  | _, _ => []
theorem fill_holes : ∀ (ps : List (List UInt8)) (xs : List Int) (a : List UInt8), (35 : UInt8) ∉ a → (∀ p ∈ ps, (35 : UInt8) ∉ p) → ps.length = xs.length → fillM (a ++ holes ps) xs = a ++ filled ps xs
  | [], [], a, _, _, _ => by simp [fillM, holes, filled]
  | p :: ps, x :: xs, a, h, hp, hl => by
    have hx : (35 : UInt8) ∉ Lib.itoa x := itoa_no x 35 (by decide) (by decide)
    have h1 : fillM (a ++ holes (p :: ps)) (x :: xs) = fillM ((a ++ Lib.itoa x ++ p) ++ holes ps) xs := by
      simp only [fillM, List.foldl_cons, holes]
      rw [replace_at _ _ _ _ h (fun e => hx (by simp [e]))]
      simp only [List.append_assoc]
    rw [h1, fill_holes ps xs _ (by
      simp only [List.mem_append, not_or]
      exact ⟨⟨h, hx⟩, hp p (by simp)⟩) (fun q hq => hp q (by simp [hq])) (by simpa using hl)]
    simp [filled, List.append_assoc]
  | [], _ :: _, _, _, _, hl => by simp at hl
  | _ :: _, [], _, _, _, hl => by simp at hl
theorem replace_len (s x : List UInt8) : (Lib.replace s [35] x 1).length ≤ s.length + x.length := by
  unfold Lib.replace
  split
  · omega
  · have hn : Lib.replaceNum s [35] 1 = 0 ∨ Lib.replaceNum s [35] 1 = 0 + 1 := by
      unfold Lib.replaceNum
      split
      · omega
      · exact .inr rfl
    rcases hn with e | e
    · rw [e]; simp [Lib.replaceK]
    · rw [e]
      simp only [Lib.replaceK]
      split
      · omega
      · simp only [List.length_append, List.length_take, List.length_drop]
        omega
theorem fillM_snoc (t : List UInt8) (xs : List Int) (x : Int) : fillM t (xs ++ [x]) = Lib.replace (fillM t xs) [35] (Lib.itoa x) 1 := by simp [fillM]
/-- Text of a deed's program between the begin and the commit. -/
def payT : List UInt8 := [10, 9, 112, 117, 115, 104, 32, 35, 10, 9, 112, 117, 115, 104, 32, 35, 10, 9, 108, 111, 97, 100, 10, 9, 112, 117, 115, 104, 32, 35, 10, 9, 97, 100, 100, 10, 9, 100, 117, 112, 10, 9, 116, 101, 108, 108, 10, 9, 115, 116, 111, 114, 101, 10]
def takeT : List UInt8 := [10, 9, 112, 117, 115, 104, 32, 35, 10, 9, 108, 111, 97, 100, 10, 9, 115, 101, 116, 32, 48, 10, 9, 103, 101, 116, 32, 48, 10, 9, 112, 117, 115, 104, 32, 35, 10, 9, 108, 101, 115, 115, 10, 9, 110, 111, 116, 10, 9, 100, 117, 112, 10, 9, 116, 101, 108, 108, 10, 9, 122, 101, 114, 111, 32, 111, 117, 116, 10, 9, 112, 117, 115, 104, 32, 35, 10, 9, 103, 101, 116, 32, 48, 10, 9, 112, 117, 115, 104, 32, 35, 10, 9, 115, 117, 98, 10, 9, 115, 116, 111, 114, 101, 10]
def addT : List UInt8 := [10, 9, 112, 117, 115, 104, 32, 35, 10, 9, 112, 117, 115, 104, 32, 35, 10, 9, 108, 111, 97, 100, 10, 9, 112, 117, 115, 104, 32, 35, 10, 9, 97, 100, 100, 10, 9, 115, 116, 111, 114, 101, 10]
def outT : List UInt8 := [10, 111, 117, 116, 58, 10]
def seeT : List UInt8 := [10, 9, 112, 117, 115, 104, 32, 35, 10, 9, 108, 111, 97, 100, 10, 9, 116, 101, 108, 108, 10]
def sumT : List UInt8 := [10, 9, 112, 117, 115, 104, 32, 48, 10, 9, 112, 117, 115, 104, 32, 35, 10, 9, 115, 101, 116, 32, 48, 10, 109, 111, 114, 101, 58, 10, 9, 103, 101, 116, 32, 48, 10, 9, 108, 111, 97, 100, 10, 9, 97, 100, 100, 10, 9, 103, 101, 116, 32, 48, 10, 9, 112, 117, 115, 104, 32, 49, 10, 9, 97, 100, 100, 10, 9, 100, 117, 112, 10, 9, 115, 101, 116, 32, 48, 10, 9, 112, 117, 115, 104, 32, 35, 10, 9, 115, 97, 109, 101, 10, 9, 122, 101, 114, 111, 32, 109, 111, 114, 101, 10, 9, 116, 101, 108, 108, 10]
theorem payT_filled (v0 v1 v2 : Int) : fillM payT [v0, v1, v2] = [10, 9, 112, 117, 115, 104, 32] ++ filled [[10, 9, 112, 117, 115, 104, 32], [10, 9, 108, 111, 97, 100, 10, 9, 112, 117, 115, 104, 32], [10, 9, 97, 100, 100, 10, 9, 100, 117, 112, 10, 9, 116, 101, 108, 108, 10, 9, 115, 116, 111, 114, 101, 10]] [v0, v1, v2] := fill_holes [[10, 9, 112, 117, 115, 104, 32], [10, 9, 108, 111, 97, 100, 10, 9, 112, 117, 115, 104, 32], [10, 9, 97, 100, 100, 10, 9, 100, 117, 112, 10, 9, 116, 101, 108, 108, 10, 9, 115, 116, 111, 114, 101, 10]] [v0, v1, v2] [10, 9, 112, 117, 115, 104, 32] (by decide) (by decide) rfl
theorem takeT_filled (v0 v1 v2 v3 : Int) : fillM takeT [v0, v1, v2, v3] = [10, 9, 112, 117, 115, 104, 32] ++ filled [[10, 9, 108, 111, 97, 100, 10, 9, 115, 101, 116, 32, 48, 10, 9, 103, 101, 116, 32, 48, 10, 9, 112, 117, 115, 104, 32], [10, 9, 108, 101, 115, 115, 10, 9, 110, 111, 116, 10, 9, 100, 117, 112, 10, 9, 116, 101, 108, 108, 10, 9, 122, 101, 114, 111, 32, 111, 117, 116, 10, 9, 112, 117, 115, 104, 32], [10, 9, 103, 101, 116, 32, 48, 10, 9, 112, 117, 115, 104, 32], [10, 9, 115, 117, 98, 10, 9, 115, 116, 111, 114, 101, 10]] [v0, v1, v2, v3] := fill_holes [[10, 9, 108, 111, 97, 100, 10, 9, 115, 101, 116, 32, 48, 10, 9, 103, 101, 116, 32, 48, 10, 9, 112, 117, 115, 104, 32], [10, 9, 108, 101, 115, 115, 10, 9, 110, 111, 116, 10, 9, 100, 117, 112, 10, 9, 116, 101, 108, 108, 10, 9, 122, 101, 114, 111, 32, 111, 117, 116, 10, 9, 112, 117, 115, 104, 32], [10, 9, 103, 101, 116, 32, 48, 10, 9, 112, 117, 115, 104, 32], [10, 9, 115, 117, 98, 10, 9, 115, 116, 111, 114, 101, 10]] [v0, v1, v2, v3] [10, 9, 112, 117, 115, 104, 32] (by decide) (by decide) rfl
theorem addT_filled (v0 v1 v2 : Int) : fillM addT [v0, v1, v2] = [10, 9, 112, 117, 115, 104, 32] ++ filled [[10, 9, 112, 117, 115, 104, 32], [10, 9, 108, 111, 97, 100, 10, 9, 112, 117, 115, 104, 32], [10, 9, 97, 100, 100, 10, 9, 115, 116, 111, 114, 101, 10]] [v0, v1, v2] := fill_holes [[10, 9, 112, 117, 115, 104, 32], [10, 9, 108, 111, 97, 100, 10, 9, 112, 117, 115, 104, 32], [10, 9, 97, 100, 100, 10, 9, 115, 116, 111, 114, 101, 10]] [v0, v1, v2] [10, 9, 112, 117, 115, 104, 32] (by decide) (by decide) rfl
theorem seeT_filled (v0 : Int) : fillM seeT [v0] = [10, 9, 112, 117, 115, 104, 32] ++ filled [[10, 9, 108, 111, 97, 100, 10, 9, 116, 101, 108, 108, 10]] [v0] := fill_holes [[10, 9, 108, 111, 97, 100, 10, 9, 116, 101, 108, 108, 10]] [v0] [10, 9, 112, 117, 115, 104, 32] (by decide) (by decide) rfl
theorem sumT_filled (v0 v1 : Int) : fillM sumT [v0, v1] = [10, 9, 112, 117, 115, 104, 32, 48, 10, 9, 112, 117, 115, 104, 32] ++ filled [[10, 9, 115, 101, 116, 32, 48, 10, 109, 111, 114, 101, 58, 10, 9, 103, 101, 116, 32, 48, 10, 9, 108, 111, 97, 100, 10, 9, 97, 100, 100, 10, 9, 103, 101, 116, 32, 48, 10, 9, 112, 117, 115, 104, 32, 49, 10, 9, 97, 100, 100, 10, 9, 100, 117, 112, 10, 9, 115, 101, 116, 32, 48, 10, 9, 112, 117, 115, 104, 32], [10, 9, 115, 97, 109, 101, 10, 9, 122, 101, 114, 111, 32, 109, 111, 114, 101, 10, 9, 116, 101, 108, 108, 10]] [v0, v1] := fill_holes [[10, 9, 115, 101, 116, 32, 48, 10, 109, 111, 114, 101, 58, 10, 9, 103, 101, 116, 32, 48, 10, 9, 108, 111, 97, 100, 10, 9, 97, 100, 100, 10, 9, 103, 101, 116, 32, 48, 10, 9, 112, 117, 115, 104, 32, 49, 10, 9, 97, 100, 100, 10, 9, 100, 117, 112, 10, 9, 115, 101, 116, 32, 48, 10, 9, 112, 117, 115, 104, 32], [10, 9, 115, 97, 109, 101, 10, 9, 122, 101, 114, 111, 32, 109, 111, 114, 101, 10, 9, 116, 101, 108, 108, 10]] [v0, v1] [10, 9, 112, 117, 115, 104, 32, 48, 10, 9, 112, 117, 115, 104, 32] (by decide) (by decide) rfl
def textM (base n : Int) (d : Dd) : List UInt8 :=
  if d.op = 1 then fillM payT [base + d.a, base + d.a, d.x]
  else if d.op = 2 then fillM takeT [base + d.a, d.x, base + d.a, d.x] ++ ([] ++ outT)
  else if d.op = 3 then fillM takeT [base + d.a, d.x, base + d.a, d.x] ++ (fillM addT [base + d.b, base + d.b, d.x] ++ outT)
  else if d.op = 4 then fillM seeT [base + d.a]
  else fillM sumT [base, base + n]
def wholeT (base n : Int) (d : Dd) : List UInt8 := [98, 101, 103, 105, 110, 10] ++ textM base n d ++ [99, 111, 109, 109, 105, 116, 10]
def pushL (v : Int) : List UInt8 := 9 :: 112 :: 117 :: 115 :: 104 :: 32 :: Lib.itoa v
theorem push_no (v : Int) : (10 : UInt8) ∉ pushL v := by
  have := itoa_no v 10 (by decide) (by decide)
  simp [pushL, this]
theorem push_len (v : Int) (h0 : -9223372036854775808 ≤ v) (h1 : v ≤ 9223372036854775807) : (pushL v).length ≤ 27 := by
  have := Lib.itoa_length_le v h0 h1
  simp only [pushL, List.length_cons]
  omega
theorem txt_le (k : Nat) : ∀ (ls : List (List UInt8)), (∀ l ∈ ls, l.length ≤ k) → (txt ls).length ≤ (k + 1) * ls.length
  | [], _ => by simp [txt]
  | l :: ls, h => by
    have h1 := txt_le k ls (fun x hx => h x (by simp [hx]))
    have h2 := h l (by simp)
    have e : (txt (l :: ls)).length = l.length + 1 + (txt ls).length := by simp [txt]; omega
    rw [e, List.length_cons, Nat.mul_add]
    omega
def payLs (base n : Int) (d : Dd) : List (List UInt8) := [[98, 101, 103, 105, 110], [], pushL (base + d.a), pushL (base + d.a), [9, 108, 111, 97, 100], pushL (d.x), [9, 97, 100, 100], [9, 100, 117, 112], [9, 116, 101, 108, 108], [9, 115, 116, 111, 114, 101], [99, 111, 109, 109, 105, 116]]
def payWs (base n : Int) (d : Dd) : List Lw := [.ins ⟨16, 0⟩ [], .no, .ins ⟨1, base + d.a⟩ [], .ins ⟨1, base + d.a⟩ [], .ins ⟨17, 0⟩ [], .ins ⟨1, d.x⟩ [], .ins ⟨7, 0⟩ [], .ins ⟨3, 0⟩ [], .ins ⟨21, 0⟩ [], .ins ⟨18, 0⟩ [], .ins ⟨19, 0⟩ []]
theorem pay_ws {base n : Int} {d : Dd} (h0 : 0 ≤ base) (h1 : base ≤ 256) (h2 : 0 ≤ n) (h3 : n ≤ 64) (h4 : 0 ≤ d.a) (h5 : d.a ≤ 64) (h6 : 0 ≤ d.b) (h7 : d.b ≤ 64) (h8 : 0 ≤ d.x) (h9 : d.x ≤ 2147483648) : Lws (payLs base n d) (payWs base n d) :=
  ⟨⟨by decide, by kernel_rfl, fun i => by kernel_rfl⟩,
   (show saidM [] = [] by kernel_rfl),
   push_line _ (by omega) (by omega),
   push_line _ (by omega) (by omega),
   ⟨by decide, by kernel_rfl, fun i => by kernel_rfl⟩,
   push_line _ (by omega) (by omega),
   ⟨by decide, by kernel_rfl, fun i => by kernel_rfl⟩,
   ⟨by decide, by kernel_rfl, fun i => by kernel_rfl⟩,
   ⟨by decide, by kernel_rfl, fun i => by kernel_rfl⟩,
   ⟨by decide, by kernel_rfl, fun i => by kernel_rfl⟩,
   ⟨by decide, by kernel_rfl, fun i => by kernel_rfl⟩, trivial⟩
theorem pay_no (base n : Int) (d : Dd) : ∀ l ∈ payLs base n d, (10 : UInt8) ∉ l := by
  intro l hl
  simp only [payLs, List.mem_cons, List.not_mem_nil, or_false] at hl
  rcases hl with rfl | rfl | rfl | rfl | rfl | rfl | rfl | rfl | rfl | rfl | rfl
  · decide
  · decide
  · exact push_no _
  · exact push_no _
  · decide
  · exact push_no _
  · decide
  · decide
  · decide
  · decide
  · decide
theorem pay_txt (base n : Int) (d : Dd) (ho : d.op = 1) : wholeT base n d = txt (payLs base n d) := by
  unfold wholeT textM
  rw [ho]
  simp only [↓reduceIte, Int.reduceEq, payT_filled]
  simp [txt, payLs, pushL, filled, outT]
theorem pay_len {base n : Int} {d : Dd} (h0 : 0 ≤ base) (h1 : base ≤ 256) (h2 : 0 ≤ n) (h3 : n ≤ 64) (h4 : 0 ≤ d.a) (h5 : d.a ≤ 64) (h6 : 0 ≤ d.b) (h7 : d.b ≤ 64) (h8 : 0 ≤ d.x) (h9 : d.x ≤ 2147483648) : (txt (payLs base n d)).length ≤ 1000 := by
  refine Nat.le_trans (txt_le 27 _ ?_) (by decide : (27 + 1) * 11 ≤ 1000)
  intro l hl
  simp only [payLs, List.mem_cons, List.not_mem_nil, or_false] at hl
  rcases hl with rfl | rfl | rfl | rfl | rfl | rfl | rfl | rfl | rfl | rfl | rfl
  · decide
  · decide
  · exact push_len _ (by omega) (by omega)
  · exact push_len _ (by omega) (by omega)
  · decide
  · exact push_len _ (by omega) (by omega)
  · decide
  · decide
  · decide
  · decide
  · decide
theorem pay_parse {base n : Int} {d : Dd} (ho : d.op = 1) (h0 : 0 ≤ base) (h1 : base ≤ 256) (h2 : 0 ≤ n) (h3 : n ≤ 64) (h4 : 0 ≤ d.a) (h5 : d.a ≤ 64) (h6 : 0 ≤ d.b) (h7 : d.b ≤ 64) (h8 : 0 ≤ d.x) (h9 : d.x ≤ 2147483648) : parseM (bs (wholeT base n d)) = .ok (codeM base n d) := by
  rw [pay_txt base n d ho]
  have hc : codeM base n d = codeM base n { d with op := 1 } := by rw [← ho]
  rw [hc]
  exact parse_txt (p := (runL 0 (payWs base n d) ⟨[], []⟩).getD ⟨[], []⟩) (pay_no base n d) (Nat.le_trans (pay_len h0 h1 h2 h3 h4 h5 h6 h7 h8 h9) (by decide)) (pay_ws h0 h1 h2 h3 h4 h5 h6 h7 h8 h9) (by kernel_rfl) (by kernel_rfl) (by simp [codeM])
def takLs (base n : Int) (d : Dd) : List (List UInt8) := [[98, 101, 103, 105, 110], [], pushL (base + d.a), [9, 108, 111, 97, 100], [9, 115, 101, 116, 32, 48], [9, 103, 101, 116, 32, 48], pushL (d.x), [9, 108, 101, 115, 115], [9, 110, 111, 116], [9, 100, 117, 112], [9, 116, 101, 108, 108], [9, 122, 101, 114, 111, 32, 111, 117, 116], pushL (base + d.a), [9, 103, 101, 116, 32, 48], pushL (d.x), [9, 115, 117, 98], [9, 115, 116, 111, 114, 101], [], [111, 117, 116, 58], [99, 111, 109, 109, 105, 116]]
def takWs (base n : Int) (d : Dd) : List Lw := [.ins ⟨16, 0⟩ [], .no, .ins ⟨1, base + d.a⟩ [], .ins ⟨17, 0⟩ [], .ins ⟨6, 0⟩ [], .ins ⟨5, 0⟩ [], .ins ⟨1, d.x⟩ [], .ins ⟨11, 0⟩ [], .ins ⟨13, 0⟩ [], .ins ⟨3, 0⟩ [], .ins ⟨21, 0⟩ [], .ins ⟨15, 0⟩ [111, 117, 116], .ins ⟨1, base + d.a⟩ [], .ins ⟨5, 0⟩ [], .ins ⟨1, d.x⟩ [], .ins ⟨8, 0⟩ [], .ins ⟨18, 0⟩ [], .no, .lab [111, 117, 116], .ins ⟨19, 0⟩ []]
theorem tak_ws {base n : Int} {d : Dd} (h0 : 0 ≤ base) (h1 : base ≤ 256) (h2 : 0 ≤ n) (h3 : n ≤ 64) (h4 : 0 ≤ d.a) (h5 : d.a ≤ 64) (h6 : 0 ≤ d.b) (h7 : d.b ≤ 64) (h8 : 0 ≤ d.x) (h9 : d.x ≤ 2147483648) : Lws (takLs base n d) (takWs base n d) :=
  ⟨⟨by decide, by kernel_rfl, fun i => by kernel_rfl⟩,
   (show saidM [] = [] by kernel_rfl),
   push_line _ (by omega) (by omega),
   ⟨by decide, by kernel_rfl, fun i => by kernel_rfl⟩,
   ⟨by decide, by kernel_rfl, fun i => by kernel_rfl⟩,
   ⟨by decide, by kernel_rfl, fun i => by kernel_rfl⟩,
   push_line _ (by omega) (by omega),
   ⟨by decide, by kernel_rfl, fun i => by kernel_rfl⟩,
   ⟨by decide, by kernel_rfl, fun i => by kernel_rfl⟩,
   ⟨by decide, by kernel_rfl, fun i => by kernel_rfl⟩,
   ⟨by decide, by kernel_rfl, fun i => by kernel_rfl⟩,
   ⟨by decide, by kernel_rfl, fun i => by kernel_rfl⟩,
   push_line _ (by omega) (by omega),
   ⟨by decide, by kernel_rfl, fun i => by kernel_rfl⟩,
   push_line _ (by omega) (by omega),
   ⟨by decide, by kernel_rfl, fun i => by kernel_rfl⟩,
   ⟨by decide, by kernel_rfl, fun i => by kernel_rfl⟩,
   (show saidM [] = [] by kernel_rfl),
   ⟨by decide, by kernel_rfl, by kernel_rfl, by kernel_rfl⟩,
   ⟨by decide, by kernel_rfl, fun i => by kernel_rfl⟩, trivial⟩
theorem tak_no (base n : Int) (d : Dd) : ∀ l ∈ takLs base n d, (10 : UInt8) ∉ l := by
  intro l hl
  simp only [takLs, List.mem_cons, List.not_mem_nil, or_false] at hl
  rcases hl with rfl | rfl | rfl | rfl | rfl | rfl | rfl | rfl | rfl | rfl | rfl | rfl | rfl | rfl | rfl | rfl | rfl | rfl | rfl | rfl
  · decide
  · decide
  · exact push_no _
  · decide
  · decide
  · decide
  · exact push_no _
  · decide
  · decide
  · decide
  · decide
  · decide
  · exact push_no _
  · decide
  · exact push_no _
  · decide
  · decide
  · decide
  · decide
  · decide
theorem tak_txt (base n : Int) (d : Dd) (ho : d.op = 2) : wholeT base n d = txt (takLs base n d) := by
  unfold wholeT textM
  rw [ho]
  simp only [↓reduceIte, Int.reduceEq, takeT_filled]
  simp [txt, takLs, pushL, filled, outT]
theorem tak_len {base n : Int} {d : Dd} (h0 : 0 ≤ base) (h1 : base ≤ 256) (h2 : 0 ≤ n) (h3 : n ≤ 64) (h4 : 0 ≤ d.a) (h5 : d.a ≤ 64) (h6 : 0 ≤ d.b) (h7 : d.b ≤ 64) (h8 : 0 ≤ d.x) (h9 : d.x ≤ 2147483648) : (txt (takLs base n d)).length ≤ 1000 := by
  refine Nat.le_trans (txt_le 27 _ ?_) (by decide : (27 + 1) * 20 ≤ 1000)
  intro l hl
  simp only [takLs, List.mem_cons, List.not_mem_nil, or_false] at hl
  rcases hl with rfl | rfl | rfl | rfl | rfl | rfl | rfl | rfl | rfl | rfl | rfl | rfl | rfl | rfl | rfl | rfl | rfl | rfl | rfl | rfl
  · decide
  · decide
  · exact push_len _ (by omega) (by omega)
  · decide
  · decide
  · decide
  · exact push_len _ (by omega) (by omega)
  · decide
  · decide
  · decide
  · decide
  · decide
  · exact push_len _ (by omega) (by omega)
  · decide
  · exact push_len _ (by omega) (by omega)
  · decide
  · decide
  · decide
  · decide
  · decide
theorem tak_parse {base n : Int} {d : Dd} (ho : d.op = 2) (h0 : 0 ≤ base) (h1 : base ≤ 256) (h2 : 0 ≤ n) (h3 : n ≤ 64) (h4 : 0 ≤ d.a) (h5 : d.a ≤ 64) (h6 : 0 ≤ d.b) (h7 : d.b ≤ 64) (h8 : 0 ≤ d.x) (h9 : d.x ≤ 2147483648) : parseM (bs (wholeT base n d)) = .ok (codeM base n d) := by
  rw [tak_txt base n d ho]
  have hc : codeM base n d = codeM base n { d with op := 2 } := by rw [← ho]
  rw [hc]
  exact parse_txt (p := (runL 0 (takWs base n d) ⟨[], []⟩).getD ⟨[], []⟩) (tak_no base n d) (Nat.le_trans (tak_len h0 h1 h2 h3 h4 h5 h6 h7 h8 h9) (by decide)) (tak_ws h0 h1 h2 h3 h4 h5 h6 h7 h8 h9) (by kernel_rfl) (by kernel_rfl) (by simp [codeM])
def movLs (base n : Int) (d : Dd) : List (List UInt8) := [[98, 101, 103, 105, 110], [], pushL (base + d.a), [9, 108, 111, 97, 100], [9, 115, 101, 116, 32, 48], [9, 103, 101, 116, 32, 48], pushL (d.x), [9, 108, 101, 115, 115], [9, 110, 111, 116], [9, 100, 117, 112], [9, 116, 101, 108, 108], [9, 122, 101, 114, 111, 32, 111, 117, 116], pushL (base + d.a), [9, 103, 101, 116, 32, 48], pushL (d.x), [9, 115, 117, 98], [9, 115, 116, 111, 114, 101], [], pushL (base + d.b), pushL (base + d.b), [9, 108, 111, 97, 100], pushL (d.x), [9, 97, 100, 100], [9, 115, 116, 111, 114, 101], [], [111, 117, 116, 58], [99, 111, 109, 109, 105, 116]]
def movWs (base n : Int) (d : Dd) : List Lw := [.ins ⟨16, 0⟩ [], .no, .ins ⟨1, base + d.a⟩ [], .ins ⟨17, 0⟩ [], .ins ⟨6, 0⟩ [], .ins ⟨5, 0⟩ [], .ins ⟨1, d.x⟩ [], .ins ⟨11, 0⟩ [], .ins ⟨13, 0⟩ [], .ins ⟨3, 0⟩ [], .ins ⟨21, 0⟩ [], .ins ⟨15, 0⟩ [111, 117, 116], .ins ⟨1, base + d.a⟩ [], .ins ⟨5, 0⟩ [], .ins ⟨1, d.x⟩ [], .ins ⟨8, 0⟩ [], .ins ⟨18, 0⟩ [], .no, .ins ⟨1, base + d.b⟩ [], .ins ⟨1, base + d.b⟩ [], .ins ⟨17, 0⟩ [], .ins ⟨1, d.x⟩ [], .ins ⟨7, 0⟩ [], .ins ⟨18, 0⟩ [], .no, .lab [111, 117, 116], .ins ⟨19, 0⟩ []]
theorem mov_ws {base n : Int} {d : Dd} (h0 : 0 ≤ base) (h1 : base ≤ 256) (h2 : 0 ≤ n) (h3 : n ≤ 64) (h4 : 0 ≤ d.a) (h5 : d.a ≤ 64) (h6 : 0 ≤ d.b) (h7 : d.b ≤ 64) (h8 : 0 ≤ d.x) (h9 : d.x ≤ 2147483648) : Lws (movLs base n d) (movWs base n d) :=
  ⟨⟨by decide, by kernel_rfl, fun i => by kernel_rfl⟩,
   (show saidM [] = [] by kernel_rfl),
   push_line _ (by omega) (by omega),
   ⟨by decide, by kernel_rfl, fun i => by kernel_rfl⟩,
   ⟨by decide, by kernel_rfl, fun i => by kernel_rfl⟩,
   ⟨by decide, by kernel_rfl, fun i => by kernel_rfl⟩,
   push_line _ (by omega) (by omega),
   ⟨by decide, by kernel_rfl, fun i => by kernel_rfl⟩,
   ⟨by decide, by kernel_rfl, fun i => by kernel_rfl⟩,
   ⟨by decide, by kernel_rfl, fun i => by kernel_rfl⟩,
   ⟨by decide, by kernel_rfl, fun i => by kernel_rfl⟩,
   ⟨by decide, by kernel_rfl, fun i => by kernel_rfl⟩,
   push_line _ (by omega) (by omega),
   ⟨by decide, by kernel_rfl, fun i => by kernel_rfl⟩,
   push_line _ (by omega) (by omega),
   ⟨by decide, by kernel_rfl, fun i => by kernel_rfl⟩,
   ⟨by decide, by kernel_rfl, fun i => by kernel_rfl⟩,
   (show saidM [] = [] by kernel_rfl),
   push_line _ (by omega) (by omega),
   push_line _ (by omega) (by omega),
   ⟨by decide, by kernel_rfl, fun i => by kernel_rfl⟩,
   push_line _ (by omega) (by omega),
   ⟨by decide, by kernel_rfl, fun i => by kernel_rfl⟩,
   ⟨by decide, by kernel_rfl, fun i => by kernel_rfl⟩,
   (show saidM [] = [] by kernel_rfl),
   ⟨by decide, by kernel_rfl, by kernel_rfl, by kernel_rfl⟩,
   ⟨by decide, by kernel_rfl, fun i => by kernel_rfl⟩, trivial⟩
theorem mov_no (base n : Int) (d : Dd) : ∀ l ∈ movLs base n d, (10 : UInt8) ∉ l := by
  intro l hl
  simp only [movLs, List.mem_cons, List.not_mem_nil, or_false] at hl
  rcases hl with rfl | rfl | rfl | rfl | rfl | rfl | rfl | rfl | rfl | rfl | rfl | rfl | rfl | rfl | rfl | rfl | rfl | rfl | rfl | rfl | rfl | rfl | rfl | rfl | rfl | rfl | rfl
  · decide
  · decide
  · exact push_no _
  · decide
  · decide
  · decide
  · exact push_no _
  · decide
  · decide
  · decide
  · decide
  · decide
  · exact push_no _
  · decide
  · exact push_no _
  · decide
  · decide
  · decide
  · exact push_no _
  · exact push_no _
  · decide
  · exact push_no _
  · decide
  · decide
  · decide
  · decide
  · decide
theorem mov_txt (base n : Int) (d : Dd) (ho : d.op = 3) : wholeT base n d = txt (movLs base n d) := by
  unfold wholeT textM
  rw [ho]
  simp only [↓reduceIte, Int.reduceEq, takeT_filled, addT_filled]
  simp [txt, movLs, pushL, filled, outT]
theorem mov_len {base n : Int} {d : Dd} (h0 : 0 ≤ base) (h1 : base ≤ 256) (h2 : 0 ≤ n) (h3 : n ≤ 64) (h4 : 0 ≤ d.a) (h5 : d.a ≤ 64) (h6 : 0 ≤ d.b) (h7 : d.b ≤ 64) (h8 : 0 ≤ d.x) (h9 : d.x ≤ 2147483648) : (txt (movLs base n d)).length ≤ 1000 := by
  refine Nat.le_trans (txt_le 27 _ ?_) (by decide : (27 + 1) * 27 ≤ 1000)
  intro l hl
  simp only [movLs, List.mem_cons, List.not_mem_nil, or_false] at hl
  rcases hl with rfl | rfl | rfl | rfl | rfl | rfl | rfl | rfl | rfl | rfl | rfl | rfl | rfl | rfl | rfl | rfl | rfl | rfl | rfl | rfl | rfl | rfl | rfl | rfl | rfl | rfl | rfl
  · decide
  · decide
  · exact push_len _ (by omega) (by omega)
  · decide
  · decide
  · decide
  · exact push_len _ (by omega) (by omega)
  · decide
  · decide
  · decide
  · decide
  · decide
  · exact push_len _ (by omega) (by omega)
  · decide
  · exact push_len _ (by omega) (by omega)
  · decide
  · decide
  · decide
  · exact push_len _ (by omega) (by omega)
  · exact push_len _ (by omega) (by omega)
  · decide
  · exact push_len _ (by omega) (by omega)
  · decide
  · decide
  · decide
  · decide
  · decide
theorem mov_parse {base n : Int} {d : Dd} (ho : d.op = 3) (h0 : 0 ≤ base) (h1 : base ≤ 256) (h2 : 0 ≤ n) (h3 : n ≤ 64) (h4 : 0 ≤ d.a) (h5 : d.a ≤ 64) (h6 : 0 ≤ d.b) (h7 : d.b ≤ 64) (h8 : 0 ≤ d.x) (h9 : d.x ≤ 2147483648) : parseM (bs (wholeT base n d)) = .ok (codeM base n d) := by
  rw [mov_txt base n d ho]
  have hc : codeM base n d = codeM base n { d with op := 3 } := by rw [← ho]
  rw [hc]
  exact parse_txt (p := (runL 0 (movWs base n d) ⟨[], []⟩).getD ⟨[], []⟩) (mov_no base n d) (Nat.le_trans (mov_len h0 h1 h2 h3 h4 h5 h6 h7 h8 h9) (by decide)) (mov_ws h0 h1 h2 h3 h4 h5 h6 h7 h8 h9) (by kernel_rfl) (by kernel_rfl) (by simp [codeM])
def seeLs (base n : Int) (d : Dd) : List (List UInt8) := [[98, 101, 103, 105, 110], [], pushL (base + d.a), [9, 108, 111, 97, 100], [9, 116, 101, 108, 108], [99, 111, 109, 109, 105, 116]]
def seeWs (base n : Int) (d : Dd) : List Lw := [.ins ⟨16, 0⟩ [], .no, .ins ⟨1, base + d.a⟩ [], .ins ⟨17, 0⟩ [], .ins ⟨21, 0⟩ [], .ins ⟨19, 0⟩ []]
theorem see_ws {base n : Int} {d : Dd} (h0 : 0 ≤ base) (h1 : base ≤ 256) (h2 : 0 ≤ n) (h3 : n ≤ 64) (h4 : 0 ≤ d.a) (h5 : d.a ≤ 64) (h6 : 0 ≤ d.b) (h7 : d.b ≤ 64) (h8 : 0 ≤ d.x) (h9 : d.x ≤ 2147483648) : Lws (seeLs base n d) (seeWs base n d) :=
  ⟨⟨by decide, by kernel_rfl, fun i => by kernel_rfl⟩,
   (show saidM [] = [] by kernel_rfl),
   push_line _ (by omega) (by omega),
   ⟨by decide, by kernel_rfl, fun i => by kernel_rfl⟩,
   ⟨by decide, by kernel_rfl, fun i => by kernel_rfl⟩,
   ⟨by decide, by kernel_rfl, fun i => by kernel_rfl⟩, trivial⟩
theorem see_no (base n : Int) (d : Dd) : ∀ l ∈ seeLs base n d, (10 : UInt8) ∉ l := by
  intro l hl
  simp only [seeLs, List.mem_cons, List.not_mem_nil, or_false] at hl
  rcases hl with rfl | rfl | rfl | rfl | rfl | rfl
  · decide
  · decide
  · exact push_no _
  · decide
  · decide
  · decide
theorem see_txt (base n : Int) (d : Dd) (ho : d.op = 4) : wholeT base n d = txt (seeLs base n d) := by
  unfold wholeT textM
  rw [ho]
  simp only [↓reduceIte, Int.reduceEq, seeT_filled]
  simp [txt, seeLs, pushL, filled, outT]
theorem see_len {base n : Int} {d : Dd} (h0 : 0 ≤ base) (h1 : base ≤ 256) (h2 : 0 ≤ n) (h3 : n ≤ 64) (h4 : 0 ≤ d.a) (h5 : d.a ≤ 64) (h6 : 0 ≤ d.b) (h7 : d.b ≤ 64) (h8 : 0 ≤ d.x) (h9 : d.x ≤ 2147483648) : (txt (seeLs base n d)).length ≤ 1000 := by
  refine Nat.le_trans (txt_le 27 _ ?_) (by decide : (27 + 1) * 6 ≤ 1000)
  intro l hl
  simp only [seeLs, List.mem_cons, List.not_mem_nil, or_false] at hl
  rcases hl with rfl | rfl | rfl | rfl | rfl | rfl
  · decide
  · decide
  · exact push_len _ (by omega) (by omega)
  · decide
  · decide
  · decide
theorem see_parse {base n : Int} {d : Dd} (ho : d.op = 4) (h0 : 0 ≤ base) (h1 : base ≤ 256) (h2 : 0 ≤ n) (h3 : n ≤ 64) (h4 : 0 ≤ d.a) (h5 : d.a ≤ 64) (h6 : 0 ≤ d.b) (h7 : d.b ≤ 64) (h8 : 0 ≤ d.x) (h9 : d.x ≤ 2147483648) : parseM (bs (wholeT base n d)) = .ok (codeM base n d) := by
  rw [see_txt base n d ho]
  have hc : codeM base n d = codeM base n { d with op := 4 } := by rw [← ho]
  rw [hc]
  exact parse_txt (p := (runL 0 (seeWs base n d) ⟨[], []⟩).getD ⟨[], []⟩) (see_no base n d) (Nat.le_trans (see_len h0 h1 h2 h3 h4 h5 h6 h7 h8 h9) (by decide)) (see_ws h0 h1 h2 h3 h4 h5 h6 h7 h8 h9) (by kernel_rfl) (by kernel_rfl) (by simp [codeM])
def sumLs (base n : Int) (d : Dd) : List (List UInt8) := [[98, 101, 103, 105, 110], [], [9, 112, 117, 115, 104, 32, 48], pushL (base), [9, 115, 101, 116, 32, 48], [109, 111, 114, 101, 58], [9, 103, 101, 116, 32, 48], [9, 108, 111, 97, 100], [9, 97, 100, 100], [9, 103, 101, 116, 32, 48], [9, 112, 117, 115, 104, 32, 49], [9, 97, 100, 100], [9, 100, 117, 112], [9, 115, 101, 116, 32, 48], pushL (base + n), [9, 115, 97, 109, 101], [9, 122, 101, 114, 111, 32, 109, 111, 114, 101], [9, 116, 101, 108, 108], [99, 111, 109, 109, 105, 116]]
def sumWs (base n : Int) (d : Dd) : List Lw := [.ins ⟨16, 0⟩ [], .no, .ins ⟨1, 0⟩ [], .ins ⟨1, base⟩ [], .ins ⟨6, 0⟩ [], .lab [109, 111, 114, 101], .ins ⟨5, 0⟩ [], .ins ⟨17, 0⟩ [], .ins ⟨7, 0⟩ [], .ins ⟨5, 0⟩ [], .ins ⟨1, 1⟩ [], .ins ⟨7, 0⟩ [], .ins ⟨3, 0⟩ [], .ins ⟨6, 0⟩ [], .ins ⟨1, base + n⟩ [], .ins ⟨12, 0⟩ [], .ins ⟨15, 0⟩ [109, 111, 114, 101], .ins ⟨21, 0⟩ [], .ins ⟨19, 0⟩ []]
theorem sum_ws {base n : Int} {d : Dd} (h0 : 0 ≤ base) (h1 : base ≤ 256) (h2 : 0 ≤ n) (h3 : n ≤ 64) (h4 : 0 ≤ d.a) (h5 : d.a ≤ 64) (h6 : 0 ≤ d.b) (h7 : d.b ≤ 64) (h8 : 0 ≤ d.x) (h9 : d.x ≤ 2147483648) : Lws (sumLs base n d) (sumWs base n d) :=
  ⟨⟨by decide, by kernel_rfl, fun i => by kernel_rfl⟩,
   (show saidM [] = [] by kernel_rfl),
   ⟨by decide, by kernel_rfl, fun i => by kernel_rfl⟩,
   push_line _ (by omega) (by omega),
   ⟨by decide, by kernel_rfl, fun i => by kernel_rfl⟩,
   ⟨by decide, by kernel_rfl, by kernel_rfl, by kernel_rfl⟩,
   ⟨by decide, by kernel_rfl, fun i => by kernel_rfl⟩,
   ⟨by decide, by kernel_rfl, fun i => by kernel_rfl⟩,
   ⟨by decide, by kernel_rfl, fun i => by kernel_rfl⟩,
   ⟨by decide, by kernel_rfl, fun i => by kernel_rfl⟩,
   ⟨by decide, by kernel_rfl, fun i => by kernel_rfl⟩,
   ⟨by decide, by kernel_rfl, fun i => by kernel_rfl⟩,
   ⟨by decide, by kernel_rfl, fun i => by kernel_rfl⟩,
   ⟨by decide, by kernel_rfl, fun i => by kernel_rfl⟩,
   push_line _ (by omega) (by omega),
   ⟨by decide, by kernel_rfl, fun i => by kernel_rfl⟩,
   ⟨by decide, by kernel_rfl, fun i => by kernel_rfl⟩,
   ⟨by decide, by kernel_rfl, fun i => by kernel_rfl⟩,
   ⟨by decide, by kernel_rfl, fun i => by kernel_rfl⟩, trivial⟩
theorem sum_no (base n : Int) (d : Dd) : ∀ l ∈ sumLs base n d, (10 : UInt8) ∉ l := by
  intro l hl
  simp only [sumLs, List.mem_cons, List.not_mem_nil, or_false] at hl
  rcases hl with rfl | rfl | rfl | rfl | rfl | rfl | rfl | rfl | rfl | rfl | rfl | rfl | rfl | rfl | rfl | rfl | rfl | rfl | rfl
  · decide
  · decide
  · decide
  · exact push_no _
  · decide
  · decide
  · decide
  · decide
  · decide
  · decide
  · decide
  · decide
  · decide
  · decide
  · exact push_no _
  · decide
  · decide
  · decide
  · decide
theorem sum_txt (base n : Int) (d : Dd) (ho : d.op = 5) : wholeT base n d = txt (sumLs base n d) := by
  unfold wholeT textM
  rw [ho]
  simp only [↓reduceIte, Int.reduceEq, sumT_filled]
  simp [txt, sumLs, pushL, filled, outT]
theorem sum_len {base n : Int} {d : Dd} (h0 : 0 ≤ base) (h1 : base ≤ 256) (h2 : 0 ≤ n) (h3 : n ≤ 64) (h4 : 0 ≤ d.a) (h5 : d.a ≤ 64) (h6 : 0 ≤ d.b) (h7 : d.b ≤ 64) (h8 : 0 ≤ d.x) (h9 : d.x ≤ 2147483648) : (txt (sumLs base n d)).length ≤ 1000 := by
  refine Nat.le_trans (txt_le 27 _ ?_) (by decide : (27 + 1) * 19 ≤ 1000)
  intro l hl
  simp only [sumLs, List.mem_cons, List.not_mem_nil, or_false] at hl
  rcases hl with rfl | rfl | rfl | rfl | rfl | rfl | rfl | rfl | rfl | rfl | rfl | rfl | rfl | rfl | rfl | rfl | rfl | rfl | rfl
  · decide
  · decide
  · decide
  · exact push_len _ (by omega) (by omega)
  · decide
  · decide
  · decide
  · decide
  · decide
  · decide
  · decide
  · decide
  · decide
  · decide
  · exact push_len _ (by omega) (by omega)
  · decide
  · decide
  · decide
  · decide
theorem sum_parse {base n : Int} {d : Dd} (ho : d.op = 5) (h0 : 0 ≤ base) (h1 : base ≤ 256) (h2 : 0 ≤ n) (h3 : n ≤ 64) (h4 : 0 ≤ d.a) (h5 : d.a ≤ 64) (h6 : 0 ≤ d.b) (h7 : d.b ≤ 64) (h8 : 0 ≤ d.x) (h9 : d.x ≤ 2147483648) : parseM (bs (wholeT base n d)) = .ok (codeM base n d) := by
  rw [sum_txt base n d ho]
  have hc : codeM base n d = codeM base n { d with op := 5 } := by rw [← ho]
  rw [hc]
  exact parse_txt (p := (runL 0 (sumWs base n d) ⟨[], []⟩).getD ⟨[], []⟩) (sum_no base n d) (Nat.le_trans (sum_len h0 h1 h2 h3 h4 h5 h6 h7 h8 h9) (by decide)) (sum_ws h0 h1 h2 h3 h4 h5 h6 h7 h8 h9) (by kernel_rfl) (by kernel_rfl) (by simp [codeM])
end Go.Proofs.YtmoekoilcdkhfaaGreatDoor
