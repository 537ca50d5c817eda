/- Fill, of the code and of the document: the first cells hold what a list has. -/
import Derived.Test.YtebhjfoggogmaaaPlain
import Derived.Laws.CopyOwn
namespace Go.Proofs.Ytebhjfoggogmaaa
open Go.RowKit
set_option linter.unusedVariables false
set_option linter.unusedSimpArgs false
attribute [local go_sem ↓] Go.wp_at_zero Go.wp_at_succ

def fillErr (xs zs : List Int) : Int := if xs.length < zs.length then 3 else 0
def fillRow (xs zs : List Int) : List Int := if xs.length < zs.length then xs else zs ++ xs.drop zs.length
theorem fillRow_length (xs zs : List Int) : (fillRow xs zs).length = xs.length := by
  unfold fillRow; split
  · rfl
  · simp; omega

theorem Kept.setRow {F : Nat → Prop} {a w : World} (h : Kept F a w) {c : Nat} (cs : Array Value) (hc : F c) : Kept F a (w.setRow c cs) :=
  ⟨h.os, h.tape, h.output, by simpa [World.setRow] using h.size, fun k hk hf => (setRow_other w c k cs (fun e => hf (e ▸ hc))).trans (h.block k hk hf)⟩

theorem RowIn.laid {t : TypeId} {b : Nat} {w : World} {r c m : Nat} {kind : Int} {xs ys : List Int} (h : RowIn t b w r c m kind xs) (hl : ys.length = xs.length) : RowIn t b (w.setRow c (ints ys)) r c m kind ys := by
  refine ⟨?_, setRow_heap w c _ _ _ _ h.cells, by rw [hl]; exact h.small, h.rb, h.cb, h.rc, h.rm, h.cm⟩
  rw [setRow_other w c r _ h.rc, hl]
  exact h.row

set_option maxRecDepth 100000 in
set_option maxHeartbeats 1000000 in
theorem fill_met {b r c m : Nat} {kind : Int} {xs zs : List Int} {la : Option Addr} {n lc : Nat} (w : World) (hr : RowIn 81 b w r c m kind xs) (hl : IntsIn w la n zs) (hn : n ≤ 17592186044416) :
    Calls Try.prog 37 #[.pointer (some ⟨r, 0, none⟩), .slice la n lc] w fun e w' => e = .returned (.int .i64 (fillErr xs zs)) ∧ RowIn 81 b w' r c m kind (fillRow xs zs) ∧ Kept (fun k => k = c) w w' := by
  have c2 : w.cell? ⟨r, 2, none⟩ = some (.slice (some ⟨c, 0, none⟩) xs.length xs.length) := cell_of_heap hr.row
  obtain ⟨hnz, hl⟩ := hl
  have hsm := hr.small
  by_cases hgt : xs.length < n
  · have e1 : fillErr xs zs = 3 := by simp [fillErr, ← hnz, hgt]
    have e2 : fillRow xs zs = xs := by simp [fillRow, ← hnz, hgt]
    rw [e1, e2]
    clear e1 e2 hnz hl
    have h1 : (xs.length : Int) < (n : Int) := by omega
    have HR := hr
    clear hr
    go_enter Try.func37, Try.ntmps37
    go_wp2
    go_ret
    exact ⟨rfl, HR, Kept.refl _ _⟩
  · have e1 : fillErr xs zs = 0 := by simp [fillErr, ← hnz, hgt]
    have e2 : fillRow xs zs = zs ++ xs.drop zs.length := by simp [fillRow, ← hnz, hgt]
    rw [e1, e2]
    clear e1 e2
    have h1 : ¬ (xs.length : Int) < (n : Int) := by omega
    have hsz : (Try.prog.info? 2).map (·.size) = some 1 := by
      obtain ⟨i0, hi0, hz0, hz1, hz2⟩ := info_parts Try.info2
      rw [hi0]; simp [hz1]
    by_cases h0 : n = 0
    · subst h0
      have : zs = [] := List.length_eq_zero_iff.1 hnz.symm
      subst this
      have HR := hr
      clear hr hl hnz
      have hcp : (Builtin.copy_ #[37, 37] 3 #[.slice (some ⟨c, 0, none⟩) xs.length xs.length, .slice la 0 lc]).run Try.prog w = .ok (goInt 0) w := run_copy_none w 37 37 3 2 _ _ _ _ _ _ Try.underlying37 hsz (by simp)
      go_enter Try.func37, Try.ntmps37
      go_wp2
      go_ret
      exact ⟨rfl, by simpa using HR, Kept.refl _ _⟩
    · obtain ⟨g, o, rfl, hg⟩ := hl (by omega)
      have HR := hr
      have hcc := hr.cells
      have HN : Hid (n = zs.length) := hnz
      have hsrc : ∀ j v, (zs.map (Value.int .i64))[j]? = some v → w.cell? ((⟨g, o, none⟩ : Addr).add j) = some v := by
        intro j v hv
        have hj : j < n := by
          have := (List.getElem?_eq_some_iff.1 hv).1
          simp at this; omega
        have hz := hg j hj
        have ea : (⟨g, o, none⟩ : Addr).add j = ⟨g, o + j, none⟩ := by unfold Addr.add; split <;> simp_all
        rw [ea, hz]
        simp [show j < zs.length by omega] at hv
        simp [show j < zs.length by omega, hv]
      have hlen : (zs.map (Value.int .i64)).length = Nat.min n xs.length := by
        rw [List.length_map, ← hnz]; exact (Nat.min_eq_left (by omega)).symm
      have hfit : 0 + (zs.map (Value.int .i64)).length ≤ (ints xs).size := by simp [ints]; omega
      have hcur : ((ints xs).toList.take 0 ++ (zs.map (Value.int .i64) ++ (ints xs).toList.drop (0 + (zs.map (Value.int .i64)).length))).toArray = ints (zs ++ xs.drop zs.length) := by simp [ints]
      clear hr hg hnz
      have hcp : (Builtin.copy_ #[37, 37] 3 #[.slice (some ⟨c, 0, none⟩) xs.length xs.length, .slice (some ⟨g, o, none⟩) n lc]).run Try.prog w = .ok (goInt (zs.map (Value.int .i64)).length) (w.setRow c (ints (zs ++ xs.drop zs.length))) := by
        rw [← hcur]
        simpa using run_copy_row (P := Try.prog) w 37 37 3 2 c 0 xs.length xs.length ⟨g, o, none⟩ n lc (ints xs) 2 (zs.map (Value.int .i64)) Try.underlying37 hsz hcc hlen hsrc hfit (ints_one zs)
      clear hcc hsrc hlen hfit hcur
      go_enter Try.func37, Try.ntmps37
      go_wp2
      go_ret
      exact ⟨rfl, HR.laid (by have := HN.out; simp; omega), (Kept.refl _ _).setRow _ rfl⟩

set_option maxRecDepth 100000 in
set_option maxHeartbeats 1000000 in
theorem refFill_met {b r c m : Nat} {kind : Int} {xs zs : List Int} {la : Option Addr} {n lc : Nat} (w : World) (hr : RowIn 48 b w r c m kind xs) (hl : IntsIn w la n zs) (hn : n ≤ 17592186044416) (hap : ∀ a, la = some a → 0 < n → a.block ≠ c) :
    Calls Try.prog 38 #[.pointer (some ⟨r, 0, none⟩), .slice la n lc] w fun e w' => e = .returned (.int .i64 (fillErr xs zs)) ∧ RowIn 48 b w' r c m kind (fillRow xs zs) ∧ Kept (fun k => k = c) w w' := by
  have c2 : w.cell? ⟨r, 2, none⟩ = some (.slice (some ⟨c, 0, none⟩) xs.length xs.length) := cell_of_heap hr.row
  obtain ⟨hnz, hl⟩ := hl
  have hsm := hr.small
  by_cases hgt : xs.length < n
  · have e1 : fillErr xs zs = 3 := by simp [fillErr, ← hnz, hgt]
    have e2 : fillRow xs zs = xs := by simp [fillRow, ← hnz, hgt]
    rw [e1, e2]
    clear e1 e2 hnz hl hap
    have h1 : (xs.length : Int) < (n : Int) := by omega
    have HR := hr
    clear hr
    go_enter Try.func38, Try.ntmps38
    go_wp2
    go_ret
    exact ⟨rfl, HR, Kept.refl _ _⟩
  · have e1 : fillErr xs zs = 0 := by simp [fillErr, ← hnz, hgt]
    have e2 : fillRow xs zs = zs ++ xs.drop zs.length := by simp [fillRow, ← hnz, hgt]
    rw [e1, e2]
    clear e1 e2
    have h1 : ¬ (xs.length : Int) < (n : Int) := by omega
    have HN : Hid (n = zs.length) := hnz
    have HR := hr
    clear hnz hr
    go_enter Try.func38, Try.ntmps38
    go_wp2_with fail
    go_loopw [5] (fun i wr => ∃ j : Nat, i = .int .i64 j ∧ j ≤ n ∧ RowIn 48 b wr r c m kind (zs.take j ++ xs.drop j) ∧ Kept (fun k => k = c) w wr) (fun i _ => n - (intOf i).toNat)
    case atStart => exact ⟨0, rfl, Nat.zero_le _, by simpa using HR, Kept.refl _ _⟩
    case round =>
      obtain ⟨j, rfl, hj, hrr, hkk⟩ := hrel
      by_cases hlt : j < n
      · obtain ⟨g, o, rfl, hg⟩ := hl (by omega)
        have hgl : g < w.heap.size := World.block_lt_of_cell? w _ (hg j hlt)
        have hgc := hap _ rfl (by omega)
        have ez : wr.cell? ⟨g, o + j, none⟩ = some (.int .i64 (zs.getD j 0)) := (World.cell?_of_block (hkk.block g hgl hgc)).trans (hg j hlt)
        have elen : (zs.take j ++ xs.drop j).length = xs.length := by have := HN.out; simp; omega
        have e2 : wr.cell? ⟨r, 2, none⟩ = some (.slice (some ⟨c, 0, none⟩) xs.length xs.length) := by rw [← elen]; exact cell_of_heap hrr.row
        have HL : Hid ((zs.take j ++ xs.drop j).length = xs.length) := elen
        clear elen
        obtain ⟨y, ey⟩ : ∃ y, wr.cell? ⟨c, j, none⟩ = some y := ⟨_, (cell_of_heap hrr.cells).trans (Array.getElem?_eq_getElem (by rw [ints_size, HL.out]; omega))⟩
        have fy : wr.frozen? ⟨c, j, none⟩ = false := frozen_of_heap hrr.cells
        have HS : Hid (RowIn 48 b (wr.setCell ⟨c, j, none⟩ (.int .i64 (zs.getD j 0))) r c m kind (zs.take (j + 1) ++ xs.drop (j + 1))) := by
          have := hrr.stored j (zs.getD j 0)
          have eset : (zs.take j ++ xs.drop j).set j (zs.getD j 0) = zs.take (j + 1) ++ xs.drop (j + 1) := by
            have hjz : j < zs.length := by have := HN.out; omega
            have hjx : j < xs.length := by omega
            rw [List.set_append_right _ _ (by simp; omega)]
            rw [List.drop_eq_getElem_cons hjx]
            simp only [List.length_take, Nat.min_eq_left (Nat.le_of_lt hjz), Nat.sub_self, List.set_cons_zero]
            rw [List.take_succ_eq_append_getElem hjz]
            simp [hjz, -List.take_append_getElem]
          rw [eset] at this
          exact this
        have HK : Hid (Kept (fun k => k = c) w (wr.setCell ⟨c, j, none⟩ (.int .i64 (zs.getD j 0)))) := hkk.setCell _ (.inl rfl)
        generalize zs.getD j 0 = z at ez HS HK
        clear hg hrr hkk hl
        have h0 : (0 : Int) ≤ (j : Int) := Int.natCast_nonneg _
        have h2 : (j : Int) < (n : Int) := by omega
        have h3 : (j : Int) < (xs.length : Int) := by omega
        go_wp2_with fail
        go_region
        all_goals
          go_wp2
          go_roundw
          case rel => exact ⟨j + 1, by go_num, by omega, HS.out.drew, HK.out.drew⟩
          case measure => simp [intOf]; omega
      · obtain rfl : j = n := by omega
        go_wp2
        go_ret
        have e : zs.take j = zs := List.take_of_length_le (by have := HN.out; omega)
        rw [e, HN.out] at hrr
        exact ⟨rfl, hrr, hkk⟩
end Go.Proofs.Ytebhjfoggogmaaa
