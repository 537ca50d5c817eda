/- Logs of lists under a text and a number: Drop. -/
import Derived.Test.YtoejhbecogmdbaaDelT
import Derived.Test.YtoejhbecogmdbaaGone
namespace Go.Proofs.Ytoejhbecogmdbaa
open Go.RowKit
set_option linter.unusedVariables false
set_option linter.unusedSimpArgs false

/-- delete, as a step of a region that draws its order. -/
theorem step_delete {P : Program} {ops : Array Oper} {o : Oper} {a : Act} {w : World} {K : Act → World → Prop} {Q : Exit → Act → World → Prop} {E : Prop}
    (hg : o.guard = none) (m x : Operand) (t k : TypeId) (hop : o.op = Op.call { callee := Callee.builtin Builtin.delete, args := #[m, x], argTypes := #[t, k] })
    (mv key : Value) (hm : a.eval m = mv) (hx : a.eval x = key) {w' : World} (hrun : ∀ ty, (Builtin.delete_ #[t, k] ty #[mv, key]).run P w = .ok (.tuple #[]) w')
    (hK : K (a.put o.dst (.tuple #[])) w') :
    if Region.wanted o (yielded ops a.tmps) = true then Oper.wp P o a w K Q else E := by
  have hw : Region.wanted o (yielded ops a.tmps) = true := by simp [Region.wanted, hg]
  rw [if_pos hw]
  unfold Oper.wp
  simp [execOp, hop, resolve, invoke, builtin, hm, hx, hrun, Result.andThen]
  exact hK

section
variable {w : World} {p : Nat} {most : Int} {v : Value} {bm : Nat} {ps : List (Value × Value)}
set_option maxRecDepth 100000 in
theorem dropT_no (h : LogT w p most v bm ps) {s : ByteArray} {n : Int} (hk : OKk (KV s n)) (hn : ∀ x ∈ ps, x.1 ≠ KV s n) :
    Calls Try.prog 14 #[.pointer (some ⟨p, 0, none⟩), KV s n] w fun e w' => e = .returned (.bool false) ∧ Kept (fun _ => False) w w' := by
  have k0 := kept_alloc w (.cells #[.string s, .int .i64 n] 49)
  go_enter Try.func14, Try.ntmps14
  go_wp2_with fail
  generalize w.alloc (.cells #[.string s, .int .i64 n] 49) = w0 at *
  refine (findT_no (h.calm k0) hk hn).mono ?_
  rintro e w1 ⟨rfl, k1⟩
  have k2 := k0.trans k1 (fun _ _ f => f.elim)
  clear h hn hk
  go_wp2
  go_ret
  exact ⟨rfl, k2⟩
set_option maxRecDepth 100000 in
set_option maxHeartbeats 2000000 in
theorem dropT_at (h : LogT w p most v bm ps) {i : Nat} {s : ByteArray} {n : Int} {u : Value} (hi : ps[i]? = some (KV s n, u)) :
    Calls Try.prog 14 #[.pointer (some ⟨p, 0, none⟩), KV s n] w fun e w' => e = .returned (.bool true) ∧ TurnedT w w' p most v bm (ps.eraseIdx i) := by
  have k0 := kept_alloc w (.cells #[.string s, .int .i64 n] 49)
  have hb := boxK w s n
  go_enter Try.func14, Try.ntmps14
  go_wp2_with fail
  generalize w.alloc (.cells #[.string s, .int .i64 n] 49) = w0 at *
  generalize w.heap.size = B at *
  refine (findT_at (h.calm k0) hi).mono ?_
  rintro e wf ⟨rfl, k9⟩
  have hb1 : wf.drew.heap[B]? = some (.cells #[.string s, .int .i64 n] 49 (0, 0)) := (k9.block B (lt_of_heap hb) (fun f => f)).trans hb
  have k1 : Kept (fun _ => False) w wf.drew := (k0.trans k9 (fun _ _ f => f.elim)).drew
  have d0 : wf.drew.cell? ⟨B, 0, none⟩ = some (.string s) := cell_of_heap hb1
  have d1 : wf.drew.cell? ⟨B, 1, none⟩ = some (.int .i64 n) := cell_of_heap hb1
  clear hb hb1 k0 k9
  go_wp2_with fail
  have h1 := h.calm k1
  clear h
  obtain ⟨g, cap, rfl, hg, hc, hlt⟩ := h1.row hi
  obtain ⟨m, hm⟩ : ∃ m, ps.length = i + 1 + m := ⟨ps.length - i - 1, by omega⟩
  obtain ⟨f, hf, hx⟩ := h1.map
  have c2 := h1.c2
  obtain ⟨w2, hdel, k2, hs2, hmap⟩ := hf.drop lawK Try.underlying77 (okK _ (h1.keys _ (List.mem_of_getElem? hi)))
  have hp := lt_of_heap h1.heap
  have n1 : p ≠ g := fun e => h1.ne1 (by simp [Value.ownBlock, e])
  have n2 : g ≠ bm := fun e => h1.ne2 (by simp [Value.ownBlock, e])
  have hp2 : w2.heap[p]? = some (.cells #[.int .i64 most, .slice (some ⟨g, 0, none⟩) ps.length cap, .map (some bm)] 80 (0, 0)) := (k2.block p hp h1.ne3).trans h1.heap
  have ho2 : w2.ownsRow 0 85 3 (.slice (some ⟨g, 0, none⟩) ps.length cap) ps.length (flat ps) := own_loc h1.own (fun b hb => by simp [Value.ownBlock] at hb; subst hb; exact k2.block g hg n2)
  have c1 : w2.cell? ⟨p, 1, none⟩ = some (.slice (some ⟨g, 0, none⟩) ps.length cap) := cell_of_heap hp2
  have hsm := h1.small
  rw [hm] at ho2 c1 hsm
  have hD := delT_ok ho2 hsm (flat_ones h1.wide)
  have HH : Hid (LogT wf.drew p most (.slice (some ⟨g, 0, none⟩) ps.length cap) bm ps ∧ ps.length = i + 1 + m ∧ Idx OKk f ps ∧ ps[i]? = some (KV s n, u) ∧ (∀ f' : Value → Option Value, f' (KV s n) = none → (∀ x, x ≠ KV s n → f' x = f x) → MapIs Try.prog 49 w2 bm f') ∧ w2.heap[p]? = some (.cells #[.int .i64 most, .slice (some ⟨g, 0, none⟩) ps.length cap, .map (some bm)] 80 (0, 0))) := ⟨h1, hm, hx, hi, hmap, hp2⟩
  have hb1 : (i : Int) + 1 ≤ 4096 := by omega
  clear h1 hm hx hi hmap hf hs2 hp2 ho2
  go_region_law (refine step_delete (by rfl) (.tmp 20) (.tmp 21) 77 49 (by rfl) (.map (some bm)) (KV s n) (by rfl) (by rfl) hdel ?_)
  all_goals
    clear d0 d1
    go_wp2_with fail
    refine hD.mono ?_
    rintro e w3 ⟨rfl, ho3, k3⟩
    have hp3 : w3.heap[p]? = some (.cells #[.int .i64 most, .slice (some ⟨g, 0, none⟩) ps.length cap, .map (some bm)] 80 (0, 0)) := (k3.block p (lt_of_heap HH.out.2.2.2.2.2) n1).trans HH.out.2.2.2.2.2
    have c3 : w3.cell? ⟨p, 1, none⟩ = some (.slice (some ⟨g, 0, none⟩) ps.length cap) := cell_of_heap hp3
    have f3 : w3.frozen? ⟨p, 1, none⟩ = false := frozen_of_heap hp3
    have HP : Hid (w3.heap[p]? = some (.cells #[.int .i64 most, .slice (some ⟨g, 0, none⟩) ps.length cap, .map (some bm)] 80 (0, 0))) := hp3
    have b0 : (0 : Int) ≤ i := by omega
    have b1 : (i : Int) ≤ (i : Int) + m := by omega
    have b2 : ¬ cap = i := by omega
    have b3 : (i : Int) + m ≤ cap := by have := HH.out.2.1; omega
    clear hp3 hD hdel c1 c2
    go_wp2_with fail
    obtain ⟨h1, hm, hx, hi, hmap, hp2⟩ := HH.out
    have hlen : (ps.eraseIdx i).length = i + m := by rw [List.length_eraseIdx, if_pos (by omega)]; omega
    have hE := flat_erase h1.wide hi
    have hW := h1.wide.erase i
    have hA := hx.apart.erase i
    have hKy : ∀ x ∈ ps.eraseIdx i, OKk x.1 := fun y hy => h1.keys y ((List.eraseIdx_sublist _ _).subset hy)
    have H4p : Hid ((w3.setCell ⟨p, 1, none⟩ (.slice (some ⟨g, 0, none⟩) (i + m) cap)).heap[p]? = some (.cells #[.int .i64 most, .slice (some ⟨g, 0, none⟩) (i + m) cap, .map (some bm)] 80 (0, 0))) := by
      show _ = _
      rw [heap_setCell_at HP.out]
      rfl
    have H4o : Hid ((w3.setCell ⟨p, 1, none⟩ (.slice (some ⟨g, 0, none⟩) (i + m) cap)).ownsRow 0 85 3 (.slice (some ⟨g, 0, none⟩) (i + m) cap) (i + m) (flat (ps.eraseIdx i))) := by
      show World.ownsRow ..
      rw [hE]
      exact ownsRow_setCell_far ho3 (a := ⟨p, 1, none⟩) (by simpa [Value.ownBlock] using Ne.symm n1) (.slice (some ⟨g, 0, none⟩) (i + m) cap)
    have hbm : bm < w2.heap.size := (hmap (fun x => by classical exact if x = KV s n then none else f x) (by simp) (fun x hx => by simp [hx])).lt
    have H4m : Hid (∃ f', MapIs Try.prog 49 (w3.setCell ⟨p, 1, none⟩ (.slice (some ⟨g, 0, none⟩) (i + m) cap)) bm f' ∧ Part OKk f' (ps.eraseIdx i) (i + 0)) := by
      classical
      refine ⟨fun x => if x = KV s n then none else f x, (hmap _ (by simp) (fun x hx => by simp [hx])).loc ?_, Part.start hx hi (by simp) (fun x hx => by simp [hx])⟩
      rw [heap_setCell_far (by simpa using h1.ne3.symm), k3.block bm hbm n2.symm]
    have HF : Hid (∀ w5 f', Kept (fun b => b = bm) (w3.setCell ⟨p, 1, none⟩ (.slice (some ⟨g, 0, none⟩) (i + m) cap)) w5 → MapIs Try.prog 49 w5 bm f' → Idx OKk f' (ps.eraseIdx i) → TurnedT w w5 p most (.slice (some ⟨g, 0, none⟩) ps.length cap) bm (ps.eraseIdx i)) :=
      fun w5 f' a1 a2 a3 => Turned.after k1 (h1.gone hi hm k2 k3 ho3 a1 a2 a3)
    have hgb : g ≠ bm := n2
    have hpb : p ≠ bm := h1.ne3
    clear h1 hm hx hi hmap hp2 HH hE c3 f3 HP ho3 k2 k3 hbm k1 hg hc hlt hb1 n1 n2
    generalize w3.setCell ⟨p, 1, none⟩ (.slice (some ⟨g, 0, none⟩) (i + m) cap) = w4 at *
    obtain ⟨qs, HQ⟩ : ∃ qs, Hid (qs = ps.eraseIdx i) := ⟨_, rfl⟩
    rw [← HQ.out] at hlen hW hA hKy H4o H4m HF
    go_loopw [40] (fun j wr => ∃ c : Nat, j = .int .i64 c ∧ c ≤ m ∧ Kept (fun b => b = bm) w4 wr ∧ ∃ f', MapIs Try.prog 49 wr bm f' ∧ Part OKk f' qs (i + c)) (fun j _ => m - (intOf j).toNat)
    case atStart => exact ⟨0, rfl, Nat.zero_le _, Kept.refl _ _, H4m.out⟩
    case round =>
      obtain ⟨c, rfl, hc, hk, f', hf', hP⟩ := hrel
      by_cases hlt : c < m
      · have hx : qs[i + c]? = some qs[i + c] := List.getElem?_eq_getElem (by omega)
        obtain ⟨sc, nc, hkc, hwf⟩ := hKy _ (List.mem_of_getElem? hx)
        generalize qs[i + c] = x at *
        obtain ⟨xk, xu⟩ := x
        simp only at hkc
        subst hkc
        have hg4 : g < w4.heap.size := (H4o.out.lt g rfl).2
        have cell : ∀ j, j < 3 → wr.cell? ⟨g, (i + c) * 3 + j, none⟩ = (pcells (KV sc nc, xu))[j]? := by
          intro j hj
          rw [World.cell?_of_block (hk.block g hg4 hgb), H4o.out.cellAt _ (by omega), flat_at hW hx hj]
        have e1 : wr.cell? ⟨g, i * 3 + c * 3, none⟩ = some (.string sc) := by rw [← Nat.add_mul]; exact cell 0 (by omega)
        have e2 : wr.cell? ⟨g, i * 3 + c * 3 + 1, none⟩ = some (.int .i64 nc) := by rw [← Nat.add_mul]; exact cell 1 (by omega)
        have e3 : wr.cell? ⟨g, i * 3 + c * 3 + 2, none⟩ = some xu := by rw [← Nat.add_mul]; exact cell 2 (by omega)
        have b5 : (0 : Int) ≤ c := Int.natCast_nonneg _
        have b6 : (c : Int) < m := by omega
        have hxu : xu.oneCell' = true := (hW _ (List.mem_of_getElem? hx)).2 xu (by simp [pcells])
        have HX : Hid (qs[i + c]? = some (KV sc nc, xu)) := hx
        have HL : Hid (qs.length = i + m) := hlen
        clear hx cell hlen
        have kA := kept_alloc wr (.cells #[.string sc, .int .i64 nc, xu] 85)
        have dA : (wr.alloc (.cells #[.string sc, .int .i64 nc, xu] 85)).cell? ⟨wr.heap.size, 0, none⟩ = some (.string sc) := cell_of_heap (heap_alloc_new wr _)
        have dA1 : (wr.alloc (.cells #[.string sc, .int .i64 nc, xu] 85)).cell? ⟨wr.heap.size, 1, none⟩ = some (.int .i64 nc) := cell_of_heap (heap_alloc_new wr _)
        have hsv : (store ⟨wr.heap.size, 2, none⟩ xu).run Try.prog (wr.alloc (.cells #[.string sc, .int .i64 nc, .slice none 0 0] 85)) = .ok () (wr.alloc (.cells #[.string sc, .int .i64 nc, xu] 85)) := by
          rw [run_store _ _ _ _ _ hxu, cell_of_heap (heap_alloc_new wr _), show (wr.alloc (.cells #[.string sc, .int .i64 nc, .slice none 0 0] 85)).frozen? ⟨wr.heap.size, 2, none⟩ = false from frozen_of_heap (heap_alloc_new wr _)]
          simp [World.setCell_alloc_at]
        go_wp2_with (simp only [hsv])
        have hkA := hk.trans kA (fun _ _ f => f.elim)
        have d2 : (wr.alloc (.cells #[.string sc, .int .i64 nc, xu] 85)).drew.cell? ⟨p, 2, none⟩ = some (.map (some bm)) := cell_of_heap ((hkA.block p (lt_of_heap H4p.out) hpb).trans H4p.out)
        have dB : (wr.alloc (.cells #[.string sc, .int .i64 nc, xu] 85)).drew.cell? ⟨wr.heap.size, 0, none⟩ = some (.string sc) := dA
        have dB1 : (wr.alloc (.cells #[.string sc, .int .i64 nc, xu] 85)).drew.cell? ⟨wr.heap.size, 1, none⟩ = some (.int .i64 nc) := dA1
        obtain ⟨w5, hst, k5, _, hm5⟩ := (hf'.loc (w' := (wr.alloc (.cells #[.string sc, .int .i64 nc, xu] 85)).drew) (kA.block bm hf'.lt (fun f => f))).store lawK Try.underlying77 (okK _ ⟨sc, nc, rfl, hwf⟩) (.int .i64 ((i : Int) + c))
        have HK : Hid (Kept (fun b => b = bm) w4 w5) := hkA.drew.trans k5 (fun _ _ f => f)
        have HP' : Hid (∃ f', MapIs Try.prog 49 w5 bm f' ∧ Part OKk f' qs (i + (c + 1))) := by
          classical
          refine ⟨fun y => if y = KV sc nc then some (.int .i64 ((i : Int) + c)) else f' y, hm5 _ (by simp) (fun y hy => by simp [hy]), ?_⟩
          exact hP.step hA HX.out (by simp) (fun y hy => by simp [hy])
        have hwr : IntKind.i64.wrap ((i : Int) + c) = (i : Int) + c := by rw [IntKind.wrap_i64]; omega
        clear hkA kA k5 hm5 hP hf' hk dA dA1
        generalize wr.alloc (.cells #[.string sc, .int .i64 nc, xu] 85) = wa at *
        go_region
        all_goals
          go_wp2
          go_roundw
          case rel => exact ⟨c + 1, by go_num, by omega, HK.out, HP'.out⟩
          case measure => simp [intOf]; omega
      · obtain rfl : c = m := by omega
        go_wp2
        go_ret
        exact ⟨rfl, HQ.out ▸ HF.out _ _ hk hf' (hP.done (by omega))⟩
end
end Go.Proofs.Ytoejhbecogmdbaa
