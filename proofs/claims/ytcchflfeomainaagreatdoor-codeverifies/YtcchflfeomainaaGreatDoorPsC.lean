/- A label of a text. -/
import Derived.Test.YtcchflfeomainaaGreatDoorPsB
namespace Go.Proofs.YtcchflfeomainaaGreatDoor
open Go.RowKit
set_option linter.unusedVariables false
set_option linter.unusedSimpArgs false

/-- A reader, all of it. -/
structure RdS (o : World) (R : List It) (r bt mb : Nat) (line : Int) (v : Value) (p : Pst) (w : World) : Prop where
  st : St o (boxI r (rdC bt mb line v) 117 :: boxI bt tabC 57 :: mapI mb p.ls :: ownI 129 4 v p.ds.length (drCells p.ds) :: R) w
  env : Env o
  nd : p.ls.Pairwise (fun a b => a.1 ≠ b.1)
  nl : p.ls.length ≤ 400
  nds : p.ds.length ≤ 400
  xs : ∀ d ∈ p.ds, d.lab.length ≤ 65536 ∧ 0 ≤ d.x.op ∧ d.x.op < 23
section
variable {o w : World} {R : List It} {r bt mb : Nat} {line : Int} {v : Value} {p : Pst}
theorem RdS.rdw (h : RdS o R r bt mb line v p w) : RdW r bt mb line v w := ⟨h.st.get 0 rfl, h.st.get 1 rfl, h.env.kept h.st.same⟩
theorem RdS.map (h : RdS o R r bt mb line v p w) : MapL w mb p.ls := h.st.get 2 rfl
theorem RdS.own (h : RdS o R r bt mb line v p w) : w.ownsRow 0 129 4 v p.ds.length (drCells p.ds) := h.st.get 3 rfl
theorem RdS.calm {w' : World} (h : RdS o R r bt mb line v p w) (k : Kept (fun _ => False) w w') : RdS o R r bt mb line v p w' := ⟨h.st.calm k, h.env, h.nd, h.nl, h.nds, h.xs⟩
theorem pair_snoc {ls : List Lab} {x : List UInt8} {n : Int} (h : ls.Pairwise (fun a b => a.1 ≠ b.1)) (hf : findM ls x = none) : (ls ++ [(x, n)]).Pairwise (fun a b => a.1 ≠ b.1) := by
  rw [List.pairwise_append]
  refine ⟨h, by simp, fun a ha b hb e => ?_⟩
  rw [List.mem_singleton.1 hb] at e
  unfold findM at hf
  rw [Option.map_eq_none_iff, List.find?_eq_none] at hf
  exact absurd (hf a ha) (by simp [e])
theorem RdS.len_v (h : RdS o R r bt mb line v p w) : ∃ a c, v = .slice a p.ds.length c := by
  rcases h.own.2 with ⟨h1, h2⟩ | ⟨g, cap, cur, h1, _⟩
  · exact ⟨none, 0, by rw [h1, h2]⟩
  · exact ⟨_, cap, h1⟩
set_option maxRecDepth 100000 in
set_option maxHeartbeats 1000000 in
theorem label_any (x : List UInt8) (hx : x.length ≤ 65536) (h : RdS o R r bt mb line v p w) :
    Calls Tryz.prog 69 #[.pointer (some ⟨r, 0, none⟩), .string (bs x)] w fun e w' => Res 100 o (fun p' e w' => e = .returned (.tuple #[]) ∧ RdS o R r bt mb line v p' w') (labelM line x p) e w' := by
  have hr : w.heap[r]? = some (.cells (rdC bt mb line v) 117 (0, 0)) := h.rdw.hr
  have c1 : w.cell? ⟨r, 1, none⟩ = some (.int .i64 line) := cell_of_heap hr
  have c2 : w.cell? ⟨r, 2, none⟩ = some (.map (some mb)) := cell_of_heap hr
  have hq := fun W => isName_any (bs x) W (by rw [bs_size]; exact hx)
  have ed : (bs x).data.toList = x := by simp
  rw [ed] at hq
  clear ed
  unfold labelM
  have HK : Hid (Kept (fun _ => False) o w) := h.st.same
  by_cases hn : nameB x = false
  · rw [if_pos hn]
    rw [hn] at hq
    clear h hr hn
    go_enter Tryz.func69, Tryz.ntmps69
    go_wp2_with (first | (go_at_call 81; refine (hq _).mono ?_; rintro e w1 ⟨rfl, rfl⟩) | (go_at_call 60; refine (giveUp_any _ _ _).mono ?_; rintro e w2 ⟨rfl, rfl⟩))
    exact ⟨rfl, rfl, HK.out⟩
  · rw [if_neg hn]
    have hn := Bool.not_eq_false _ ▸ hn
    rw [hn] at hq
    have hlk := h.map.look h.nd hx
    by_cases hf : (findM p.ls x).isSome = true
    · rw [if_pos hf]
      rw [hf] at hlk
      generalize (findM p.ls x).getD 0 = fv at *
      clear h hr hn
      go_enter Tryz.func69, Tryz.ntmps69
      go_wp2_with (first | (go_at_call 81; refine (hq _).mono ?_; rintro e w1 ⟨rfl, rfl⟩) | (go_at_call 60; refine (giveUp_any _ _ _).mono ?_; rintro e w2 ⟨rfl, rfl⟩))
      exact ⟨rfl, rfl, HK.out⟩
    · rw [if_neg hf]
      have hf := Bool.eq_false_iff.2 hf
      rw [hf] at hlk
      have hnone : findM p.ls x = none := by simpa using hf
      generalize (findM p.ls x).getD 0 = fv at *
      have hlen := fun ty => h.map.len ty
      by_cases h4 : p.ls.length = 400
      · rw [if_pos h4]
        rw [h4] at hlen
        clear h hr hn hf
        go_enter Tryz.func69, Tryz.ntmps69
        go_wp2_with (first | (go_at_call 81; refine (hq _).mono ?_; rintro e w1 ⟨rfl, rfl⟩) | (go_at_call 60; refine (giveUp_any _ _ _).mono ?_; rintro e w2 ⟨rfl, rfl⟩) | simp only [hlen])
        exact ⟨rfl, rfl, HK.out⟩
      · rw [if_neg h4]
        have h4' : ((p.ls.length : Int) == 400) = false := by simp; omega
        obtain ⟨va, vc, hv⟩ := h.len_v
        have c3 : w.cell? ⟨r, 3, none⟩ = some (.slice va p.ds.length vc) := by rw [← hv]; exact cell_of_heap hr
        obtain ⟨w', hst, hkm, hm'⟩ := (show MapL w.drew mb p.ls from h.map).store hx hnone (p.ds.length : Int)
        have HX : Hid (RdS o R r bt mb line v ⟨p.ls ++ [(x, (p.ds.length : Int))], p.ds⟩ w') := by
          refine ⟨?_, h.env, pair_snoc h.nd hnone, ?_, h.nds, h.xs⟩
          · exact h.st.drew.set 2 (A' := mapI mb (p.ls ++ [(x, (p.ds.length : Int))])) rfl (hkm.mono (fun b _ e => by rw [e]; exact List.mem_singleton.2 rfl)) hm' (by simp [mapI]) (fun b hb => .inl hb)
          · have := h.nl; simp; omega
        generalize p.ls.length = ln at *
        generalize p.ds.length = dn at *
        clear h hr hn hf hkm hm' hnone hv
        go_enter Tryz.func69, Tryz.ntmps69
        go_wp2_with (first | (go_at_call 81; refine (hq _).mono ?_; rintro e w1 ⟨rfl, rfl⟩) | simp only [hlen])
        go_region
        go_wp2
        go_end0
        exact ⟨rfl, HX.out⟩
end
end Go.Proofs.YtcchflfeomainaaGreatDoor
