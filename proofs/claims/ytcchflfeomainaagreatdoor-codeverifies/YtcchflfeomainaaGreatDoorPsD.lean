/- A line of a text. -/
import Derived.Test.YtcchflfeomainaaGreatDoorPsC
import Derived.Deep.RegionLaw
import Derived.Deep.AppendLies
import Derived.Deep.RegionWith
import Derived.RowKit3
import Derived.Deep.DrawnRows
namespace Go.Proofs.YtcchflfeomainaaGreatDoor
open Go.RowKit
set_option linter.unusedVariables false
set_option linter.unusedSimpArgs false
attribute [local go_sem ↓] Go.wp_at_zero Go.wp_at_succ

theorem St.ownGrow {o w w' : World} {its : List It} (h : St o its w) (i : Nat) {e : TypeId} {z n n' : Nat} {v v' : Value} {xs xs' : List Value} (hi : its[i]? = some (ownI e z v n xs)) (p : w'.ownsRow 0 e z v' n' xs') (k : Kept (fun b => v.ownBlock = some b) w w') (hf : v'.ownBlock = v.ownBlock ∨ ∃ g, v'.ownBlock = some g ∧ w.heap.size ≤ g) : St o (its.set i (ownI e z v' n' xs')) w' := by
  refine h.set i hi (k.mono (fun b _ hb => by simp [ownI, hb])) p (own_nodup v') (fun b hb => ?_)
  simp only [ownI] at hb ⊢
  rcases hf with hf | ⟨g, hg, hlt⟩
  · rw [hf] at hb; exact .inl hb
  · rw [hg] at hb
    right
    simp at hb
    omega
section
variable {o w : World} {its : List It}
/-- An own list behind an append of one. -/
theorem St.growAt {w2 w1 : World} (h : St o its w2) (i : Nat) {e : TypeId} {sz n n' g cap : Nat} {v : Value} {xs xs' : List Value} {ob : Obj} (hi : its[i]? = some (ownI e sz v n xs)) (hown : w1.ownsRow 0 e sz (.slice (some ⟨g, 0, none⟩) n' cap) n' xs') (hgrow : (w2.alloc ob).grownBy w1 v.ownBlock) (hat : v.ownBlock = some g ∨ g = w2.heap.size + 1) : St o (its.set i (ownI e sz (.slice (some ⟨g, 0, none⟩) n' cap) n' xs')) w1 := by
  refine h.ownGrow i hi hown (((Kept.refl _ w2).alloc ob).grown hgrow (fun k e => .inl e)) ?_
  rcases hat with e | e
  · exact .inl (by rw [e]; rfl)
  · exact .inr ⟨g, rfl, by omega⟩
theorem St.growAtD {w2 w1 : World} (h : St o its w2) (i : Nat) {e : TypeId} {sz n n' g cap : Nat} {v : Value} {xs xs' : List Value} {ob : Obj} (hi : its[i]? = some (ownI e sz v n xs)) (hown : w1.ownsRow 0 e sz (.slice (some ⟨g, 0, none⟩) n' cap) n' xs') (hgrow : ((w2.alloc ob).drew).grownBy w1 v.ownBlock) (hat : v.ownBlock = some g ∨ g = w2.heap.size + 1) : St o (its.set i (ownI e sz (.slice (some ⟨g, 0, none⟩) n' cap) n' xs')) w1 := by
  refine h.ownGrow i hi hown ((((Kept.refl _ w2).alloc ob).drew).grown hgrow (fun k e => .inl e)) ?_
  rcases hat with e | e
  · exact .inl (by rw [e]; rfl)
  · exact .inr ⟨g, rfl, by omega⟩
end

theorem buildDr (W : World) (a b c : Int) (d : ByteArray) : (Instr.buildSlice 115 1 #[(0, .agg #[.int .i64 a, .int .i64 b, .int .i64 c, .string d])]).run Tryz.prog W = .ok (.slice (some ⟨W.heap.size, 0, none⟩) 1 1) (W.alloc (.cells #[.int .i64 a, .int .i64 b, .int .i64 c, .string d] 129)) := by kernel_rfl
theorem Tryz.infoDr : (Tryz.prog.info? 129).map (fun i => (i.zero, i.size, i.bytes)) = some (some (.agg #[.int .i64 0, .int .i64 0, .int .i64 0, .string ⟨#[]⟩]), 4, 40) := by kernel_rfl
section
variable {o w : World} {R : List It} {r bt mb : Nat} {line : Int} {v : Value} {p : Pst}
theorem instr_ok {line : Int} {s : List UInt8} {d : Dr} (h : instrM line s = .ok d) (hs : s.length ≤ 65536) : d.lab.length ≤ 65536 ∧ 0 ≤ d.x.op ∧ d.x.op < 23 := by
  unfold instrM at h
  split at h
  · cases h
  · rename_i op ho
    have h23 := opM_lt ho
    have ht : (tailOf s).length ≤ 65536 := by
      unfold tailOf
      split
      · exact Nat.le_trans (trimLeft_len _ _) (by simp; omega)
      · simp
    unfold operM at h
    split at h
    · split at h
      · cases h; exact ⟨by simp, by simp, by simp; omega⟩
      · cases h
    · split at h
      · cases h; exact ⟨ht, by simp, by simp; omega⟩
      · split at h
        · cases h
        · split at h
          · cases h; exact ⟨by simp, by simp, by simp; omega⟩
          · cases h
set_option maxRecDepth 100000 in
set_option maxHeartbeats 2000000 in
theorem take_any (s : List UInt8) (hs : s.length ≤ 65536) (h8 : Plain8 s) (h : RdS o R r bt mb line v p w) :
    Calls Tryz.prog 62 #[.pointer (some ⟨r, 0, none⟩), .string (bs s)] w fun e w' => Res 100 o (fun p' e w' => e = .returned (.tuple #[]) ∧ ∃ v', RdS o R r bt mb line v' p' w') (takeM line s p) e w' := by
  obtain ⟨i0, hi0, hz0, hz1, hz2⟩ := info_parts Tryz.infoDr
  unfold takeM
  by_cases h0 : s = []
  · rw [if_pos h0]
    subst h0
    go_enter Tryz.func62, Tryz.ntmps62
    go_wp2
    go_end0
    exact ⟨rfl, v, h⟩
  · rw [if_neg h0]
    have hne : (s == []) = false := by simpa using h0
    have hc := fun W => cutSuffix_any (w := W) s hs
    by_cases hsuf : Lib.hasSuffix s [58] = true
    · rw [if_pos hsuf]
      have hlen : (Lib.trimSuffix s [58]).length ≤ 65536 := by
        unfold Lib.trimSuffix
        split
        · simp; omega
        · first | exact hs | (simp; omega)
      have hlb := label_any (Lib.trimSuffix s [58]) hlen h
      rw [hsuf] at hc
      generalize Lib.trimSuffix s [58] = x at *
      generalize labelM line x p = L at *
      clear h hsuf h0 hlen
      cases L with
      | error le =>
        obtain ⟨l', e'⟩ := le
        simp only [Res] at hlb ⊢
        go_enter Tryz.func62, Tryz.ntmps62
        go_wp2_with (first | (go_at_call 68; refine (hc _).mono ?_; rintro e w1 ⟨rfl, rfl⟩) | (go_at_call 69; refine hlb.mono ?_; rintro e w2 ⟨rfl, hk⟩))
        exact ⟨rfl, rfl, hk⟩
      | ok p' =>
        simp only [Res] at hlb ⊢
        go_enter Tryz.func62, Tryz.ntmps62
        go_wp2_with (first | (go_at_call 68; refine (hc _).mono ?_; rintro e w1 ⟨rfl, rfl⟩) | (go_at_call 69; refine hlb.mono ?_; rintro e w2 ⟨rfl, hk⟩; replace hk := hid hk))
        first | go_end0 | refine bodyPost_ret (results_none rfl _ _ _) rfl ?_
        exact ⟨rfl, v, hk.out⟩
    · rw [if_neg hsuf]
      have hsuf := Bool.eq_false_iff.2 hsuf
      rw [hsuf] at hc
      have hin := instr_any r bt mb line v s w h.rdw hs h8
      have HH : Hid (RdS o R r bt mb line v p w) := h
      generalize Lib.trimSuffix s [58] = x at *
      clear h hsuf h0
      cases hd : instrM line s with
      | error le =>
        obtain ⟨l', e'⟩ := le
        have hin2 : Calls Tryz.prog 70 #[.pointer (some ⟨r, 0, none⟩), .string (bs s)] w fun e w' => e = .panicked [{ v := .iface 100 (.agg #[.int .i64 l', .int .i64 e']), recovered := false }] ∧ Kept (fun _ => False) o w' := by
          refine hin.mono ?_
          rintro e w2 ⟨k2, ⟨d, hd2, _⟩ | ⟨l2, e2, hd2, rfl⟩⟩
          · rw [hd] at hd2; cases hd2
          · rw [hd] at hd2; cases hd2
            exact ⟨rfl, HH.out.st.same.trans k2 (fun _ _ f => f)⟩
        simp only [Res]
        clear hin hd HH
        go_enter Tryz.func62, Tryz.ntmps62
        go_wp2_with (first | (go_at_call 68; refine (hc _).mono ?_; rintro e w1 ⟨rfl, rfl⟩) | (go_at_call 70; refine hin2.mono ?_; rintro e w2 ⟨rfl, hk⟩))
        exact ⟨rfl, rfl, hk⟩
      | ok d =>
        have hin2 : Calls Tryz.prog 70 #[.pointer (some ⟨r, 0, none⟩), .string (bs s)] w fun e w' => e = .returned (.agg d.cells.toArray) ∧ RdS o R r bt mb line v p w' := by
          refine hin.mono ?_
          rintro e w2 ⟨k2, ⟨d2, hd2, rfl⟩ | ⟨l2, e2, hd2, _⟩⟩
          · rw [hd] at hd2; cases hd2
            exact ⟨rfl, HH.out.calm k2⟩
          · rw [hd] at hd2; cases hd2
        have hok := instr_ok hd hs
        clear hin hd HH
        simp only
        obtain ⟨dl, ⟨dop, da⟩, dlab⟩ := d
        simp only [Dr.cells] at hin2
        by_cases h4 : p.ds.length = 400
        · rw [if_pos h4]
          simp only [Res]
          go_enter Tryz.func62, Tryz.ntmps62
          go_wp2_with (first | (go_at_call 68; refine (hc _).mono ?_; rintro e w1 ⟨rfl, rfl⟩))
          refine hin2.mono ?_
          clear hin2
          rintro e w2 ⟨rfl, h2⟩
          obtain ⟨va, vc, rfl⟩ := h2.len_v
          have h4' : ((p.ds.length : Int) == 400) = true := by simp [h4]
          have HK : Hid (Kept (fun _ => False) o w2) := h2.st.same
          have c3 : ∀ ob, (w2.alloc ob).cell? ⟨r, 3, none⟩ = some (.slice va p.ds.length vc) := fun ob => cell_of_heap (h2.rdw.kept (kept_alloc w2 ob)).hr
          have c1 : ∀ ob, (w2.alloc ob).cell? ⟨r, 1, none⟩ = some (.int .i64 line) := fun ob => cell_of_heap (h2.rdw.kept (kept_alloc w2 ob)).hr
          generalize p.ds.length = dn at *
          clear h2 h4 hok
          go_wp2_with (first | (go_at_call 60; refine (giveUp_any _ _ _).mono ?_; rintro e w3 ⟨rfl, rfl⟩))
          exact ⟨rfl, rfl, HK.out.alloc _⟩
        · rw [if_neg h4]
          simp only [Res]
          have h4' : ((p.ds.length : Int) == 400) = false := by simp; omega
          go_enter Tryz.func62, Tryz.ntmps62
          go_wp2_with (first | (go_at_call 68; refine (hc _).mono ?_; rintro e w1 ⟨rfl, rfl⟩))
          refine hin2.mono ?_
          clear hin2
          rintro e w2 ⟨rfl, h2⟩
          obtain ⟨va, vc, rfl⟩ := h2.len_v
          have h3 := h2.calm (kept_alloc w2 (.cells #[.int .i64 dl, .int .i64 dop, .int .i64 da, .string (bs dlab)] 129))
          have hd0 : ∀ j u, (#[.int .i64 dl, .int .i64 dop, .int .i64 da, .string (bs dlab)] : Array Value)[j]? = some u → (w2.alloc (.cells #[.int .i64 dl, .int .i64 dop, .int .i64 da, .string (bs dlab)] 129)).cell? ⟨w2.heap.size, j, none⟩ = some u := fun j u hu => (cell_of_heap (heap_alloc_new _ _)).trans hu
          have e0 := hd0 0 _ rfl
          have e1 := hd0 1 _ rfl
          have e2 := hd0 2 _ rfl
          have e3 := hd0 3 _ rfl
          clear h2 hd0
          go_upto_region 5 with fail
          generalize w2.heap.size = M at *
          generalize w2.alloc (.cells #[.int .i64 dl, .int .i64 dop, .int .i64 da, .string (bs dlab)] 129) = w6 at *
          have hown6 : w6.ownsRow 0 129 4 (.slice va p.ds.length vc) p.ds.length (drCells p.ds) := h3.own
          have c3 : w6.cell? ⟨r, 3, none⟩ = some (.slice va p.ds.length vc) := cell_of_heap h3.rdw.hr
          have f3 : w6.frozen? ⟨r, 3, none⟩ = false := frozen_of_heap h3.rdw.hr
          have c1 : w6.cell? ⟨r, 1, none⟩ = some (.int .i64 line) := cell_of_heap h3.rdw.hr
          have hbs := buildDr w6 dl dop da (bs dlab)
          have hbs' := buildDr w6.drew dl dop da (bs dlab)
          have cA : ∀ c t, (w6.alloc (.cells c t)).cell? ⟨r, 3, none⟩ = some (.slice va p.ds.length vc) := fun c t => by rw [World.cell?_of_block (Below.heap_alloc w6 _ r (World.block_lt_of_cell? w6 _ c3))]; exact c3
          have fA : ∀ c t, (w6.alloc (.cells c t)).frozen? ⟨r, 3, none⟩ = false := fun c t => by rw [frozen?_alloc_cells]; exact f3
          have HV : Hid (∀ g2 cap2 w1, w1.ownsRow 0 129 4 (.slice (some ⟨g2, 0, none⟩) (p.ds.length + 1) cap2) (p.ds.length + 1) (drCells p.ds ++ [.int .i64 dl, .int .i64 dop, .int .i64 da, .string (bs dlab)]) → ((w6.alloc (.cells #[.int .i64 dl, .int .i64 dop, .int .i64 da, .string (bs dlab)] 129)).drew).grownBy w1 (Value.ownBlock (.slice va p.ds.length vc)) → (Value.ownBlock (.slice va p.ds.length vc) = some g2 ∨ g2 = w6.heap.size + 1) →
              RdS o R r bt mb line (.slice (some ⟨g2, 0, none⟩) (p.ds.length + 1) cap2) ⟨p.ls, p.ds ++ [⟨dl, ⟨dop, da⟩, dlab⟩]⟩ (w1.setCell ⟨r, 3, none⟩ (.slice (some ⟨g2, 0, none⟩) (p.ds.length + 1) cap2)) ∧ w1.cell? ⟨r, 3, none⟩ = some (.slice va p.ds.length vc) ∧ w1.frozen? ⟨r, 3, none⟩ = false) := by
            intro g2 cap2 w1 p1 p2 p3
            have a1 := h3.st.growAtD 3 rfl (n' := p.ds.length + 1) (xs' := drCells p.ds ++ [.int .i64 dl, .int .i64 dop, .int .i64 da, .string (bs dlab)]) p1 p2 p3
            refine ⟨⟨?_, h3.env, h3.nd, h3.nl, ?_, ?_⟩, a1.cell 0 rfl 3, a1.frozen 0 rfl 3⟩
            · have a2 := a1.write 0 rfl 3 (.slice (some ⟨g2, 0, none⟩) (p.ds.length + 1) cap2)
              have el : (p.ds ++ [(⟨dl, ⟨dop, da⟩, dlab⟩ : Dr)]).length = p.ds.length + 1 := by simp
              have ec : drCells (p.ds ++ [(⟨dl, ⟨dop, da⟩, dlab⟩ : Dr)]) = drCells p.ds ++ [.int .i64 dl, .int .i64 dop, .int .i64 da, .string (bs dlab)] := by rw [drCells_append]; simp [drCells, Dr.cells]
              show St o (_ :: _ :: _ :: ownI _ _ _ (p.ds ++ [(⟨dl, ⟨dop, da⟩, dlab⟩ : Dr)]).length (drCells (p.ds ++ [(⟨dl, ⟨dop, da⟩, dlab⟩ : Dr)])) :: R) _
              rw [el, ec]
              exact a2
            · have := h3.nds; simp; omega
            · intro d hd
              rcases List.mem_append.1 hd with hd | hd
              · exact h3.xs d hd
              · rw [List.mem_singleton.1 hd]; exact hok
          have hds := h3.nds
          clear h3 h4 hok
          have HV2 := HV
          clear HV
          generalize p.ds.length = nv at *
          generalize drCells p.ds = VC at *
          go_upto_region 7 with fail
          go_region_law
            ((refine step_append_lies _ (by rfl) _ _ _ (by rfl) 0 129 i0 _ 4 40 Tryz.underlying115 hi0 hz0 hz1 hz2 rfl (by omega) (.slice va nv vc) nv VC (by rfl) ((hown6.alloc _).drew)
                ⟨w6.heap.size, 0, none⟩ 1 1 [.int .i64 dl, .int .i64 dop, .int .i64 da, .string (bs dlab)] (by rfl) (by rfl) (World.news_of_block (cs := #[.int .i64 dl, .int .i64 dop, .int .i64 da, .string (bs dlab)]) (t := 129) (fr := (0, 0)) (heap_alloc_new w6 _)) (by simp [Value.oneCell'])
                (by omega) (by unfold maxLen; omega) (by omega) (Nat.zero_le _) (w6.heap.size + 1) (by simp) ?_; intro g2 cap2 w1 hown1 hgrow hat hlt
              obtain ⟨s8, e4, ef4⟩ := HV2.out g2 cap2 w1 hown1 hgrow hat
              have H8 := hid s8
              clear HV2 s8 hown1 hgrow hat hlt))
          all_goals (go_wp2; go_end0; exact ⟨rfl, _, H8.out⟩)
end
end Go.Proofs.YtcchflfeomainaaGreatDoor
