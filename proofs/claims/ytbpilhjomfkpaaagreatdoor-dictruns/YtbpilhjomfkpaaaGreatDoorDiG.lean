/- Package dict: Read. -/
import Derived.Test.YtbpilhjomfkpaaaGreatDoorDiF
namespace Go.Proofs.YtbpilhjomfkpaaaGreatDoor
open Go.RowKit
set_option linter.unusedVariables false
set_option linter.unusedSimpArgs false
attribute [local go_sem ↓] Go.wp_at_zero Go.wp_at_succ

/-- How Read ends. -/
def ReadE (zs : List Int) (base n : Int) (w : World) (e : Ending) (w' : World) : Prop :=
  if fitsS base n zs.length = true then
    match readS ((zs.drop base.toNat).take (1 + 3 * n.toNat)) n.toNat with
    | some ks => ∃ v, e = .returned (.tuple #[v, .int .i64 0]) ∧ St w [lstE v ks] w'
    | none => e = .returned (.tuple #[.slice none 0 0, .int .i64 191]) ∧ Kept (fun _ => False) w w'
  else e = .returned (.tuple #[.slice none 0 0, .int .i64 190]) ∧ Kept (fun _ => False) w w'
theorem St.one {o w : World} {a : It} {R : List It} (h : St o (a :: R) w) : St o [a] w := St.cut (A := [a]) (B := R) h
theorem valued_new {ls acc rest rest' : List Pr} {k x : Int} (f : Int → Int) (hg : Good ls) (hp : (acc ++ rest.map (fun p => (p.1, f p.2))).Perm (ls.map (fun p => (p.1, f p.2)))) (hr : rest.Perm ((k, x) :: rest')) : (∀ p ∈ acc, p.1 ≠ k) ∧ (((k, f x) :: acc) ++ rest'.map (fun p => (p.1, f p.2))).Perm (ls.map (fun p => (p.1, f p.2))) := by
  have h1 : (acc ++ rest.map (fun p => (p.1, f p.2))).Perm (acc ++ (k, f x) :: rest'.map (fun p => (p.1, f p.2))) := List.Perm.append_left acc (hr.map (fun p : Pr => (p.1, f p.2)))
  have h2 := h1.symm.trans hp
  have h3 : (((k, f x) :: acc) ++ rest'.map (fun p => (p.1, f p.2))).Perm (ls.map (fun p => (p.1, f p.2))) := (List.perm_middle.symm).trans h2
  refine ⟨fun p hpm e => ?_, h3⟩
  have hd : (ls.map (fun p => (p.1, f p.2))).Pairwise (fun p q => p.1 ≠ q.1) := List.pairwise_map.2 hg.1
  have hd2 := (h3.pairwise_iff (fun {_ _} h => Ne.symm h)).2 hd
  rw [List.cons_append, List.pairwise_cons] at hd2
  exact hd2.1 p (List.mem_append_left _ hpm) e.symm
set_option maxRecDepth 100000 in
set_option maxHeartbeats 8000000 in
theorem Read_any (la : Option Addr) (m lc : Nat) (zs : List Int) (base n : Int) (w : World) (hX : XIn w la m zs) (hc : m ≤ lc) (hm : m ≤ 9223372036854775807) (hz : ∀ z ∈ zs, Rg z) :
    Calls Tryz.prog 17 #[.slice la m lc, .int .i64 base, .int .i64 n] w (ReadE zs base n w) := by
  have hF := fits_any base n m w (by omega) (by omega)
  have hml := hX.1
  by_cases h : fitsS base n m = true
  · rw [h] at hF
    have hfz : fitsS base n zs.length = true := by rw [← hml]; exact h
    unfold fitsS at h
    simp only [Bool.and_eq_true, decide_eq_true_eq] at h
    obtain ⟨h0, hb0, hb1⟩ := h
    obtain ⟨h1, h2, h3⟩ := roomS_pos h0
    have hR := Room_any n w
    rw [h3] at hb1 hR
    obtain ⟨k, rfl⟩ : ∃ k : Nat, n = (k : Int) := ⟨n.toNat, by omega⟩
    obtain ⟨i, rfl⟩ : ∃ i : Nat, base = (i : Int) := ⟨base.toNat, by omega⟩
    obtain ⟨g, o, rfl⟩ := hX.addr (by omega)
    have hsl := slicePart g o m lc i (1 + 3 * k) (by omega) (by omega) hc (i : Int) ((i : Int) + (1 + 3 * (k : Int))) rfl (by push_cast; rfl) w
    have hP := hX.part i (1 + 3 * k) (by omega)
    have hcr : ∀ j, Rg (((zs.drop i).take (1 + 3 * k)).getD j 0) := fun j => by
      rw [List.getD_eq_getElem?_getD]
      cases he : ((zs.drop i).take (1 + 3 * k))[j]? with
      | none => exact ⟨by decide, by decide⟩
      | some u => exact hz u (List.mem_of_mem_drop (List.mem_of_mem_take (List.mem_of_getElem? he)))
    have c0 : w.cell? ⟨g, o + i, none⟩ = some (.int .i64 (((zs.drop i).take (1 + 3 * k)).getD 0 0)) := hP.cell (j := 0) (by omega)
    have hi1 : (i : Int) + (1 + 3 * (k : Int)) ≤ 9223372036854775807 := by omega
    have HQ : Hid (∀ e w', (match readS ((zs.drop i).take (1 + 3 * k)) k with
        | some ks => ∃ v, e = .returned (.tuple #[v, .int .i64 0]) ∧ St w [lstE v ks] w'
        | none => e = .returned (.tuple #[.slice none 0 0, .int .i64 191]) ∧ Kept (fun _ => False) w w') → ReadE zs (i : Int) (k : Int) w e w') := fun e w' hh => by
      unfold ReadE
      rw [if_pos hfz]
      simp only [Int.toNat_natCast]
      exact hh
    generalize ReadE zs (i : Int) (k : Int) w = Q at *
    generalize (zs.drop i).take (1 + 3 * k) = P at *
    have hk : k ≤ 60 := by omega
    have hk1 : 0 < k := by omega
    have hq2 : (0 : Int) < ((1 + 3 * k : Nat) : Int) := by omega
    have hus := usedPlaces_any (St.nil w) g (o + i) (lc - i) k P hP hk hcr
    clear hX hfz h0 h3 hb0 hb1 hml hz
    have HP := hid hP
    clear hP
    unfold UsedE at hus
    unfold readS at HQ
    have hgd' := hid (fun (ls : List Pr) (h : usedM P k = some ls) => usedM_good hcr h)
    cases hu : usedM P k with
    | none =>
      rw [hu] at hus HQ
      have HQ1 := hid (HQ.out _ · ⟨rfl, ·⟩)
      clear hu HQ hgd' hcr
      go_enter Tryz.func17, Tryz.ntmps17
      go_upto_region 5 with (first | (go_at_call 33; refine hF.mono ?_; rintro e w ⟨rfl, rfl⟩) | (go_at_call 10; refine hR.mono ?_; rintro e w ⟨rfl, rfl⟩) | simp only [hsl] | (go_at_call 34; refine hus.mono ?_; rintro e w2 ⟨rfl, s2⟩))
      have HK2 := hid s2.drew.same
      clear s2
      go_region
      all_goals go_wp2
      all_goals exact HQ1.out _ HK2.out
    | some ls =>
      rw [hu] at hus HQ
      obtain ⟨gd, gl, gp⟩ := hgd'.out ls hu
      clear hgd' hu
      have HG := hid gd
      have HGp := hid gp
      have hl6 : (ls.length : Int) ≤ 60 := by omega
      have hcell : Hid (∀ W its, St w its W → W.cell? ⟨g, o + i, none⟩ = some (.int .i64 (P.getD 0 0))) := hid (fun W its hs => by
          have := hs.same
          rw [World.cell?_of_block (this.block g (World.block_lt_of_cell? w _ c0) (fun f => f))]
          exact c0)
      have HLe : Hid (∀ b W R, St w (mapV b ls :: R) W → ∀ ty, (Builtin.len_ #[74] ty #[.map (some b)]).run Tryz.prog W = .ok (.int .i64 (ls.length : Nat)) W) := hid (fun b W R hs ty => lenV (hs.get 0 rfl) Tryz.underlying74 ty)
      have HAl : Hid (∀ b W, St w [mapV b ls] W → Calls Tryz.prog 35 #[.slice (some ⟨g, o + i, none⟩) (1 + 3 * k) (lc - i), .map (some b)] W fun e w' => e = .returned (.bool (ls.all fun p => reachM P k p.1 p.2.toNat)) ∧ St w [mapV b ls] w') := hid (fun b W hs => allReached_any hs g (o + i) (lc - i) k P HP.out hk1 hk HGp.out)
      by_cases hlz : (ls.length : Int) = P.getD 0 0
      · cases hal : (ls.all fun p => reachM P k p.1 p.2.toNat) with
        | false =>
          rw [hal] at HAl
          simp only [hal, Bool.false_eq_true, and_false, if_false] at HQ
          have HQ1 := hid (HQ.out _ · ⟨rfl, ·⟩)
          have tz : (((ls.length : Nat) : Int) != P.getD 0 0) = false := by simpa using hlz
          have HZ : Hid (∀ b W R, St w (mapV b ls :: R) W → True) := hid (fun _ _ _ _ => trivial)
          generalize P.getD 0 0 = z at *
          generalize ((ls.length : Nat) : Int) = lz at *
          clear HQ hal hcr HP gl gp gd hlz
          go_enter Tryz.func17, Tryz.ntmps17
          go_upto_region 5 with (first | (go_at_call 33; refine hF.mono ?_; rintro e w ⟨rfl, rfl⟩) | (go_at_call 10; refine hR.mono ?_; rintro e w ⟨rfl, rfl⟩) | simp only [hsl] | (go_at_call 34; refine hus.mono ?_; rintro e w2 ⟨b, rfl, s2⟩))
          have hc2 := hcell.out _ _ s2.drew
          have hle := HLe.out b _ _ s2.drew
          have hac := HAl.out b _ s2.drew
          clear s2
          go_region_with (first | simp only [hle] | (go_at_call 35; refine hac.mono ?_; rintro e w3 ⟨rfl, s3⟩; have HK3 := hid s3.same; clear s3))
          all_goals go_wp2
          all_goals exact HQ1.out _ HK3.out
        | true =>
          rw [hal] at HAl
          simp only [hal, hlz, and_self, if_true] at HQ
          have tz : (((ls.length : Nat) : Int) != P.getD 0 0) = false := by simpa using hlz
          have HL6 : Hid (ls.length ≤ 60) := hid (by omega)
          have HV : Hid (∀ (q : Nat) (W : World) (its : List It), q < k → St w its W → W.cell? ⟨g, o + i + (3 + 3 * q), none⟩ = some (.int .i64 (valA P q))) := hid (fun q W its hq hs => (HP.out.kept hs.same).cell (j := 3 + 3 * q) (by omega))
          have hval := hid fun (j : Nat) (hj : j ≤ 1000000) (w : World) => valueAt_any j hj w
          generalize hff : (fun q : Int => valA P q.toNat) = f at *
          have HFf : Hid (∀ q : Nat, valA P q = f (q : Int)) := hid (fun q => by rw [← hff]; rfl)
          have HQ1 : Hid (∀ v w' R L, L = sortP (ls.map fun p => (p.1, f p.2)) → St w (lstE v L :: R) w' → Q (.returned (.tuple #[v, .int .i64 0])) w') := hid (fun v w' R L hL s => HQ.out _ _ ⟨v, rfl, by rw [hL, ← hff] at s; exact s.one⟩)
          have hmm := @run_makeMap Tryz.prog
          generalize P.getD 0 0 = z at *
          generalize ((ls.length : Nat) : Int) = lz at *
          clear HQ hal hcr HP gl gp gd hlz hff
          go_enter Tryz.func17, Tryz.ntmps17
          go_upto_region 5 with (first | (go_at_call 33; refine hF.mono ?_; rintro e w ⟨rfl, rfl⟩) | (go_at_call 10; refine hR.mono ?_; rintro e w ⟨rfl, rfl⟩) | simp only [hsl] | (go_at_call 34; refine hus.mono ?_; rintro e w2 ⟨b, rfl, s2⟩))
          have hc2 := hcell.out _ _ s2.drew
          have hle := HLe.out b _ _ s2.drew
          have hac := HAl.out b _ s2.drew
          clear s2 hus
          refine (fun key : ?KEY ∧ True => ?main) ⟨?keyproof, trivial⟩
          case main =>
            go_region_with (first | simp only [hle] | (go_at_call 35; refine hac.mono ?_; rintro e w3 ⟨rfl, s3⟩; have HS3 := hid s3; clear s3))
            all_goals
              revert HS3
              revert w3
              exact key.1
          case keyproof =>
            intro w3 HS3
            clear hac hle hc2
            have s4 := (HS3.out.newMap).perm (List.Perm.swap _ _ _)
            generalize hw4 : w3.alloc (.map #[] 0) = w4 at *
            generalize hV : w3.heap.size = V at *
            obtain ⟨w5, hrg, -, s5⟩ := rangeV (P := Tryz.prog) (t := 74) s4 Tryz.underlying74
            generalize w4.heap.size = r at *
            have HS5 := hid s5
            clear s4 s5
            go_wp2_with (first | simp only [hw4, hV] | simp only [hrg])
            go_loopw [12] (fun _ wr => ∃ rest acc, St w [rngV b r ls rest, mapV V acc] wr ∧ (acc ++ rest.map (fun p => (p.1, f p.2))).Perm (ls.map (fun p => (p.1, f p.2)))) (fun _ wr => wr.rangeLeft b r)
            case atStart => exact ⟨ls, [], HS5.out, List.Perm.refl _⟩
            case round =>
              obtain ⟨rest, acc, hs, hperm⟩ := hrel
              have HMs := hid (rngLeft hs)
              go_wp2_with (at_next; refine wpList_nextV _ rfl _ rfl rfl hs ?_ ?_)
              · intro h0
                subst h0
                rw [List.map_nil, List.append_nil] at hperm
                have s6 := (endV hs).perm (List.Perm.swap _ _ _)
                have hdd : (ls.map fun p => (p.1, f p.2)).Pairwise (fun p q => p.1 ≠ q.1) := List.pairwise_map.2 HG.out.1
                have hio := inOrder_any s6 (L := sortP (ls.map fun p => (p.1, f p.2))) (sortP_rises hdd) ((sortP_perm _).trans hperm.symm) (by rw [hperm.length_eq, List.length_map]; have := HL6.out; omega)
                generalize hL : sortP (ls.map fun p => (p.1, f p.2)) = L at *
                have HL := hid hL.symm
                clear hs hperm s6 hdd hL
                go_wp2_with (go_at_call 37; refine hio.mono ?_; rintro e w6 ⟨v6, rfl, s7⟩; have HS7 := hid s7; clear s7)
                exact HQ1.out _ _ _ _ rfl HS7.out
              · intro ky x rest' w6 hpr hmem hs6 hst hen
                obtain ⟨q, hq, hxq⟩ := HGp.out _ hmem
                simp only at hxq
                subst hxq
                have hlen : rest'.length < rest.length := by have := hpr.length_eq; simp at this; omega
                obtain ⟨hnw, hpp⟩ := valued_new f HG.out hperm hpr
                have hkr := HG.out.2 _ hmem
                have s7 := hst.perm (List.Perm.swap _ _ _)
                have c7 := HV.out q w6 _ hq hst
                rw [HFf.out q] at c7
                have hvq := hval.out q (by omega) w6
                obtain ⟨w8, hup, -, s8⟩ := storeV_new (P := Tryz.prog) (t := 78) (v := f (q : Int)) s7 Tryz.underlying2 Tryz.underlying78 hkr hnw
                have HS8 := hid (s8.perm (List.Perm.swap _ _ _))
                have HPp := hid hpp
                have HLn := hid hlen
                have q1 : ((3 + 3 * q : Nat) : Int) < ((1 + 3 * k : Nat) : Int) := by omega
                have q0 : (0 : Int) ≤ ((3 + 3 * q : Nat) : Int) := by omega
                generalize 3 + 3 * q = qq at *
                generalize hkk : 1 + 3 * k = kk at *
                have HKK := hid hkk
                clear hkk
                generalize f (q : Int) = fq at *
                clear s7 s8 hnw hpp hst hs hperm hpr hmem hlen hkr HS5 hs6 hq
                go_wp2_with (first | simp only [hen] | (go_at_call 36; refine hvq.mono ?_; rintro e w6 ⟨rfl, rfl⟩) | simp only [hup])
                go_roundw
                case rel => exact ⟨⟨rest', _, HS8.out, HPp.out⟩, HKK.out.symm⟩
                case measure =>
                  rw [HMs.out, rngLeft HS8.out]
                  exact HLn.out
      · simp only [hlz, false_and, if_false] at HQ
        have HQ1 := hid (HQ.out _ · ⟨rfl, ·⟩)
        have tz : (((ls.length : Nat) : Int) != P.getD 0 0) = true := by simpa using hlz
        generalize P.getD 0 0 = z at *
        generalize ((ls.length : Nat) : Int) = lz at *
        clear HQ hcr HP gl gp gd hlz HAl
        go_enter Tryz.func17, Tryz.ntmps17
        go_upto_region 5 with (first | (go_at_call 33; refine hF.mono ?_; rintro e w ⟨rfl, rfl⟩) | (go_at_call 10; refine hR.mono ?_; rintro e w ⟨rfl, rfl⟩) | simp only [hsl] | (go_at_call 34; refine hus.mono ?_; rintro e w2 ⟨b, rfl, s2⟩))
        have hc2 := hcell.out _ _ s2.drew
        have hle := HLe.out b _ _ s2.drew
        have HK3 := hid s2.drew.same
        clear s2
        go_region
        all_goals go_wp2
        all_goals exact HQ1.out _ HK3.out
  · have hno : fitsS base n m = false := by simpa using h
    rw [hno] at hF
    have HQ : Hid (ReadE zs base n w (.returned (.tuple #[.slice none 0 0, .int .i64 190])) w) := hid (by
      unfold ReadE
      rw [if_neg (by rw [← hml]; exact h)]
      exact ⟨rfl, Kept.refl _ _⟩)
    generalize ReadE zs base n w = Q at *
    clear h hno hX hml hz
    go_enter Tryz.func17, Tryz.ntmps17
    go_wp2_with (go_at_call 33; refine hF.mono ?_; rintro e w ⟨rfl, rfl⟩)
    exact HQ.out
end Go.Proofs.YtbpilhjomfkpaaaGreatDoor
