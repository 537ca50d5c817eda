/- What follows from an operation that has ended; one step of it; a refusal. A program in its space: what follows, one step of what is under way, a refusal. -/
import Derived.Test.YthbcbjkgjgmegaaGreatPgB
import Derived.Test.YthbcbjkgjgmegaaGreatPgR
namespace Go.Proofs.YthbcbjkgjgmegaaGreat
open Go.RowKit
set_option linter.unusedVariables false
set_option linter.unusedSimpArgs false
attribute [local go_sem ↓] Go.wp_at_zero Go.wp_at_succ
section
variable {o w : World} {its R : List It} {A : Ad} {c : Cfg} {z : SSt} {v u : Value} {Q : PA} {x : Pg}
theorem St.mvR {a b : List It} {s X : It} (h : St o (X :: (a ++ s :: (b ++ R))) w) : St o (a ++ s :: (b ++ X :: R)) w := by
  have p := (List.perm_middle (l₁ := a ++ s :: b) (l₂ := R) (a := X)).symm
  exact h.perm (by simpa using p)
theorem St.dropR {a b : List It} {s X : It} (h : St o (a ++ s :: (b ++ X :: R)) w) : St o (a ++ s :: (b ++ R)) w := by
  have h1 : St o ((a ++ s :: b) ++ X :: R) w := by simpa using h
  have h2 := h1.popAt
  simpa using h2
theorem St.mvB {b : List It} {X : It} (h : St o (X :: (b ++ R)) w) : St o (b ++ X :: R) w := h.perm (List.perm_middle (l₁ := b) (l₂ := R) (a := X)).symm
theorem St.dropB {b : List It} {X : It} (h : St o (b ++ X :: R) w) : St o (b ++ R) w := h.popAt
set_option maxRecDepth 100000 in
set_option maxHeartbeats 2000000 in
theorem pWent_read (h : St o (pgC A Q x ++ R) w) (p0 : 0 ≤ x.fm.pl) (p1 : x.fm.pl ≤ 1000) (h1 : 1 ≤ x.fm.st.length) (h2 : x.fm.st.length ≤ 32) (le lx : Int) : Calls Tryz.prog 140 #[.pointer (some ⟨Q.X, 0, none⟩), .agg #[.int .i64 2, .int .i64 le, .int .i64 lx]] w fun r w' => r = .returned (.tuple #[]) ∧ ∃ v', St o (pgC A { Q with v := v' } (x.stack (dropN x.fm.st 1 ++ [lx])).next ++ R) w' := by
  have s0 := (h.box #[.int .i64 2, .int .i64 le, .int .i64 lx] 127).mvB
  have hd := dropN_len x.fm.st 1
  clear h
  go_enter Tryz.func140, Tryz.ntmps140
  go_upto_region 1 with fail
  generalize w.alloc (.cells #[.int .i64 2, .int .i64 le, .int .i64 lx] 127) = W0 at *
  generalize w.heap.size = B at *
  have b0 : W0.cell? ⟨B, 0, none⟩ = some (.int .i64 2) := s0.cell 6 rfl 0
  have hq := pTake s0 rfl h1
  clear s0
  go_wp2_with fail
  refine hq.mono ?_
  rintro e w1 ⟨rfl, v1, s1⟩
  clear hq b0
  have c1 : w1.drew.cell? ⟨Q.X, 1, none⟩ = some (.pointer (some ⟨Q.S, 0, none⟩)) := s1.drew.cell 0 rfl 1
  have b2 : w1.drew.cell? ⟨B, 2, none⟩ = some (.int .i64 lx) := s1.drew.cell 6 rfl 2
  have hq := kPush s1.drew 1 rfl (by omega) lx
  clear s1 h1 h2 hd
  go_wp2_with fail
  go_region_with (go_at_call 184; refine hq.mono ?_; rintro e w2 ⟨rfl, v2, s2⟩; have H2 := hid s2; clear s2)
  all_goals
    clear hq c1 b2
    have s2 := H2.out
    clear H2
    have c0 : w2.cell? ⟨Q.X, 0, none⟩ = some (.int .i64 x.fm.pl) := s2.cell 0 rfl 0
    have f0 : w2.frozen? ⟨Q.X, 0, none⟩ = false := s2.frozen 0 rfl 0
    have H3 := hid (St.dropB (b := [_, _, _, _, _, _]) (s2.write 0 rfl 0 (.int .i64 (x.fm.pl + 1))))
    clear s2
    go_wp2
    go_end0
    exact ⟨rfl, v2, H3.out⟩
set_option maxRecDepth 100000 in
set_option maxHeartbeats 2000000 in
theorem pWent_write (h : St o (pgC A Q x ++ R) w) (p0 : 0 ≤ x.fm.pl) (p1 : x.fm.pl ≤ 1000) (h1 : 2 ≤ x.fm.st.length) (le lx : Int) : Calls Tryz.prog 140 #[.pointer (some ⟨Q.X, 0, none⟩), .agg #[.int .i64 3, .int .i64 le, .int .i64 lx]] w fun r w' => r = .returned (.tuple #[]) ∧ ∃ v', St o (pgC A { Q with v := v' } (x.stack (dropN x.fm.st 2)).next ++ R) w' := by
  have s0 := (h.box #[.int .i64 3, .int .i64 le, .int .i64 lx] 127).mvB
  clear h
  go_enter Tryz.func140, Tryz.ntmps140
  go_upto_region 1 with fail
  generalize w.alloc (.cells #[.int .i64 3, .int .i64 le, .int .i64 lx] 127) = W0 at *
  generalize w.heap.size = B at *
  have b0 : W0.cell? ⟨B, 0, none⟩ = some (.int .i64 3) := s0.cell 6 rfl 0
  have hq := pTwo s0 rfl h1
  clear s0
  go_wp2_with fail
  refine hq.mono ?_
  rintro e w2 ⟨rfl, v2, s2⟩
  clear hq b0
  have c0 : w2.cell? ⟨Q.X, 0, none⟩ = some (.int .i64 x.fm.pl) := s2.cell 0 rfl 0
  have f0 : w2.frozen? ⟨Q.X, 0, none⟩ = false := s2.frozen 0 rfl 0
  have H3 := hid (St.dropB (b := [_, _, _, _, _, _]) (s2.write 0 rfl 0 (.int .i64 (x.fm.pl + 1))))
  clear s2
  go_wp2
  go_end0
  exact ⟨rfl, v2, H3.out⟩
set_option maxRecDepth 100000 in
set_option maxHeartbeats 2000000 in
theorem pWent_else (h : St o (pgC A Q x ++ R) w) (p0 : 0 ≤ x.fm.pl) (p1 : x.fm.pl ≤ 1000) {lo : Int} (n2 : lo ≠ 2) (n3 : lo ≠ 3) (n4 : lo ≠ 4) (le lx : Int) : Calls Tryz.prog 140 #[.pointer (some ⟨Q.X, 0, none⟩), .agg #[.int .i64 lo, .int .i64 le, .int .i64 lx]] w fun r w' => r = .returned (.tuple #[]) ∧ St o (pgC A Q x.next ++ R) w' := by
  have s0 := (h.box #[.int .i64 lo, .int .i64 le, .int .i64 lx] 127).mvB
  have m2 : (lo == 2) = false := by simpa using n2
  have m3 : (lo == 3) = false := by simpa using n3
  have m4 : (lo == 4) = false := by simpa using n4
  clear h n2 n3 n4
  go_enter Tryz.func140, Tryz.ntmps140
  go_upto_region 1 with fail
  generalize w.alloc (.cells #[.int .i64 lo, .int .i64 le, .int .i64 lx] 127) = W0 at *
  generalize w.heap.size = B at *
  have b0 : W0.cell? ⟨B, 0, none⟩ = some (.int .i64 lo) := s0.cell 6 rfl 0
  have c0 : W0.cell? ⟨Q.X, 0, none⟩ = some (.int .i64 x.fm.pl) := s0.cell 0 rfl 0
  have f0 : W0.frozen? ⟨Q.X, 0, none⟩ = false := s0.frozen 0 rfl 0
  have H3 := hid (St.dropB (b := [_, _, _, _, _, _]) (s0.write 0 rfl 0 (.int .i64 (x.fm.pl + 1))))
  clear s0
  go_wp2
  go_end0
  exact ⟨rfl, H3.out⟩
theorem step_append_none {P : Program} {w : World} {ops : Array Oper} {op : Oper} {a : Act} {K : Act → World → Prop} {Q : Exit → Act → World → Prop} {E : Prop} (hgd : op.guard = none) (s x : Operand) (t : TypeId)
    (ho : op.op = .call { callee := .builtin .append, args := #[s, x], argTypes := #[t, t] })
    (base : Nat) (e : TypeId) (i : TypeInfo) (size : Nat) (ht : P.underlying t = some (.slice e)) (hi : P.info? e = some i)
    (v : Value) (n : Nat) (xs : List Value) (hs : a.eval s = v) (hown : w.ownsRow base e size v n xs) (hx : a.eval x = .slice none 0 0)
    (h : K (a.put op.dst v) w) : if Region.wanted op (yielded ops a.tmps) = true then Oper.wp P op a w K Q else E := by
  have hw : Region.wanted op (yielded ops a.tmps) = true := by simp [Region.wanted, hgd]
  rw [if_pos hw]
  have hrun := run_append_owned_none (P := P) (w := w) base t op.type e i size ht hi v n xs hown
  unfold Oper.wp
  simp [execOp, ho, resolve, invoke, builtin, hs, hx, hrun, Result.andThen]
  simpa [Oper.upon] using h
theorem Tryz.infoI64 : (Tryz.prog.info? 2).map (fun i => (i.zero, i.size, i.bytes)) = some (some (.int .i64 0), 1, 8) := by kernel_rfl
/-- Its own list grown by a commit, or a tell: the list's block, and the program's cell. -/
theorem St.grew {i j : Nat} {X t : Nat} {cs : Array Value} {e : TypeId} {lv : Value} {n n' : Nat} {xs xs' : List Value} (h : St o its w) (hij : i ≠ j) (hi : its[i]? = some (boxI X cs t)) (hj : its[j]? = some (ownI e 1 lv n xs)) {w0 w' : World} {g cap : Nat} (k0 : Kept (fun _ => False) w w0)
    (p : w'.ownsRow 0 e 1 (.slice (some ⟨g, 0, none⟩) n' cap) n' xs') (hg : w0.grownBy w' lv.ownBlock) (ha : lv.ownBlock = some g ∨ w.heap.size ≤ g) (m : Nat) :
    St o ((its.set j (ownI e 1 (.slice (some ⟨g, 0, none⟩) n' cap) n' xs')).set i (boxI X (cs.setIfInBounds m (.slice (some ⟨g, 0, none⟩) n' cap)) t)) (w'.setCell ⟨X, m, none⟩ (.slice (some ⟨g, 0, none⟩) n' cap)) ∧ w'.cell? ⟨X, m, none⟩ = cs[m]? ∧ w'.frozen? ⟨X, m, none⟩ = false := by
  have k : Kept (fun b => lv.ownBlock = some b) w w' := Kept.grown (k0.mono (fun _ _ f => f.elim)) hg (fun b e => .inl e)
  have s1 := h.ownGrow j hj p k (by
    rcases ha with ha | ha
    · exact .inl (by rw [ha]; rfl)
    · exact .inr ⟨g, rfl, ha⟩)
  have hi' : (its.set j (ownI e 1 (.slice (some ⟨g, 0, none⟩) n' cap) n' xs'))[i]? = some (boxI X cs t) := set_other hi (Ne.symm hij)
  exact ⟨s1.write i hi' m _, s1.cell i hi' m, s1.frozen i hi' m⟩
set_option maxRecDepth 100000 in
set_option maxHeartbeats 4000000 in
theorem pWent_none (h : St o (pgC A Q x ++ R) w) (p0 : 0 ≤ x.fm.pl) (p1 : x.fm.pl ≤ 1000) (hn : x.hd = []) (hv : Q.hv = .slice none 0 0) (le lx : Int) : Calls Tryz.prog 140 #[.pointer (some ⟨Q.X, 0, none⟩), .agg #[.int .i64 4, .int .i64 le, .int .i64 lx]] w fun r w' => r = .returned (.tuple #[]) ∧ St o (pgC A { Q with hv := .slice none 0 0 } ({ x.gone with td := x.td ++ x.hd } : Pg).next ++ R) w' := by
  obtain ⟨i0, hi0, hz0, hz1, hz2⟩ := info_parts Tryz.infoI64
  have s0 := (h.box #[.int .i64 4, .int .i64 le, .int .i64 lx] 127).mvB
  obtain ⟨la, lc, htv⟩ := own_form (show (ownI 2 1 Q.tv x.td.length (clCells x.td)).P w from h.get 5 rfl)
  have htt : ({ x.gone with td := x.td ++ x.hd } : Pg).next = x.gone.next := by rw [hn, List.append_nil]; rfl
  rw [htt]
  clear htt hn
  clear h
  go_enter Tryz.func140, Tryz.ntmps140
  go_upto_region 1 with fail
  generalize w.alloc (.cells #[.int .i64 4, .int .i64 le, .int .i64 lx] 127) = W0 at *
  generalize w.heap.size = B at *
  have b0 : W0.cell? ⟨B, 0, none⟩ = some (.int .i64 4) := s0.cell 6 rfl 0
  go_upto_region 8 with fail
  clear b0
  have hown : W0.drew.ownsRow 0 2 1 Q.tv x.td.length (clCells x.td) := s0.drew.get 5 rfl
  have c26 : W0.drew.cell? ⟨Q.X, 26, none⟩ = some Q.tv := s0.drew.cell 0 rfl 26
  have f26 : W0.drew.frozen? ⟨Q.X, 26, none⟩ = false := s0.drew.frozen 0 rfl 26
  have c22 : W0.drew.cell? ⟨Q.X, 22, none⟩ = some (.slice none 0 0) := (s0.drew.cell 0 rfl 22).trans (congrArg some hv)
  have s1 : St o (pgC A Q x ++ boxI B #[.int .i64 4, .int .i64 le, .int .i64 lx] 127 :: R) (W0.setCell ⟨Q.X, 26, none⟩ Q.tv).drew := (s0.write 0 rfl 26 Q.tv).drew
  have H1 := hid s1
  clear s0 s1 hv
  rw [htv] at c26 hown H1
  have HT := hid htv
  clear htv
  generalize hTC : clCells x.td = TC at *
  generalize hTN : x.td.length = tn at *
  have HTC : Hid (clCells x.td = TC ∧ x.td.length = tn) := ⟨hTC, hTN⟩
  clear hTC hTN
  go_region_law ((refine step_append_none (by rfl) _ _ _ (by rfl) 0 2 i0 1 Tryz.underlying37 hi0 (.slice la tn lc) tn TC (by rfl) hown (by rfl) ?_))
  all_goals
    have s2 := H1.out
    clear H1 c22 c26 f26 hown
    generalize (W0.setCell ⟨Q.X, 26, none⟩ (.slice la tn lc)).drew = w2 at *
    have hc : ∀ j, w2.cell? ⟨Q.X, j, none⟩ = (pgV A Q x)[j]? := fun j => s2.cell 0 rfl j
    have hf : ∀ j, w2.frozen? ⟨Q.X, j, none⟩ = false := fun j => s2.frozen 0 rfl j
    have h0 : St o (boxI Q.X (pgW A Q x).toArray 105 :: stkI Q.S Q.v x.fm.st :: svI Q.S2 Q.v2 x.sm x.sv :: ownI 79 2 Q.lv x.li.length (insCells x.li) :: ownI 2 1 Q.hv x.hd.length (clCells x.hd) :: ownI 2 1 (Q : PA).tv (x : Pg).td.length (clCells (x : Pg).td) :: boxI B #[.int .i64 4, .int .i64 le, .int .i64 lx] 127 :: R) w2 := s2
    have s3 := (St.writesL zeroT 10 h0).writeL 0 (.int .i64 (x.fm.pl + 1))
    have e1 : (setL (pgW A Q x) 10 zeroT).set 0 (.int .i64 (x.fm.pl + 1)) = pgW A { (Q : PA) with hv := .slice none 0 0 } (x : Pg).gone.next := by kernel_rfl
    rw [e1] at s3
    have s4 : St o (pgC A { (Q : PA) with hv := .slice none 0 0 } (x : Pg).gone.next ++ R) _ := St.dropB (b := [_, _, _, _, _, _]) ((s3.forget 2 rfl).empty 4 rfl 2 1)
    simp only [zeroT, World.setCells, Nat.reduceAdd] at s4
    have H := hid s4
    clear h0 s2 s3 s4 e1
    have c0 : w2.cell? ⟨Q.X, 0, none⟩ = some (.int .i64 x.fm.pl) := hc 0
    have c10 : w2.cell? ⟨Q.X, 10, none⟩ = some (.int .i64 x.sm) := hc 10
    have c11 : w2.cell? ⟨Q.X, 11, none⟩ = some (.int .i64 x.tr) := hc 11
    have c12 : w2.cell? ⟨Q.X, 12, none⟩ = some (.int .i64 x.sv.pl) := hc 12
    have c13 : w2.cell? ⟨Q.X, 13, none⟩ = some (svV Q.S2 x.sm) := hc 13
    have c14 : w2.cell? ⟨Q.X, 14, none⟩ = some (x.sv.l 0) := hc 14
    have c15 : w2.cell? ⟨Q.X, 15, none⟩ = some (x.sv.l 1) := hc 15
    have c16 : w2.cell? ⟨Q.X, 16, none⟩ = some (x.sv.l 2) := hc 16
    have c17 : w2.cell? ⟨Q.X, 17, none⟩ = some (x.sv.l 3) := hc 17
    have c18 : w2.cell? ⟨Q.X, 18, none⟩ = some (x.sv.l 4) := hc 18
    have c19 : w2.cell? ⟨Q.X, 19, none⟩ = some (x.sv.l 5) := hc 19
    have c20 : w2.cell? ⟨Q.X, 20, none⟩ = some (x.sv.l 6) := hc 20
    have c21 : w2.cell? ⟨Q.X, 21, none⟩ = some (x.sv.l 7) := hc 21
    have c22 : w2.cell? ⟨Q.X, 22, none⟩ = some (Q.hv) := hc 22
    clear hc
    go_wp2
    go_end0
    exact ⟨rfl, H.out⟩
set_option maxRecDepth 100000 in
set_option maxHeartbeats 4000000 in
theorem pWent_some (h : St o (pgC A Q x ++ R) w) (p0 : 0 ≤ x.fm.pl) (p1 : x.fm.pl ≤ 1000) (hn : x.hd ≠ []) (hl : x.hd.length + x.td.length ≤ 1000000000) (le lx : Int) : Calls Tryz.prog 140 #[.pointer (some ⟨Q.X, 0, none⟩), .agg #[.int .i64 4, .int .i64 le, .int .i64 lx]] w fun r w' => r = .returned (.tuple #[]) ∧ ∃ tv', St o (pgC A { Q with hv := .slice none 0 0, tv := tv' } ({ x.gone with td := x.td ++ x.hd } : Pg).next ++ R) w' := by
  obtain ⟨i0, hi0, hz0, hz1, hz2⟩ := info_parts Tryz.infoI64
  have s0 := (h.box #[.int .i64 4, .int .i64 le, .int .i64 lx] 127).mvB
  obtain ⟨la, lc, htv⟩ := own_form (show (ownI 2 1 Q.tv x.td.length (clCells x.td)).P w from h.get 5 rfl)
  have hpos : 0 < x.hd.length := by
    rcases Nat.eq_zero_or_pos x.hd.length with e | e
    · exact absurd (List.eq_nil_of_length_eq_zero e) hn
    · exact e
  obtain ⟨hg, hcap, hhv⟩ := h.form 4 (show _ = some (ownI 2 1 Q.hv x.hd.length (clCells x.hd)) from rfl) hpos
  clear hn
  clear h
  go_enter Tryz.func140, Tryz.ntmps140
  go_upto_region 1 with fail
  generalize w.alloc (.cells #[.int .i64 4, .int .i64 le, .int .i64 lx] 127) = W0 at *
  generalize w.heap.size = B at *
  have b0 : W0.cell? ⟨B, 0, none⟩ = some (.int .i64 4) := s0.cell 6 rfl 0
  go_upto_region 8 with fail
  clear b0
  have hown : W0.drew.ownsRow 0 2 1 Q.tv x.td.length (clCells x.td) := s0.drew.get 5 rfl
  have c26 : W0.drew.cell? ⟨Q.X, 26, none⟩ = some Q.tv := s0.drew.cell 0 rfl 26
  have f26 : W0.drew.frozen? ⟨Q.X, 26, none⟩ = false := s0.drew.frozen 0 rfl 26
  have hheld : W0.drew.ownsRow 0 2 1 Q.hv x.hd.length (clCells x.hd) := s0.drew.get 4 rfl
  rw [hhv] at hheld
  have c22 : W0.drew.cell? ⟨Q.X, 22, none⟩ = some (.slice (some ⟨hg, 0, none⟩) x.hd.length hcap) := (s0.drew.cell 0 rfl 22).trans (congrArg some hhv)
  have HG : Hid (∀ g cap w1, w1.ownsRow 0 2 1 (.slice (some ⟨g, 0, none⟩) (x.td.length + x.hd.length) cap) (x.td.length + x.hd.length) (clCells x.td ++ clCells x.hd) → W0.drew.grownBy w1 (Value.ownBlock (.slice la x.td.length lc)) → (Value.ownBlock (.slice la x.td.length lc) = some g ∨ g = W0.heap.size) →
      St o (pgC A { Q with tv := .slice (some ⟨g, 0, none⟩) (x.td.length + x.hd.length) cap } { x with td := x.td ++ x.hd } ++ boxI B #[.int .i64 4, .int .i64 le, .int .i64 lx] 127 :: R) (w1.setCell ⟨Q.X, 26, none⟩ (.slice (some ⟨g, 0, none⟩) (x.td.length + x.hd.length) cap)) ∧ w1.cell? ⟨Q.X, 26, none⟩ = some (.slice la x.td.length lc) ∧ w1.frozen? ⟨Q.X, 26, none⟩ = false) := by
    intro g cap w1 q1 q2 q3
    rw [← htv] at q2 q3 ⊢
    have e1 : clCells x.td ++ clCells x.hd = clCells (x.td ++ x.hd) := by simp [clCells]
    have e2 : x.td.length + x.hd.length = (x.td ++ x.hd).length := by simp
    rw [e1, e2] at q1
    rw [e2]
    obtain ⟨a1, a2, a3⟩ := St.grew s0.drew (i := 0) (j := 5) (by decide) rfl rfl (Kept.refl _ _) q1 q2 (q3.imp_right (fun e => by rw [e]; exact Nat.le_refl _)) 26
    exact ⟨a1, a2, a3⟩
  have hbb : (x.td.length + x.hd.length) * 8 ≤ 140737488355328 := by omega
  have hmm : x.td.length + x.hd.length ≤ maxLen := by unfold maxLen; omega
  clear s0 hl
  rw [htv] at c26 hown
  have HT := hid htv
  have HHV := hid hhv
  clear htv hhv
  have hone := clCells_one x.hd
  have hlen : (clCells x.hd).length = x.hd.length * 1 := by rw [clCells_length]; omega
  generalize hTC : clCells x.td = TC at *
  generalize hTN : x.td.length = tn at *
  generalize hHC : clCells x.hd = HC at *
  generalize hHN : x.hd.length = hn at *
  have HTC : Hid (clCells x.td = TC ∧ x.td.length = tn ∧ clCells x.hd = HC ∧ x.hd.length = hn) := ⟨hTC, hTN, hHC, hHN⟩
  clear hTC hTN hHC hHN
  go_region_law
    ((refine step_append_lies _ (by rfl) _ _ _ (by rfl) 0 2 i0 _ 1 8 Tryz.underlying37 hi0 hz0 hz1 hz2 rfl (by omega) (.slice la tn lc) tn TC (by rfl) hown ⟨hg, 0, none⟩ hn hcap HC (by rfl) hlen (hheld.cells rfl) hone hpos hmm hbb (Nat.zero_le _) W0.heap.size rfl ?_; intro g cap w5 hown1 hgrow hat hlt
      obtain ⟨s6, e26, ef26⟩ := HG.out g cap w5 hown1 hgrow hat
      have H6 := hid s6
      clear HG s6 hown1 hgrow hat hlt))
  all_goals
    have s2 := H6.out
    clear H6 c22 c26 f26 hown hheld
    generalize w5.setCell ⟨Q.X, 26, none⟩ (.slice (some ⟨g, 0, none⟩) (tn + hn) cap) = w2 at *
    obtain ⟨tq, htq⟩ : ∃ tq, tq = Value.slice (some ⟨g, 0, none⟩) (tn + hn) cap := ⟨_, rfl⟩
    rw [← htq] at s2
    clear htq
    obtain ⟨rfl, rfl, rfl, rfl⟩ := HTC.out
    clear HTC
    have hc : ∀ j, w2.cell? ⟨Q.X, j, none⟩ = (pgV A { Q with tv := tq } { x with td := x.td ++ x.hd })[j]? := fun j => s2.cell 0 rfl j
    have hf : ∀ j, w2.frozen? ⟨Q.X, j, none⟩ = false := fun j => s2.frozen 0 rfl j
    have h0 : St o (boxI Q.X (pgW A { Q with tv := tq } { x with td := x.td ++ x.hd }).toArray 105 :: stkI Q.S Q.v x.fm.st :: svI Q.S2 Q.v2 x.sm x.sv :: ownI 79 2 Q.lv x.li.length (insCells x.li) :: ownI 2 1 Q.hv x.hd.length (clCells x.hd) :: ownI 2 1 ({ Q with tv := tq } : PA).tv ({ x with td := x.td ++ x.hd } : Pg).td.length (clCells ({ x with td := x.td ++ x.hd } : Pg).td) :: boxI B #[.int .i64 4, .int .i64 le, .int .i64 lx] 127 :: R) w2 := s2
    have s3 := (St.writesL zeroT 10 h0).writeL 0 (.int .i64 (x.fm.pl + 1))
    have e1 : (setL (pgW A { Q with tv := tq } { x with td := x.td ++ x.hd }) 10 zeroT).set 0 (.int .i64 (x.fm.pl + 1)) = pgW A { ({ Q with tv := tq } : PA) with hv := .slice none 0 0 } ({ x with td := x.td ++ x.hd } : Pg).gone.next := by kernel_rfl
    rw [e1] at s3
    have s4 : St o (pgC A { ({ Q with tv := tq } : PA) with hv := .slice none 0 0 } ({ x with td := x.td ++ x.hd } : Pg).gone.next ++ R) _ := St.dropB (b := [_, _, _, _, _, _]) ((s3.forget 2 rfl).empty 4 rfl 2 1)
    simp only [zeroT, World.setCells, Nat.reduceAdd] at s4
    have H := hid s4
    clear h0 s2 s3 s4 e1
    have c0 : w2.cell? ⟨Q.X, 0, none⟩ = some (.int .i64 x.fm.pl) := hc 0
    have c10 : w2.cell? ⟨Q.X, 10, none⟩ = some (.int .i64 x.sm) := hc 10
    have c11 : w2.cell? ⟨Q.X, 11, none⟩ = some (.int .i64 x.tr) := hc 11
    have c12 : w2.cell? ⟨Q.X, 12, none⟩ = some (.int .i64 x.sv.pl) := hc 12
    have c13 : w2.cell? ⟨Q.X, 13, none⟩ = some (svV Q.S2 x.sm) := hc 13
    have c14 : w2.cell? ⟨Q.X, 14, none⟩ = some (x.sv.l 0) := hc 14
    have c15 : w2.cell? ⟨Q.X, 15, none⟩ = some (x.sv.l 1) := hc 15
    have c16 : w2.cell? ⟨Q.X, 16, none⟩ = some (x.sv.l 2) := hc 16
    have c17 : w2.cell? ⟨Q.X, 17, none⟩ = some (x.sv.l 3) := hc 17
    have c18 : w2.cell? ⟨Q.X, 18, none⟩ = some (x.sv.l 4) := hc 18
    have c19 : w2.cell? ⟨Q.X, 19, none⟩ = some (x.sv.l 5) := hc 19
    have c20 : w2.cell? ⟨Q.X, 20, none⟩ = some (x.sv.l 6) := hc 20
    have c21 : w2.cell? ⟨Q.X, 21, none⟩ = some (x.sv.l 7) := hc 21
    have c22 : w2.cell? ⟨Q.X, 22, none⟩ = some (Q.hv) := hc 22
    rw [HHV.out] at c22
    clear hc
    go_wp2
    go_end0
    exact ⟨rfl, tq, H.out⟩
end
end Go.Proofs.YthbcbjkgjgmegaaGreat

namespace Go.Proofs.YthbcbjkgjgmegaaGreat
open Go.RowKit
set_option linter.unusedVariables false
set_option linter.unusedSimpArgs false
attribute [local go_sem ↓] Go.wp_at_zero Go.wp_at_succ
/-- A program in memory beside its space, X its block. -/
def PH (o : World) (c : Cfg) (A : Ad) (X : Nat) (R : List It) (z : SSt) (x : Pg) (w : World) : Prop :=
  ∃ Q v u, Q.X = X ∧ (∀ y, x.tx.dg = .com y → Q.P.B.J = Q.P.J) ∧ (x.hd = [] → Q.hv = .slice none 0 0) ∧ St o (txL c A Q.P x.tx ++ spI A c z v u :: (pgC A Q x ++ R)) w
section
variable {o w : World} {its R : List It} {A : Ad} {c : Cfg} {z : SSt} {v u : Value} {Q : PA} {x : Pg} {X : Nat}
theorem PH.box (h : PH o c A X R z x w) (cs : Array Value) (t : TypeId) : PH o c A X (boxI w.heap.size cs t :: R) z x (w.alloc (.cells cs t)) := by
  obtain ⟨Q, v, u, hX, hJ, hn, h⟩ := h
  exact ⟨Q, v, u, hX, hJ, hn, (h.box cs t).mvR⟩
theorem PH.popR {B : It} (h : PH o c A X (B :: R) z x w) : PH o c A X R z x w := by
  obtain ⟨Q, v, u, hX, hJ, hn, h⟩ := h
  exact ⟨Q, v, u, hX, hJ, hn, h.dropR⟩
theorem PH.drew (h : PH o c A X R z x w) : PH o c A X R z x w.drew := by
  obtain ⟨Q, v, u, hX, hJ, hn, h⟩ := h
  exact ⟨Q, v, u, hX, hJ, hn, h.drew⟩
theorem PH.same (h : PH o c A X R z x w) : Kept (fun _ => False) o w := by
  obtain ⟨Q, v, u, hX, hJ, hn, h⟩ := h
  exact h.same
theorem PH.get (h : PH o c A X R z x w) (i : Nat) {B : It} (hi : R[i]? = some B) : B.P w := by
  obtain ⟨Q, v, u, hX, hJ, hn, h⟩ := h
  exact h.get (13 + i) (by rw [Nat.add_comm]; exact hi)
theorem PH.cell (h : PH o c A X R z x w) (i : Nat) {k : Nat} {cs : Array Value} {t : TypeId} (hi : R[i]? = some (boxI k cs t)) (j : Nat) : w.cell? ⟨k, j, none⟩ = cs[j]? := cell_of_heap (h.get i hi)
theorem PH.phase (h : PH o c A X R z x w) : Calls Tryz.prog 27 #[.pointer (some ⟨X, 0, none⟩)] w fun e w' => e = .returned (.int .i64 x.ph) ∧ PH o c A X R z x w' := by
  obtain ⟨Q, v, u, rfl, hJ, hn, h⟩ := h
  exact (pPhase h).mono fun e w' ⟨he, q⟩ => ⟨he, Q, v, u, rfl, hJ, hn, q⟩
theorem PH.inside (h : PH o c A X R z x w) : Calls Tryz.prog 44 #[.pointer (some ⟨X, 0, none⟩)] w fun e w' => e = .returned (.bool x.inside) ∧ PH o c A X R z x w' := by
  obtain ⟨Q, v, u, rfl, hJ, hn, h⟩ := h
  exact (pInside h).mono fun e w' ⟨he, q⟩ => ⟨he, Q, v, u, rfl, hJ, hn, q⟩
theorem PH.under (h : PH o c A X R z x w) : Calls Tryz.prog 66 #[.pointer (some ⟨X, 0, none⟩)] w fun e w' => e = .returned (.bool x.under) ∧ PH o c A X R z x w' := by
  obtain ⟨Q, v, u, rfl, hJ, hn, h⟩ := h
  exact (pUnder h).mono fun e w' ⟨he, q⟩ => ⟨he, Q, v, u, rfl, hJ, hn, q⟩
theorem PH.ends (h : PH o c A X R z x w) (hp : x.ph = 0) (e : Int) : Calls Tryz.prog 106 #[.pointer (some ⟨X, 0, none⟩), .int .i64 e] w fun r w' => r = .returned (.tuple #[]) ∧ PH o c A X R z (x.ends e) w' := by
  obtain ⟨Q, v, u, rfl, hJ, hn, h⟩ := h
  exact (pEnd h.inn e).mono fun r w' ⟨he, q⟩ => ⟨he, { Q with hv := .slice none 0 0 }, v, u, rfl, hJ, fun _ => rfl, q.outw⟩
theorem PH.leave (h : PH o c A X R z x w) (hs : x.sm ≠ 0) (a : Int) : Calls Tryz.prog 138 #[.pointer (some ⟨X, 0, none⟩), .int .i64 a] w fun r w' => r = .returned (.tuple #[]) ∧ PH o c A X R z (x.leave a) w' := by
  obtain ⟨Q, v, u, rfl, hJ, hn, h⟩ := h
  exact (pLeave h.inn hs a).mono fun r w' ⟨he, q⟩ => ⟨he, { Q with S := Q.S2, v := Q.v2, hv := .slice none 0 0 }, v, u, rfl, hJ, fun _ => rfl, q.outw⟩
theorem PH.again (h : PH o c A X R z x w) (hs : x.sm ≠ 0) (t0 : 0 ≤ x.tr) (t1 : x.tr ≤ 1000000000) : Calls Tryz.prog 139 #[.pointer (some ⟨X, 0, none⟩)] w fun r w' => r = .returned (.tuple #[]) ∧ PH o c A X R z x.again w' := by
  obtain ⟨Q, v, u, rfl, hJ, hn, h⟩ := h
  exact (pAgain h.inn hs t0 t1).mono fun r w' ⟨he, S', v', q⟩ => ⟨he, { Q with S := S', v := v', hv := .slice none 0 0 }, v, u, rfl, hJ, fun _ => rfl, q.outw⟩
theorem PH.went (h : PH o c A X R z x w) {k : Nat} (co : x.core k) (hk : k ≤ 1000000000) (f : Fol x) (h5 : x.tx.lo ≠ 5) (h0 : x.tx.le = 0) : Calls Tryz.prog 140 #[.pointer (some ⟨X, 0, none⟩), .agg #[.int .i64 x.tx.lo, .int .i64 x.tx.le, .int .i64 x.tx.lx]] w fun r w' => r = .returned (.tuple #[]) ∧ PH o c A X R z x.went w' := by
  obtain ⟨Q, v, u, rfl, hJ, hn, h⟩ := h
  have hl := (checkM_all co.ck).1
  have p0 := co.p0
  have p1 := co.p1
  unfold Pg.went
  by_cases e2 : x.tx.lo = 2
  · rw [if_pos e2, e2]
    exact (pWent_read h.inn p0 (by omega) (f.rd e2 h0) co.sl _ _).mono fun r w' ⟨he, v', q⟩ => ⟨he, { Q with v := v' }, v, u, rfl, hJ, hn, q.outw⟩
  · rw [if_neg e2]
    by_cases e3 : x.tx.lo = 3
    · rw [if_pos e3, e3]
      exact (pWent_write h.inn p0 (by omega) (f.wt e3 h0) _ _).mono fun r w' ⟨he, v', q⟩ => ⟨he, { Q with v := v' }, v, u, rfl, hJ, hn, q.outw⟩
    · rw [if_neg e3]
      by_cases e4 : x.tx.lo = 4
      · rw [if_pos e4, e4]
        by_cases hh : x.hd = []
        · exact (pWent_none h.inn p0 (by omega) hh (hn hh) _ _).mono fun r w' ⟨he, q⟩ => ⟨he, { Q with hv := .slice none 0 0 }, v, u, rfl, hJ, fun _ => rfl, q.outw⟩
        · have := co.hl
          exact (pWent_some h.inn p0 (by omega) hh (by omega) _ _).mono fun r w' ⟨he, tv', q⟩ => ⟨he, { Q with hv := .slice none 0 0, tv := tv' }, v, u, rfl, hJ, fun _ => rfl, q.outw⟩
      · rw [if_neg e4]
        exact (pWent_else h.inn p0 (by omega) e2 e3 e4 _ _).mono fun r w' ⟨he, q⟩ => ⟨he, Q, v, u, rfl, hJ, hn, q.outw⟩
set_option maxRecDepth 100000 in
theorem PH.last (h : PH o c A X R z x w) : ∃ T, w.cell? ⟨X, 24, none⟩ = some (.pointer (some ⟨T, 0, none⟩)) ∧ Calls Tryz.prog 137 #[.pointer (some ⟨T, 0, none⟩)] w fun e w' => e = .returned (.agg #[.int .i64 x.tx.lo, .int .i64 x.tx.le, .int .i64 x.tx.lx]) ∧ PH o c A X R z x w' := by
  obtain ⟨Q, v, u, rfl, hJ, hn, h⟩ := h
  refine ⟨Q.P.T, h.cell 7 rfl 24, (tLast h).mono ?_⟩
  rintro e w' ⟨he, q⟩
  exact ⟨he, Q, v, u, rfl, hJ, hn, h.calm q⟩
/-- The list of instructions, as it lies there. -/
theorem PH.list (h : PH o c A X R z x w) (hl : 0 < x.li.length) : ∃ g cap, w.cell? ⟨X, 25, none⟩ = some (.slice (some ⟨g, 0, none⟩) x.li.length cap) ∧ w.cell? ⟨X, 0, none⟩ = some (.int .i64 x.fm.pl) ∧ ∀ j, j < x.li.length → w.cell? ⟨g, j * 2, none⟩ = some (.int .i64 (x.li.getD j Ins.zero).op) ∧ w.cell? ⟨g, j * 2 + 1, none⟩ = some (.int .i64 (x.li.getD j Ins.zero).a) := by
  obtain ⟨Q, v, u, rfl, hJ, hn, h⟩ := h
  obtain ⟨g, cap, e⟩ := h.form 10 (show _ = some (ownI 79 2 Q.lv x.li.length (insCells x.li)) from rfl) hl
  refine ⟨g, cap, (h.cell 7 rfl 25).trans (congrArg some e), h.cell 7 rfl 0, fun j hj => ?_⟩
  have hi : (txL c A Q.P x.tx ++ spI A c z v u :: (pgC A Q x ++ R))[10]? = some (ownI 79 2 (.slice (some ⟨g, 0, none⟩) x.li.length cap) x.li.length (insCells x.li)) := by
    have : (txL c A Q.P x.tx ++ spI A c z v u :: (pgC A Q x ++ R))[10]? = some (ownI 79 2 Q.lv x.li.length (insCells x.li)) := rfl
    rw [this, e]
  have ha := insCells_at x.li j hj
  exact ⟨(h.ownCell 10 hi (j * 2) (by omega)).trans ha.1, (h.ownCell 10 hi (j * 2 + 1) (by omega)).trans ha.2⟩
set_option maxRecDepth 100000 in
set_option maxHeartbeats 2000000 in
theorem PH.follow (h : PH o c A X R z x w) {k : Nat} (co : x.core k) (hk : k ≤ 1000000000) (f : Fol x) : Calls Tryz.prog 109 #[.pointer (some ⟨X, 0, none⟩)] w fun r w' => r = .returned (.tuple #[]) ∧ PH o c A X R z x.follow w' := by
  obtain ⟨T, cT, hq⟩ := h.last
  clear h
  obtain ⟨F, hF⟩ : ∃ F, F = x.follow := ⟨_, rfl⟩
  rw [← hF]
  obtain ⟨lo, hlo⟩ : ∃ lo, lo = x.tx.lo := ⟨_, rfl⟩
  obtain ⟨le, hle⟩ : ∃ le, le = x.tx.le := ⟨_, rfl⟩
  obtain ⟨lx, hlx⟩ : ∃ lx, lx = x.tx.lx := ⟨_, rfl⟩
  rw [← hlo, ← hle, ← hlx] at hq
  have HL : Hid (lo = x.tx.lo ∧ le = x.tx.le ∧ lx = x.tx.lx ∧ F = x.follow) := ⟨hlo, hle, hlx, hF⟩
  clear hlo hle hlx hF
  go_enter Tryz.func109, Tryz.ntmps109
  go_wp2_with fail
  refine hq.mono ?_
  rintro e w1 ⟨rfl, s1⟩
  clear hq cT
  have s2 := s1.box #[.int .i64 lo, .int .i64 le, .int .i64 lx] 127
  clear s1
  by_cases e5 : lo = 5
  · by_cases e6 : le = 165
    · obtain ⟨hlo, hle, hlx, hF⟩ := HL.out
      obtain ⟨a1, a2, a3⟩ := f.ab (by omega) (by omega)
      have p0 := co.p0
      obtain ⟨j, hj⟩ : ∃ j : Nat, x.fm.pl = j := ⟨x.fm.pl.toNat, by omega⟩
      obtain ⟨aa, haa⟩ : ∃ aa, aa = (x.li.getD j Ins.zero).a := ⟨_, rfl⟩
      have HA : Hid (F = x.leave aa) := by
        rw [hF]; unfold Pg.follow; rw [if_pos ⟨by omega, by omega⟩, haa, hj]; rfl
      clear hlo hle hlx hF HL f
      subst e5 e6
      go_upto_region 2 with fail
      generalize w1.alloc (.cells #[.int .i64 5, .int .i64 165, .int .i64 lx] 127) = W0 at *
      generalize w1.heap.size = B at *
      have b0 : W0.cell? ⟨B, 0, none⟩ = some (.int .i64 5) := s2.cell 0 rfl 0
      have b1 : W0.cell? ⟨B, 1, none⟩ = some (.int .i64 165) := s2.cell 0 rfl 1
      go_upto_region 3 with fail
      obtain ⟨g, cap, c25, c0, hi⟩ := s2.drew.list (by omega)
      rw [hj] at c0 a2
      have d1 := (hi j (by omega)).2
      rw [← haa] at d1
      have hq := s2.drew.leave (by omega) aa
      have j0 : (0 : Int) ≤ j := by omega
      have jn : (j : Int) < x.li.length := by omega
      clear hi s2 hj p0 a3 b0 b1 haa
      generalize x.li.length = ln at *
      go_region_with (go_at_call 138; refine hq.mono ?_; rintro e w3 ⟨rfl, s3⟩; have H3 := hid s3; clear s3)
      all_goals
        clear hq
        go_wp2
        first | go_end0 | refine bodyPost_ret (results_none rfl _ _ _) rfl ?_
        refine ⟨rfl, ?_⟩
        rw [HA.out]
        exact H3.out.popR
    · obtain ⟨hlo, hle, hlx, hF⟩ := HL.out
      have hp := f.lv (.inl (by omega))
      have hFx : F = x.ends le := by
        rw [hF]; unfold Pg.follow; rw [if_neg (fun q => by omega), if_pos (by omega), hle]
      subst hFx
      clear hlo hle hlx hF HL f
      subst e5
      have m6 : (le == 165) = false := by simpa using e6
      clear e6
      go_upto_region 2 with fail
      generalize w1.alloc (.cells #[.int .i64 5, .int .i64 le, .int .i64 lx] 127) = W0 at *
      generalize w1.heap.size = B at *
      have b0 : W0.cell? ⟨B, 0, none⟩ = some (.int .i64 5) := s2.cell 0 rfl 0
      have b1 : W0.cell? ⟨B, 1, none⟩ = some (.int .i64 le) := s2.cell 0 rfl 1
      have hq := s2.ends hp le
      clear s2
      go_wp2_with fail
      refine hq.mono ?_
      rintro e w3 ⟨rfl, s3⟩
      have H3 := hid s3
      clear hq s3
      go_wp2
      first | go_end0 | refine bodyPost_ret (results_none rfl _ _ _) rfl ?_
      exact ⟨rfl, H3.out.popR⟩
  · have m5 : (lo == 5) = false := by simpa using e5
    by_cases e0 : le = 0
    · obtain ⟨hlo, hle, hlx, hF⟩ := HL.out
      have hFx : F = x.went := by
        rw [hF]; unfold Pg.follow; rw [if_neg (fun q => by omega), if_neg (by omega), if_neg (fun q => q (by omega))]
      subst hFx
      have hq0 := s2.went co hk f (by omega) (by omega)
      rw [← hlo, ← hle, ← hlx] at hq0
      clear hlo hle hlx hF HL f
      subst e0
      go_upto_region 2 with fail
      generalize w1.alloc (.cells #[.int .i64 lo, .int .i64 0, .int .i64 lx] 127) = W0 at *
      generalize w1.heap.size = B at *
      have b0 : W0.cell? ⟨B, 0, none⟩ = some (.int .i64 lo) := s2.cell 0 rfl 0
      have b1 : W0.cell? ⟨B, 1, none⟩ = some (.int .i64 0) := s2.cell 0 rfl 1
      have b2 : W0.cell? ⟨B, 2, none⟩ = some (.int .i64 lx) := s2.cell 0 rfl 2
      clear s2
      go_wp2_with fail
      refine hq0.mono ?_
      rintro e w3 ⟨rfl, s3⟩
      have H3 := hid s3
      clear hq0 s3
      go_wp2
      first | go_end0 | refine bodyPost_ret (results_none rfl _ _ _) rfl ?_
      exact ⟨rfl, H3.out.popR⟩
    · obtain ⟨hlo, hle, hlx, hF⟩ := HL.out
      have hs := f.ag (by omega) (by omega)
      have t0 := co.t0
      have t1 := co.t1
      have hFx : F = x.again := by
        rw [hF]; unfold Pg.follow; rw [if_neg (fun q => by omega), if_neg (by omega), if_pos (by omega)]
      subst hFx
      have hq := s2.again (by omega) t0 (by omega)
      clear hlo hle hlx hF HL f t0 t1
      have m0 : (le != 0) = true := by simpa using e0
      clear e0
      go_upto_region 2 with fail
      generalize w1.alloc (.cells #[.int .i64 lo, .int .i64 le, .int .i64 lx] 127) = W0 at *
      generalize w1.heap.size = B at *
      have b0 : W0.cell? ⟨B, 0, none⟩ = some (.int .i64 lo) := s2.cell 0 rfl 0
      have b1 : W0.cell? ⟨B, 1, none⟩ = some (.int .i64 le) := s2.cell 0 rfl 1
      clear s2
      go_wp2_with fail
      refine hq.mono ?_
      rintro e w3 ⟨rfl, s3⟩
      have H3 := hid s3
      clear hq s3
      go_wp2
      first | go_end0 | refine bodyPost_ret (results_none rfl _ _ _) rfl ?_
      exact ⟨rfl, H3.out.popR⟩
theorem pgV_P (A : Ad) (Q : PA) (x : Pg) {P : TA} (h : P.T = Q.P.T) (t : Tt) : pgC A { Q with P := P } { x with tx := t } = pgC A Q x := by
  unfold pgC pgV pgW
  simp only [h]
/-- One step of the transaction. -/
theorem PH.txStep (h : PH o c A X R z x w) {n k : Nat} (hx : x.tx.fit c n k) (ok : z.ok c k) (hk : k ≤ 900000000) (hz : z.hs.length = n) (hf : c.fits = true) (hw : WsOk z.ws) : ∃ T, w.cell? ⟨X, 24, none⟩ = some (.pointer (some ⟨T, 0, none⟩)) ∧ Calls Tryz.prog 108 #[.pointer (some ⟨T, 0, none⟩)] w fun e w' => e = .returned (.int .i64 (x.tx.ans z)) ∧ PH o c A X R (z.steps c x.tx) (x.stepped c z) w' := by
  obtain ⟨Q, v, u, rfl, hJ, hn, h⟩ := h
  refine ⟨Q.P.T, h.cell 7 rfl 24, (tStep h ok (by omega) (by rw [hz]; exact hx) (by omega) hf hw hJ).mono ?_⟩
  rintro e w' ⟨he, P', v', u', hT, hJ', q⟩
  refine ⟨he, { Q with P := P' }, v', u', rfl, hJ', hn, ?_⟩
  unfold Pg.stepped
  rw [pgV_P A Q x hT]
  exact q
set_option maxRecDepth 100000 in
theorem PH.goOn (h : PH o c A X R z x w) {n k : Nat} (hx : x.fit c n k) (hu : x.under = true) (ok : z.ok c k) (hk : k ≤ 900000000) (hz : z.hs.length = n) (hf : c.fits = true) (hw : WsOk z.ws) : Calls Tryz.prog 67 #[.pointer (some ⟨X, 0, none⟩)] w fun e w' => e = .returned (.int .i64 (x.tx.ans z)) ∧ PH o c A X R (z.steps c x.tx) (x.goOn c z) w' := by
  obtain ⟨T, cT, hq⟩ := h.txStep hx.tx ok hk hz hf hw
  have hst := hx.stepped hu hz hw (c := c)
  have hco : (x.stepped c z).core k := hx.co.withTx _
  clear h
  unfold Pg.goOn
  generalize x.tx.ans z = an at *
  generalize z.steps c x.tx = z' at *
  generalize x.stepped c z = y at *
  cases e : y.under
  · have hfo := hst.2 e
    rw [if_neg (by simp)]
    go_enter Tryz.func67, Tryz.ntmps67
    go_wp2_with fail
    refine hq.mono ?_
    rintro r w1 ⟨rfl, s1⟩
    clear hq cT
    have hq := s1.under
    rw [e] at hq
    clear s1
    go_wp2_with fail
    refine hq.mono ?_
    rintro r w2 ⟨rfl, s2⟩
    clear hq
    have hq := s2.follow hco (by omega) hfo
    clear s2
    go_wp2_with fail
    refine hq.mono ?_
    rintro r w3 ⟨rfl, s3⟩
    have H3 := hid s3
    clear hq s3
    go_wp2
    go_ret
    exact ⟨rfl, H3.out⟩
  · rw [if_pos rfl]
    go_enter Tryz.func67, Tryz.ntmps67
    go_wp2_with fail
    refine hq.mono ?_
    rintro r w1 ⟨rfl, s1⟩
    clear hq cT
    have hq := s1.under
    rw [e] at hq
    clear s1
    go_wp2_with fail
    refine hq.mono ?_
    rintro r w2 ⟨rfl, s2⟩
    have H3 := hid s2
    clear hq s2
    go_wp2
    go_ret
    exact ⟨rfl, H3.out⟩
set_option maxRecDepth 100000 in
theorem PH.begun (h : PH o c A X R z x w) {n k : Nat} (hb : Beg x c n k) (ok : z.ok c k) (hk : k ≤ 900000000) (hz : z.hs.length = n) (hf : c.fits = true) (hw : WsOk z.ws) : Calls Tryz.prog 193 #[.pointer (some ⟨X, 0, none⟩), .int .i64 0] w fun e w' => e = .returned (.int .i64 (x.began c z).a) ∧ PH o c A X R (x.began c z).z (x.began c z).x w' := by
  have hq := h.under
  clear h
  unfold Pg.began Pg.begun Pg.begunZ Pg.begunA
  simp only
  cases e : x.under
  · have hfo := hb.no e
    rw [e] at hq
    simp only [Bool.false_eq_true, if_false]
    go_enter Tryz.func193, Tryz.ntmps193
    go_wp2_with fail
    refine hq.mono ?_
    rintro r w2 ⟨rfl, s2⟩
    clear hq
    have hq := s2.follow hb.co (by omega) hfo
    clear s2
    go_wp2_with fail
    refine hq.mono ?_
    rintro r w3 ⟨rfl, s3⟩
    have H3 := hid s3
    clear hq s3
    go_wp2
    go_ret
    exact ⟨rfl, H3.out⟩
  · rw [e] at hq
    simp only [if_true]
    obtain ⟨an, han⟩ : ∃ an, an = x.tx.ans z := ⟨_, rfl⟩
    rw [← han]
    have HA := hid han
    clear han
    go_enter Tryz.func193, Tryz.ntmps193
    go_wp2_with fail
    refine hq.mono ?_
    rintro r w2 ⟨rfl, s2⟩
    clear hq
    have hq := s2.goOn (hb.yes e) e ok hk hz hf hw
    rw [← HA.out] at hq
    clear s2
    go_wp2_with fail
    refine hq.mono ?_
    rintro r w3 ⟨rfl, s3⟩
    have H3 := hid s3
    clear hq s3
    go_wp2
    go_ret
    exact ⟨rfl, H3.out⟩
end
end Go.Proofs.YthbcbjkgjgmegaaGreat
