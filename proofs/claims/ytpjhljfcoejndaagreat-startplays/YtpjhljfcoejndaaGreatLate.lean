/- The steps of a script as they lie in memory when they come in, and how they are read. A turn and one call behind it count as one. No program is named here. -/
import Derived.Test.YtpjhljfcoejndaaGreatProg
import Derived.Test.YtpjhljfcoejndaaGreatClX
import Derived.ProofKit
import Derived.Deep.Slices
import Derived.OpenShut
import Derived.SizedLaws
import Derived.Test.YtpjhljfcoejndaaGreatSpA
import Derived.Test.YtpjhljfcoejndaaGreatUp
namespace Go.Proofs.YtpjhljfcoejndaaGreat
open Go.RowKit Go.ChangeShapes Go.WideShapes Go.Deep
set_option linter.unusedVariables false
set_option linter.unusedSimpArgs false

/-- One step of a script. -/
structure OpD where
  kind : Int
  m : Int
  i : Int
  n : Int
  x : Int

structure OpAt (w : World) (b off : Nat) (o : OpD) : Prop where
  c0 : w.cell? ⟨b, off, none⟩ = some (.int .i64 o.kind)
  c1 : w.cell? ⟨b, off + 1, none⟩ = some (.int .i64 o.m)
  c2 : w.cell? ⟨b, off + 2, none⟩ = some (.int .i64 o.i)
  c3 : w.cell? ⟨b, off + 3, none⟩ = some (.int .i64 o.n)
  c4 : w.cell? ⟨b, off + 4, none⟩ = some (.int .i64 o.x)

/-- A script that came in. -/
def ScriptAt (w : World) (a : Option Addr) (len : Nat) (f : Nat → OpD) : Prop :=
  len = 0 ∨ ∃ b off, a = some ⟨b, off, none⟩ ∧ ∀ i, i < len → OpAt w b (off + i * 5) (f i)

theorem OpAt.kept {w w' : World} {b off : Nat} {o : OpD} (h : OpAt w b off o) (k : Kept (fun _ => False) w w') : OpAt w' b off o := by
  have hb : b < w.heap.size := World.block_lt_of_cell? w _ h.c0
  have e : ∀ j, w'.cell? ⟨b, j, none⟩ = w.cell? ⟨b, j, none⟩ := fun j => World.cell?_of_block (k.block b hb (fun f => f))
  exact ⟨(e _).trans h.c0, (e _).trans h.c1, (e _).trans h.c2, (e _).trans h.c3, (e _).trans h.c4⟩

section
variable {H : Type} {enc : TypeId × Value → H} {w : World}

theorem mem_weightsAll {P : Program} {e : TypeId} {d : DataW H} {n : Nat} : ∀ {l : List (DataW H)}, d ∈ l → n ∈ d.weights P e → n ∈ DataW.weightsAll P e l := by
  intro l
  induction l with
  | nil => intro h; cases h
  | cons x r ih =>
    intro h hn
    simp only [DataW.weightsAll, List.mem_append]
    cases List.mem_cons.1 h with
    | inl e => subst e; exact .inl hn
    | inr e => exact .inr (ih e hn)
theorem Tryz.cellsOp : Tryz.prog.cellsOf 38 = 5 := by kernel_rfl
theorem Tryz.bytesOp : Tryz.prog.bytesOf 38 = 40 := by kernel_rfl
theorem Tryz.cells_int : Tryz.prog.cellsOf 3 = 1 := by kernel_rfl
theorem Tryz.cells_i64 : Tryz.prog.cellsOf 2 = 1 := by kernel_rfl

def OpD.zero : OpD := ⟨0, 0, 0, 0, 0⟩

set_option maxRecDepth 100000 in
theorem open_op {fuel : Nat} {cs : List Value} {x : DataW H × List MemPlace} (h : DataW.trod enc Tryz.prog w 0 (fun _ => true) true fuel 38 cs = some x) (hz : ∀ n ∈ x.1.weights Tryz.prog 38, n ≤ reachBytes) :
    ∃ o : OpD, cs = [.int .i64 o.kind, .int .i64 o.m, .int .i64 o.i, .int .i64 o.n, .int .i64 o.x] := by
  obtain ⟨xs, n, _, rfl, hl, hlen, hf⟩ := DataW.trod_struct Tryz.underlying38 h
  rw [Tryz.cellsOp] at hl
  match cs, hl with
  | [v0, v1, v2, v3, v4], _ =>
    match xs, hlen with
    | [y0, y1, y2, y3, y4], _ =>
      have g0 := hf 0 _ rfl
      have g1 := hf 1 _ rfl
      have g2 := hf 2 _ rfl
      have g3 := hf 3 _ rfl
      have g4 := hf 4 _ rfl
      simp [Tryz.cells_int, Tryz.cells_i64] at g0 g1 g2 g3 g4
      obtain ⟨b0, e0, _, _⟩ := DataW.trod_int Tryz.underlying3 g0
      simp only [List.cons.injEq, and_true] at e0
      subst e0
      obtain ⟨b1, e1, _, _⟩ := DataW.trod_int Tryz.underlying3 g1
      simp only [List.cons.injEq, and_true] at e1
      subst e1
      obtain ⟨b2, e2, _, _⟩ := DataW.trod_int Tryz.underlying3 g2
      simp only [List.cons.injEq, and_true] at e2
      subst e2
      obtain ⟨b3, e3, _, _⟩ := DataW.trod_int Tryz.underlying3 g3
      simp only [List.cons.injEq, and_true] at e3
      subst e3
      obtain ⟨b4, e4, _, _⟩ := DataW.trod_int Tryz.underlying2 g4
      simp only [List.cons.injEq, and_true] at e4
      subst e4
      exact ⟨⟨b0, b1, b2, b3, b4⟩, rfl⟩

set_option maxRecDepth 100000 in
/-- What is known of a list of steps that came in. -/
theorem open_script {a : Option Addr} {len cap : Nat} {d : DataW H} {p : List MemPlace} (h : DataW.Trod enc Tryz.prog w 0 (fun _ => true) true 24 (.slice a len cap) d p) (hz : ∀ n ∈ d.weights Tryz.prog 24, n ≤ reachBytes) :
    ∃ f : Nat → OpD, ScriptAt w a len f ∧ (len = 0 ∨ ∃ es sp, d = .slice es sp ∧ es.length = len) ∧ len * 40 ≤ 140737488351232 := by
  obtain ⟨fuel, hf⟩ := h
  by_cases h0 : len = 0
  · exact ⟨fun _ => .zero, .inl h0, .inl h0, by omega⟩
  rcases open_slice Tryz.underlying24 hf with ⟨hcs, _⟩ | ⟨a', len', cap', m, n, D, Pl, hcs, _, hl, hm, hmm, hx, hcell⟩
  · simp [Value.cells] at hcs
    omega
  · simp [Value.cells] at hcs
    obtain ⟨rfl, rfl, rfl⟩ := hcs
    simp only [if_true] at hmm
    subst hmm
    simp only [Prod.mk.injEq] at hx
    obtain ⟨hd, _⟩ := hx
    have hmem : ∀ i, i < len → ∀ k ∈ (D i).weights Tryz.prog 38, k ≤ reachBytes := by
      intro i hi k hk
      refine hz k ?_
      rw [hd]
      simp only [DataW.weights, Tryz.underlying24, List.mem_cons, List.mem_append]
      exact .inr (.inl (mem_weightsAll (List.mem_map.2 ⟨i, by simpa using hi, rfl⟩) hk))
    have hsl : ∃ es sp, d = .slice es sp ∧ es.length = len := ⟨_, _, hd, by simp⟩
    have hreach : len * 40 ≤ 140737488351232 := by
      have := hz ((len + (m - len)) * 40) (by
        rw [hd]
        simp [DataW.weights, Tryz.underlying24, Tryz.bytesOp])
      simp only [reachBytes] at this
      omega
    obtain ⟨cs0, hc0, _⟩ := hcell 0 (by omega)
    rw [Tryz.cellsOp] at hc0
    have hs := (World.cells?_some hc0)
    obtain ⟨b, off, spot⟩ := a'
    have h00 := hs.2.2 0 (by omega)
    rw [List.getElem?_eq_getElem (by omega)] at h00
    have hspot : spot = none := by simpa [Addr.add] using World.cell?_spot h00
    subst hspot
    have hall : ∀ i, i < len → ∃ o : OpD, OpAt w b (off + i * 5) o := by
      intro i hi
      obtain ⟨cs, hc, ht⟩ := hcell i (by omega)
      rw [Tryz.cellsOp] at hc
      obtain ⟨o, rfl⟩ := open_op ht (hmem i hi)
      have hcc := (World.cells?_some hc).2.2
      have eadd : ∀ j, ((⟨b, off, none⟩ : Addr).add (i * 5)).add j = ⟨b, off + i * 5 + j, none⟩ := by
        intro j
        unfold Addr.add
        split <;> split <;> simp_all
      have c0 := hcc 0 (by omega)
      have c1 := hcc 1 (by omega)
      have c2 := hcc 2 (by omega)
      have c3 := hcc 3 (by omega)
      have c4 := hcc 4 (by omega)
      rw [eadd] at c0 c1 c2 c3 c4
      exact ⟨o, c0, c1, c2, c3, c4⟩
    obtain ⟨f, hff⟩ := @choose_lt OpD ⟨.zero⟩ len (fun i o => OpAt w b (off + i * 5) o) hall
    exact ⟨f, .inr ⟨b, off, rfl, hff⟩, .inr hsl, hreach⟩
end
end Go.Proofs.YtpjhljfcoejndaaGreat

namespace Go.Proofs.YtpjhljfcoejndaaGreat
open Go.RowKit
set_option linter.unusedVariables false

def near (s s' : Mt) : Prop := s' = s ∨ ∃ a b c d, s' = s.note a b c d
theorem near_within {s s' : Mt} {k : Nat} {t : Int} (h : s.within k) (hn : near (s.start t) s') : s'.within (k + 1) := by
  obtain ⟨a, b, c, d, e⟩ := h
  rcases hn with rfl | ⟨p, q, r, u, rfl⟩
  · exact ⟨by simp only [Mt.start]; omega, by simp only [Mt.start]; omega, by simp only [Mt.start]; omega, by simp only [Mt.start]; omega, by simp only [Mt.start]; omega⟩
  · exact ⟨by simp only [Mt.start, Mt.note]; omega, by simp only [Mt.start, Mt.note]; omega, by simp only [Mt.start, Mt.note]; omega, by simp only [Mt.start, Mt.note]; omega, by simp only [Mt.start, Mt.note, List.length_append, List.length_singleton]; omega⟩
theorem storeS_near (s : Mt) (xs : List Int) (k : Int) : near s (storeS s xs k) := by
  unfold storeS; split
  · exact .inr ⟨_, _, _, _, rfl⟩
  · exact .inl rfl
theorem takeS_near (s : Mt) (x : Gt) (t : Int) : near s (takeS s x t) := by
  unfold takeS; split
  · exact .inr ⟨_, _, _, _, rfl⟩
  · exact .inl rfl
theorem giveS_near (s : Mt) (x : Gt) (t : Int) : near s (giveS s x t) := by
  unfold giveS; split
  · exact .inr ⟨_, _, _, _, rfl⟩
  · exact .inl rfl
theorem putS_near (s : Mt) (n : Nat) (i j : Int) : near s (putS s n i j) := by
  unfold putS; split
  · exact .inl rfl
  · exact .inr ⟨_, _, _, _, rfl⟩
theorem HOp.near (p : HOp) (s : Mt) (hs : List Hd) (i : Int) : Proofs.YtpjhljfcoejndaaGreat.near s (p.S s hs i) := by
  unfold HOp.S; split
  · split
    · exact .inl rfl
    · exact .inr ⟨_, _, _, _, rfl⟩
  · exact .inl rfl
theorem SSt.ok.late {y : SSt} {c : Cfg} {k : Nat} {s : Mt} (h : y.ok c k) (hs : s.within k) : (⟨s, y.xs, y.x, y.hs, y.ws, y.ev⟩ : SSt).ok c k := ⟨hs, h.hd, h.g0, h.g1, h.gk, h.wl, h.el, h.cl, h.hl, h.c1, h.c2, h.h1, h.h8⟩
section
variable {z : SSt} {c : Cfg} {k : Nat} {t : Int}
theorem SSt.ok.storeT (h : z.ok c k) (i x : Int) : ((z.turn t).store i x).ok c (k + 1) := (h.store i x).late (near_within (t := t) h.met (storeS_near _ _ _))
theorem SSt.ok.takeT (h : z.ok c k) (i : Int) : ((z.turn t).take i).ok c (k + 1) := (h.take i).late (near_within (t := t) h.met (takeS_near _ _ _))
theorem SSt.ok.giveT (h : z.ok c k) (i : Int) : ((z.turn t).give i).ok c (k + 1) := (h.give i).late (near_within (t := t) h.met (giveS_near _ _ _))
theorem SSt.ok.opT (h : z.ok c k) (p : HOp) (i : Int) (hp : HsOk (p.H z.hs i) (k + 1)) : ((z.turn t).op p i).ok c (k + 1) := (h.op p i hp).late (near_within (t := t) h.met (HOp.near _ _ _ _))
theorem SSt.ok.putT (h : z.ok c k) (i j x : Int) : ((z.turn t).put i j x).ok c (k + 1) := (h.put i j x).late (near_within (t := t) h.met (putS_near _ _ _ _))
theorem SSt.ok.goesT (h : z.ok c k) (b : Bg) : ((z.turn t).goes b).ok c (k + 1) := by
  unfold SSt.goes
  split
  · exact h.opT _ _ (claim_keeps h.hd _ _)
  · split
    · exact h.putT _ _ _
    · split
      · exact h.opT _ _ (ready_keeps h.hd _ _ _)
      · exact h.turn t
end
end Go.Proofs.YtpjhljfcoejndaaGreat
