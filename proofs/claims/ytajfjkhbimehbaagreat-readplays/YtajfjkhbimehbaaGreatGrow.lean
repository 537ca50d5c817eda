/- append where the row is longer than the library's laws take: the next capacity is asked for, not twice the length. No program is named here. -/
import Derived.Test.YtajfjkhbimehbaaGreatKit
namespace Go.Proofs.YtajfjkhbimehbaaGreat
open Go.RowKit
set_option linter.unusedVariables false
set_option linter.unusedSimpArgs false

/-- One more than a full row: a quarter more, and some. -/
theorem cap_one (n : Nat) : Builtin.nextslicecap (n + 1) n ≤ n + n / 4 + 512 := by
  unfold Builtin.nextslicecap
  split
  · omega
  · split
    · omega
    · rw [growBy_four]
      split
      · omega
      · split
        · omega
        · omega

section
variable {P : Program} {w : World} {base : Nat} {e : TypeId} {z : Value} {n m size bytes : Nat} {xs news : List Value}

/-- A row that was just made for what is wanted. -/
theorem own_grown (hz : z.cells.size = size) (hl : (xs ++ news).length = (n + m) * size) (hb : base ≤ w.heap.size) {cap : Nat} (hc : n + m ≤ cap) (hx : cap ≤ maxLen) :
    (w.drew.alloc (.cells (xs.toArray ++ news.toArray ++ Builtin.zeroCells z.cells (cap - (n + m))) e)).ownsRow base e size (.slice (some ⟨w.heap.size, 0, none⟩) (n + m) cap) (n + m) (xs ++ news) := by
  refine ⟨hl, .inr ⟨w.heap.size, cap, _, rfl, hb, heap_alloc_new w.drew _, hc, hx, ?_, ?_⟩⟩
  · have h1 : (xs.toArray ++ news.toArray ++ Builtin.zeroCells z.cells (cap - (n + m))).size = (xs ++ news).length + (cap - (n + m)) * size := by
      simp [size_zeroCells, hz]
    rw [h1, hl, ← Nat.add_mul, Nat.add_sub_cancel' hc]
  · have h2 : (xs.toArray ++ news.toArray ++ Builtin.zeroCells z.cells (cap - (n + m))).toList = (xs ++ news) ++ (Builtin.zeroCells z.cells (cap - (n + m))).toList := by simp
    rw [h2, ← hl, List.take_left]

theorem run_append_wide (t ty : TypeId) {i : TypeInfo} (ht : P.underlying t = some (.slice e)) (hi : P.info? e = some i) (hz : i.zero = some z) (hs : i.size = size) (hby : i.bytes = bytes) (hzs : z.cells.size = size)
    {g cap : Nat} (hown : w.ownsRow base e size (.slice (some ⟨g, 0, none⟩) n cap) n xs) (ad : Addr) (c : Nat) (hl : news.length = m * size) (hnews : ∀ j u, news[j]? = some u → w.cell? (ad.add j) = some u) (h1 : ∀ u ∈ news, u.oneCell' = true)
    (h63 : n + m ≤ maxLen) (hcap : cap < n + m → Builtin.nextslicecap (n + m) cap * bytes ≤ 281474976710656) (hbase : base ≤ w.heap.size) :
    ∃ g' cap' w', (Builtin.append_ #[t, t] ty #[.slice (some ⟨g, 0, none⟩) n cap, .slice (some ad) m c]).run P w = .ok (.slice (some ⟨g', 0, none⟩) (n + m) cap') w' ∧
      w'.ownsRow base e size (.slice (some ⟨g', 0, none⟩) (n + m) cap') (n + m) (xs ++ news) ∧ w.grownBy w' (some g) ∧ (g' = g ∨ g' = w.heap.size) ∧ g' < w'.heap.size := by
  have hlen : (xs ++ news).length = (n + m) * size := by rw [List.length_append, hown.1, hl, Nat.add_mul]
  have hcells := hown.cells (g := g) rfl
  subst hs hby
  rcases hown.2 with ⟨hv, _⟩ | ⟨g2, cap2, cur, hv, hbg, hg, hnc, hcm, hcs, htake⟩
  · cases hv
  simp only [Value.slice.injEq, Option.some.injEq, Addr.mk.injEq, and_true, true_and] at hv
  obtain ⟨rfl, rfl⟩ := hv
  by_cases hroom : n + m ≤ cap
  · have hfit : n * i.size + news.length ≤ cur.size := by
      have := Nat.mul_le_mul_right i.size hroom
      rw [Nat.add_mul] at this
      rw [hl, hcs]; exact this
    refine ⟨g, cap, _, run_append_room w t ty e i ht hi g n cap cur hg ad m c news hl hnews h1 hroom hfit, ⟨hlen, .inr ⟨g, cap, _, rfl, hbg, setRow_heap w g cur _ e _ hg, hroom, hcm, ?_, ?_⟩⟩, ⟨rfl, rfl, rfl, by simp, fun k _ hk => setRow_other w g k _ (fun h => hk (by rw [h]))⟩, .inl rfl, ?_⟩
    · have : cur.toList.length = cap * i.size := by simpa using hcs
      simp only [List.size_toArray, List.length_append, List.length_take, List.length_drop, this]
      rw [hcs] at hfit
      omega
    · rw [htake, ← hlen, List.take_left]
    · have := lt_of_heap hg
      simpa using this
  · have h2 : ((n + m : Nat) : Int) ≤ 9223372036854775807 := by unfold maxLen at h63; omega
    have h3 := grownCap_ge w (n + m) cap e
    have h4 := grownCap_le_maxLen w (n + m) cap e h63
    exact ⟨w.heap.size, grownCap w (n + m) cap e, _, run_append_grow w t ty e i z ht hi hz ⟨g, 0, none⟩ n cap xs hown.1 hcells ad m c news hl hnews (by omega) h2 (hcap (by omega)), own_grown hzs hlen hbase h3 h4, ⟨rfl, rfl, rfl, by simp, fun k hk _ => Below.heap_alloc w.drew _ k hk⟩, .inr rfl, by simp⟩

/-- One cell row more, at a step of a region that draws its order: as 'step_append_lies', the row may be longer. -/
theorem step_append_one {ops : Array Oper} {o : Oper} {a : Act} {K : Act → World → Prop} {Q : Exit → Act → World → Prop} {E : Prop} (hgd : o.guard = none) (s x : Operand) (t : TypeId)
    (ho : o.op = .call { callee := .builtin .append, args := #[s, x], argTypes := #[t, t] }) (i : TypeInfo)
    (ht : P.underlying t = some (.slice e)) (hi : P.info? e = some i) (hz : i.zero = some z) (hs : i.size = size) (hby : i.bytes = bytes) (hzs : z.cells.size = size) (hsz : 0 < size)
    (v : Value) (hsv : a.eval s = v) (hown : w.ownsRow base e size v n xs) (ad : Addr) (c : Nat) (hx : a.eval x = .slice (some ad) 1 c) (hl : news.length = size) (hnews : ∀ j u, news[j]? = some u → w.cell? (ad.add j) = some u) (h1 : ∀ u ∈ news, u.oneCell' = true)
    (h63 : n + 1 ≤ maxLen) (hbytes : (n + n / 4 + 512) * bytes ≤ 281474976710656) (hbase : base ≤ w.heap.size) (H : Nat) (hH : w.heap.size = H)
    (h : ∀ g cap w', w'.ownsRow base e size (.slice (some ⟨g, 0, none⟩) (n + 1) cap) (n + 1) (xs ++ news) → w.grownBy w' v.ownBlock → (v.ownBlock = some g ∨ g = H) → g < w'.heap.size → K (a.put o.dst (.slice (some ⟨g, 0, none⟩) (n + 1) cap)) w') :
    if Region.wanted o (yielded ops a.tmps) = true then Oper.wp P o a w K Q else E := by
  have hl1 : news.length = 1 * size := by omega
  by_cases hsm : (n + 1) * bytes ≤ 140737488355328
  · exact step_append_lies w hgd s x t ho base e i z size bytes ht hi hz hs hby hzs hsz v n xs hsv hown ad 1 c news hx hl1 hnews h1 (by omega) h63 hsm hbase H hH h
  · have hw : Region.wanted o (yielded ops a.tmps) = true := by simp [Region.wanted, hgd]
    rw [if_pos hw]
    have hn : 0 < n := by
      rcases Nat.eq_zero_or_pos n with rfl | hp
      · exfalso; omega
      · exact hp
    obtain ⟨g, cap, rfl, _, _⟩ := hown.form hn
    have hle : n ≤ cap := by
      rcases hown.2 with ⟨hv, _⟩ | ⟨g2, cap2, cur, hv, _, _, hnc, _⟩
      · cases hv
      · simp only [Value.slice.injEq, Option.some.injEq, Addr.mk.injEq, and_true, true_and] at hv
        omega
    have hcap : cap < n + 1 → Builtin.nextslicecap (n + 1) cap * bytes ≤ 281474976710656 := by
      intro hc
      obtain rfl : cap = n := by omega
      exact Nat.le_trans (Nat.mul_le_mul_right _ (cap_one cap)) hbytes
    obtain ⟨g', cap', w', hr, h2, h3, h4, h5⟩ := run_append_wide (news := news) (m := 1) t o.type ht hi hz hs hby hzs hown ad c hl1 hnews h1 h63 hcap hbase
    unfold Oper.wp execOp
    simp only [ho, resolve, invoke, builtin, Sem.run_bind, Sem.run_pure, Result.andThen_ok, List.map_toArray, List.map_cons, List.map_nil, hsv, hx, hr]
    refine h g' cap' w' h2 h3 ?_ h5
    rcases h4 with rfl | rfl
    · exact .inl rfl
    · exact .inr hH

/-- A copy of a whole row, at the list of a plain region's operations: as 'wpList_append_own_at' onto a row without room, the row may be longer. -/
theorem wpList_append_copy {ops : Array Oper} {rest : List Oper} {o : Oper} {a : Act} {Q : Exit → Act → World → Prop} (hgd : o.guard = none) (s x : Operand) (t : TypeId)
    (ho : o.op = .call { callee := .builtin .append, args := #[s, x], argTypes := #[t, t] }) (i : TypeInfo)
    (ht : P.underlying t = some (.slice e)) (hi : P.info? e = some i) (hz : i.zero = some z) (hs : i.size = size) (hby : i.bytes = bytes) (hzs : z.cells.size = size) (hsz : 0 < size)
    (g : Nat) (hsv : a.eval s = .slice (some ⟨g, 0, none⟩) 0 0) (hown : w.ownsRow base e size (.slice (some ⟨g, 0, none⟩) 0 0) 0 []) (ad : Addr) (c : Nat) (hx : a.eval x = .slice (some ad) m c) (hl : news.length = m * size) (hnews : ∀ j u, news[j]? = some u → w.cell? (ad.add j) = some u) (h1 : ∀ u ∈ news, u.oneCell' = true)
    (h63 : m ≤ maxLen) (hbytes : m * bytes ≤ 281474976710656) (hbase : base ≤ w.heap.size)
    (h : ∀ v' w', w'.ownsRow base e size v' m news → w.grownBy w' (some g) → wpList P ops Q rest (a.put o.dst v') w') : wpList P ops Q (o :: rest) a w := by
  refine wpList_plain hgd fun _ hK => ?_
  have hcap : 0 < 0 + m → Builtin.nextslicecap (0 + m) 0 * bytes ≤ 281474976710656 := by
    intro hp
    rw [Nat.zero_add, nextslicecap_zero (by omega)]
    exact hbytes
  obtain ⟨g', cap', w', hr, h2, h3, h4, h5⟩ := run_append_wide (news := news) (m := m) t o.type ht hi hz hs hby hzs hown ad c hl hnews h1 (by omega) hcap hbase
  unfold Oper.wp execOp
  simp only [ho, resolve, invoke, builtin, Sem.run_bind, Sem.run_pure, Result.andThen_ok, List.map_toArray, List.map_cons, List.map_nil, hsv, hx, hr]
  rw [Nat.zero_add, List.nil_append] at h2
  rw [Nat.zero_add]
  exact hK _ _ (h _ _ h2 h3)
end
end Go.Proofs.YtajfjkhbimehbaaGreat
