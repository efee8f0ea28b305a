/- A table under way: two rows of the call's own behind a block of two cells; the document's model of Of. -/
import Derived.Test.YtbcikkofbdfmaaaY3
import Derived.Deep.AppendLies
import Derived.Deep.RegionLaw
import Derived.OneCell
import Derived.Laws.OwnMore
set_option linter.unusedVariables false
set_option linter.unusedSimpArgs false
namespace Go.Proofs.Ytbcikkofbdfmaaa
open Go.RowKit Go.Joins Go.Sort

def ofStep (t : Tab) (x : Lst) : Tab := match findM t.l x with
  | some k => ⟨t.n ++ [(k : Int)], t.l⟩
  | none => ⟨t.n ++ [(t.l.length : Int)], t.l ++ [x]⟩
def ofT (T : List Lst) : Tab := T.foldl ofStep ⟨[], []⟩
theorem ofT_succ (T : List Lst) (k : Nat) (h : k < T.length) : ofT (T.take (k + 1)) = ofStep (ofT (T.take k)) T[k] := by
  unfold ofT
  rw [List.take_succ_eq_append_getElem h, List.foldl_append]
  rfl
theorem ofStep_nlen (t : Tab) (x : Lst) : (ofStep t x).n.length = t.n.length + 1 := by
  unfold ofStep; split <;> simp
theorem ofStep_llen (t : Tab) (x : Lst) : (ofStep t x).l.length ≤ t.l.length + 1 := by
  unfold ofStep; split <;> simp
theorem ofT_lens (T : List Lst) : ∀ k, k ≤ T.length → (ofT (T.take k)).n.length = k ∧ (ofT (T.take k)).l.length ≤ k
  | 0, _ => by simp [ofT]
  | k + 1, h => by
    obtain ⟨h1, h2⟩ := ofT_lens T k (by omega)
    rw [ofT_succ T k (by omega)]
    exact ⟨by rw [ofStep_nlen, h1], Nat.le_trans (ofStep_llen _ _) (by omega)⟩

structure TSt (w : World) (g : Nat) (zw zl : Value) (t : Tab) (U : List Value) (W : World) : Prop where
  bel : Below w.heap.size w W
  box : W.heap[g]? = some (.cells #[zw, zl] 30)
  low : w.heap.size < g
  res : W.heap[w.heap.size]? = some (.cells #[.slice none 0 0, .slice none 0 0] 30)
  nums : W.ownsRow (g + 1) 3 1 zw t.n.length (t.n.map (Value.int .i64))
  rows : W.ownsRow (g + 1) 43 1 zl t.l.length U
  each : ∀ k (h : k < t.l.length), ∃ u, U[k]? = some u ∧ RowsAt w u t.l[k]
theorem hlt {W : World} {g : Nat} {o : Obj} (h : W.heap[g]? = some o) : g < W.heap.size := lt_of_block h
theorem TSt.below {w : World} {g : Nat} {zw zl : Value} {t : Tab} {U : List Value} {W W' : World} (h : TSt w g zw zl t U W) (hb : Below W.heap.size W W') : TSt w g zw zl t U W' :=
  ⟨h.bel.trans (hb.mono h.bel.size), (hb.block _ (hlt h.box)).trans h.box, h.low, (hb.block _ (hlt h.res)).trans h.res, own_below h.nums hb, own_below h.rows hb, h.each⟩
theorem TSt.apart {w : World} {g : Nat} {zw zl : Value} {t : Tab} {U : List Value} {W : World} (h : TSt w g zw zl t U W) : (zw.ownBlock = none ∨ zw.ownBlock ≠ zl.ownBlock) ∧ (zl.ownBlock = none ∨ zl.ownBlock ≠ zw.ownBlock) := by
  rcases h.nums.2 with ⟨rfl, -⟩ | ⟨a, _, c1, rfl, _, h1, _⟩
  · refine ⟨.inl rfl, ?_⟩
    rcases h.rows.2 with ⟨rfl, -⟩ | ⟨b, _, c2, rfl, _, h2, _⟩
    · exact .inl rfl
    · exact .inr (by simp [Value.ownBlock])
  · rcases h.rows.2 with ⟨rfl, -⟩ | ⟨b, _, c2, rfl, _, h2, _⟩
    · exact ⟨.inr (by simp [Value.ownBlock]), .inl rfl⟩
    · have hab : a ≠ b := fun e => by
        subst e
        rw [h1] at h2
        injection h2 with h2
        injection h2 with _ h2 _
        exact absurd h2 (by decide)
      exact ⟨.inr (by simp [Value.ownBlock]; exact hab), .inr (by simp [Value.ownBlock]; exact fun e => hab e.symm)⟩
theorem TSt.lists {w : World} {g : Nat} {zw zl : Value} {t : Tab} {U : List Value} {W : World} (h : TSt w g zw zl t U W) : ListsAt W zl t.l := by
  rcases h.rows.2 with ⟨hv, hn⟩ | ⟨b, cap, cur, hv, hB, hgg, hcap, hmax, hsz, htk⟩
  · exact ⟨none, 0, by rw [hv, hn], by rw [hn]; exact Nat.zero_le _, fun k hk => absurd hk (by omega)⟩
  · refine ⟨_, cap, hv, by unfold maxLen at hmax; omega, fun k hk => ?_⟩
    obtain ⟨u, hu, hr⟩ := h.each k hk
    have hb := hlt hgg
    refine ⟨b, 0, rfl, hb, u, ?_, hr.below h.bel⟩
    have hrow := h.rows
    rw [hv] at hrow
    rw [Nat.zero_add, hrow.cellAt k (by omega), hu]
theorem TSt.numbers {w : World} {g : Nat} {zw zl : Value} {t : Tab} {U : List Value} {W : World} (h : TSt w g zw zl t U W) : NumsAt W zw t.n := by
  rcases h.nums.2 with ⟨hv, hn⟩ | ⟨b, cap, cur, hv, hB, hgg, hcap, hmax, hsz, htk⟩
  · exact ⟨none, 0, by rw [hv, hn], by rw [hn]; exact Nat.zero_le _, fun k hk => absurd hk (by omega)⟩
  · refine ⟨_, cap, hv, by unfold maxLen at hmax; omega, fun k hk => ?_⟩
    have hb := hlt hgg
    refine ⟨b, 0, rfl, hb, ?_⟩
    have hrow := h.nums
    rw [hv] at hrow
    rw [Nat.zero_add, hrow.cellAt k (by omega), List.getElem?_map, List.getElem?_eq_getElem hk]
    rfl
theorem TSt.cells {w : World} {g : Nat} {zw zl : Value} {t : Tab} {U : List Value} {W : World} (h : TSt w g zw zl t U W) : W.cell? ⟨g, 0, none⟩ = some zw ∧ W.cell? ⟨g, 1, none⟩ = some zl := row2 h.box
/-- A list more. -/
theorem TSt.pushL {w : World} {g : Nat} {zw zl zl' u : Value} {t : Tab} {x : Lst} {U : List Value} {W W' : World} (h : TSt w g zw zl t U W) (hu : RowsAt w u x) (own : W'.ownsRow (g + 1) 43 1 zl' (t.l.length + 1) (U ++ [u])) (gr : W.grownBy W' zl.ownBlock) :
    TSt w g zw zl' ⟨t.n, t.l ++ [x]⟩ (U ++ [u]) (W'.setCell ⟨g, 1, none⟩ zl') := by
  have hg : ∀ k, k < W.heap.size → k ≤ g → W'.heap[k]? = W.heap[k]? := fun k hk hkg => gr.block k hk fun e => by have := (h.rows.lt k e.symm).1; omega
  have hbox := (hg g (hlt h.box) (Nat.le_refl _)).trans h.box
  have hUl : U.length = t.l.length := by have := h.rows.1; omega
  refine ⟨(Below.grown h.bel gr h.bel.size fun k e => by have := (h.rows.lt k e).1; have := h.low; omega).setCell (Nat.le_of_lt h.low) _, ?_, h.low, ?_, ?_, ?_, ?_⟩
  · exact heap_setCell_same _ _ _ _ _ _ hbox
  · rw [heap_setCell_other _ _ _ _ (by have := h.low; show w.heap.size ≠ g; omega)]
    exact (hg _ (hlt h.res) (Nat.le_of_lt h.low)).trans h.res
  · exact ownsRow_setCell_below (h.nums.kept gr h.apart.1) (Nat.lt_succ_self g) _
  · have := ownsRow_setCell_below own (a := ⟨g, 1, none⟩) (Nat.lt_succ_self g) zl'
    simpa using this
  · intro k hk
    by_cases e : k < t.l.length
    · obtain ⟨v, h1, h2⟩ := h.each k e
      refine ⟨v, by rw [List.getElem?_append_left (by omega)]; exact h1, ?_⟩
      show RowsAt w v ((t.l ++ [x])[k])
      rw [List.getElem_append_left e]
      exact h2
    · have ek : k = t.l.length := by simp at hk; omega
      subst ek
      refine ⟨u, by rw [List.getElem?_append_right (by omega), hUl]; simp, ?_⟩
      show RowsAt w u ((t.l ++ [x])[t.l.length])
      rw [List.getElem_append_right (Nat.le_refl _)]
      simpa using hu
/-- A number more. -/
theorem TSt.pushN {w : World} {g : Nat} {zw zw' zl : Value} {t : Tab} {n : Int} {U : List Value} {W W' : World} (h : TSt w g zw zl t U W) (own : W'.ownsRow (g + 1) 3 1 zw' (t.n.length + 1) (t.n.map (Value.int .i64) ++ [.int .i64 n])) (gr : W.grownBy W' zw.ownBlock) :
    TSt w g zw' zl ⟨t.n ++ [n], t.l⟩ U (W'.setCell ⟨g, 0, none⟩ zw') := by
  have hg : ∀ k, k < W.heap.size → k ≤ g → W'.heap[k]? = W.heap[k]? := fun k hk hkg => gr.block k hk fun e => by have := (h.nums.lt k e.symm).1; omega
  have hbox := (hg g (hlt h.box) (Nat.le_refl _)).trans h.box
  refine ⟨(Below.grown h.bel gr h.bel.size fun k e => by have := (h.nums.lt k e).1; have := h.low; omega).setCell (Nat.le_of_lt h.low) _, ?_, h.low, ?_, ?_, ?_, h.each⟩
  · exact heap_setCell_same _ _ _ _ _ _ hbox
  · rw [heap_setCell_other _ _ _ _ (by have := h.low; show w.heap.size ≠ g; omega)]
    exact (hg _ (hlt h.res) (Nat.le_of_lt h.low)).trans h.res
  · have := ownsRow_setCell_below own (a := ⟨g, 0, none⟩) (Nat.lt_succ_self g) zw'
    simpa using this
  · exact ownsRow_setCell_below (h.rows.kept gr h.apart.2) (Nat.lt_succ_self g) _
theorem TSt.boxN {w : World} {g : Nat} {zw zl : Value} {t : Tab} {U : List Value} {W W' : World} (h : TSt w g zw zl t U W) (gr : W.grownBy W' zw.ownBlock) : W'.heap[g]? = some (.cells #[zw, zl] 30) :=
  (gr.block g (hlt h.box) fun e => by have := (h.nums.lt g e.symm).1; omega).trans h.box
theorem TSt.boxL {w : World} {g : Nat} {zw zl : Value} {t : Tab} {U : List Value} {W W' : World} (h : TSt w g zw zl t U W) (gr : W.grownBy W' zl.ownBlock) : W'.heap[g]? = some (.cells #[zw, zl] 30) :=
  (gr.block g (hlt h.box) fun e => by have := (h.rows.lt g e.symm).1; omega).trans h.box
theorem free2 {W : World} {g : Nat} {x y : Value} {t : TypeId} (h : W.heap[g]? = some (.cells #[x, y] t)) : W.frozen? ⟨g, 0, none⟩ = false ∧ W.frozen? ⟨g, 1, none⟩ = false := by
  constructor <;> simp [World.frozen?, h]
theorem set2 {W : World} {g : Nat} {x y : Value} {t : TypeId} (x' y' : Value) (h : W.heap[g]? = some (.cells #[x, y] t)) : ((W.setCell ⟨g, 0, none⟩ x').setCell ⟨g, 1, none⟩ y').heap[g]? = some (.cells #[x', y'] t) := by
  have h1 := heap_setCell_same W g 0 _ t x' h
  exact heap_setCell_same _ g 1 _ t y' h1
theorem tab_below {W W' : World} {x y : Value} {t : Tab} (h : TabAt W x y t) (hb : Below W.heap.size W W') : TabAt W' x y t := ⟨h.1.below hb, h.2.below hb⟩
theorem tab_nil (W : World) : TabAt W (.slice none 0 0) (.slice none 0 0) ⟨[], []⟩ := ⟨⟨none, 0, rfl, Nat.zero_le _, fun k hk => absurd hk (Nat.not_lt_zero _)⟩, ⟨none, 0, rfl, Nat.zero_le _, fun k hk => absurd hk (Nat.not_lt_zero _)⟩⟩
/-- The result's box, written. -/
theorem TSt.out {w : World} {g : Nat} {zw zl : Value} {t : Tab} {U : List Value} {W : World} (h : TSt w g zw zl t U W) (x y : Value) :
    TabAt ((W.setCell ⟨w.heap.size, 0, none⟩ x).setCell ⟨w.heap.size, 1, none⟩ y) zw zl t ∧ Below w.heap.size w ((W.setCell ⟨w.heap.size, 0, none⟩ x).setCell ⟨w.heap.size, 1, none⟩ y) := by
  have hb := (h.bel.setCell (p := ⟨w.heap.size, 0, none⟩) (Nat.le_refl _) x).setCell (p := ⟨w.heap.size, 1, none⟩) (Nat.le_refl _) y
  refine ⟨?_, hb⟩
  have h1 : TSt w g zw zl t U ((W.setCell ⟨w.heap.size, 0, none⟩ x).setCell ⟨w.heap.size, 1, none⟩ y) → TabAt _ zw zl t := fun h => ⟨h.numbers, h.lists⟩
  have hl := h.low
  have n1 : W.ownsRow (g + 1) 3 1 zw t.n.length (t.n.map (Value.int .i64)) := h.nums
  have e2 : ∀ k, k ≠ w.heap.size → ((W.setCell ⟨w.heap.size, 0, none⟩ x).setCell ⟨w.heap.size, 1, none⟩ y).heap[k]? = W.heap[k]? := fun k hk => by
    rw [heap_setCell_other _ _ _ _ hk, heap_setCell_other _ _ _ _ hk]
  constructor
  · rcases h.nums.2 with ⟨hv, hn⟩ | ⟨b, cap, cur, hv, hB, hgg, hcap, hmax, hsz, htk⟩
    · exact ⟨none, 0, by rw [hv, hn], by rw [hn]; exact Nat.zero_le _, fun k hk => absurd hk (by omega)⟩
    · obtain ⟨sa, sc, e, hm, hc⟩ := h.numbers
      refine ⟨sa, sc, e, hm, fun k hk => ?_⟩
      obtain ⟨b', off, e1, h2, h3⟩ := hc k hk
      rw [e, e1] at hv
      have hbb : b' = b := by injection hv with hv _ _; injection hv with hv; injection hv
      refine ⟨b', off, e1, by simpa using h2, ?_⟩
      rw [← h3]
      exact World.cell?_of_block (e2 b' (by omega))
  · rcases h.rows.2 with ⟨hv, hn⟩ | ⟨b, cap, cur, hv, hB, hgg, hcap, hmax, hsz, htk⟩
    · exact ⟨none, 0, by rw [hv, hn], by rw [hn]; exact Nat.zero_le _, fun k hk => absurd hk (by omega)⟩
    · refine ⟨_, cap, hv, by unfold maxLen at hmax; omega, fun k hk => ?_⟩
      obtain ⟨u, hu, hr⟩ := h.each k hk
      have hb' := hlt hgg
      refine ⟨b, 0, rfl, by simpa using hb', u, ?_, hr.below hb⟩
      have hrow := h.rows
      rw [hv] at hrow
      rw [Nat.zero_add]
      refine (World.cell?_of_block (e2 b (by omega))).trans ?_
      rw [hrow.cellAt k (by omega), hu]
def ofRes (T : List Lst) : Tab × Int := if 1000 < rowsM (ofT T).l then (⟨[], []⟩, 24) else if (decide (256 < T.length) || !T.all rightM) = true then (⟨[], []⟩, 1) else (ofT T, 0)
end Go.Proofs.Ytbcikkofbdfmaaa
