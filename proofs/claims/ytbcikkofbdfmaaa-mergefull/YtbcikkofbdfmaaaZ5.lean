/- A list of rows of one's own: merge.cloned; up to 1000 rows that are right. -/
import Derived.Test.YtbcikkofbdfmaaaZ4
import Derived.Test.YtbcikkofbdfmaaaZ2
set_option linter.unusedVariables false
set_option linter.unusedSimpArgs false
namespace Go.Proofs.Ytbcikkofbdfmaaa
open Go.RowKit Go.Joins Go.Sort

theorem info54i : (Try.prog.info? 54).map (fun i => (i.zero, i.size, i.bytes)) = some (some (.agg #[.slice none 0 0, .slice none 0 0]), 2, 48) := by kernel_rfl
theorem info56i : (Try.prog.info? 56).map (fun i => (i.zero, i.size, i.bytes)) = some (some (.slice none 0 0), 1, 24) := by kernel_rfl
abbrev nilS : Value := .slice none 0 0
theorem made54 (n : Nat) : madeCells (Value.agg #[nilS, nilS]).cells (n * 2) = (List.replicate (n * 2) nilS).toArray := by
  refine Array.ext (by simp [madeCells]) fun i h1 h2 => ?_
  have h3 : i % 2 = 0 ∨ i % 2 = 1 := by omega
  simp [madeCells, Value.cells]
  rcases h3 with e | e <;> simp [e]
theorem run_make54 (n : Nat) (hn : n ≤ 1000) (w : World) : (Instr.makeSlice 43 (.int .i64 (n : Int)) (.int .i64 (n : Int))).run Try.prog w = .ok (.slice (some ⟨w.heap.size, 0, none⟩) n n) (w.alloc (.cells (List.replicate (n * 2) nilS).toArray 54)) := by
  obtain ⟨i0, hi, hz0, hz1, hz2⟩ := info_parts info54i
  have hmk := run_make (P := Try.prog) w 43 54 i0 _ Try.underlying43 hi hz0 .i64 .i64 n n (by omega) (Int.le_refl _) (by rw [hz2]; omega) (by omega)
  simp only [Int.toNat_natCast, hz1] at hmk
  rw [made54] at hmk
  exact hmk

/-- Rows under way, k of them done: G is the block of their cells. -/
structure CSt (w : World) (L : Lst) (k : Nat) (V : List Value) (W : World) : Prop where
  bel : Below w.heap.size w W
  blk : W.heap[w.heap.size]? = some (.cells V.toArray 54)
  len : V.length = L.length * 2
  done : ∀ i (h : i < L.length), i < k → ∃ x y, V[i * 2]? = some x ∧ V[i * 2 + 1]? = some y ∧ In (w.heap.size + 1 ≤ ·) W (fun W => RowAt W x y L[i])
  rest : ∀ i, k ≤ i → i < L.length → V[i * 2]? = some nilS ∧ V[i * 2 + 1]? = some nilS
/-- Blocks from B on, but for a row's own. -/
def offB (B : Nat) (y : Value) : Nat → Prop := fun b => B ≤ b ∧ y.ownBlock ≠ some b
theorem In.move {S S' : Nat → Prop} {W W' : World} {P : World → Prop} (h : In S W P) (hs : W.heap.size ≤ W'.heap.size) (hm : ∀ b, b < W.heap.size → S b → S' b ∧ W'.heap[b]? = W.heap[b]?) : In S' W' P := fun W'' a =>
  h W'' ⟨Nat.le_trans hs a.1, fun b hb e => (a.2 b (Nat.lt_of_lt_of_le hb hs) (hm b hb e).1).trans (hm b hb e).2⟩
/-- The k-th row under way, m acts of it done. -/
structure DSt (w : World) (L : Lst) (k : Nat) (r : Rx) (m : Nat) (V : List Value) (y : Value) (U : List Value) (W : World) : Prop where
  bel : Below w.heap.size w W
  blk : W.heap[w.heap.size]? = some (.cells V.toArray 54)
  len : V.length = L.length * 2
  done : ∀ i (h : i < L.length), i < k → ∃ x y', V[i * 2]? = some x ∧ V[i * 2 + 1]? = some y' ∧ In (offB (w.heap.size + 1) y) W (fun W => RowAt W x y' L[i])
  here : ∃ x, V[k * 2]? = some x ∧ In (offB (w.heap.size + 1) y) W (fun W => PairsAny W x r.m)
  hy : V[k * 2 + 1]? = some y
  own : W.ownsRow (w.heap.size + 1) 56 1 y m U
  each : ∀ i (h : i < r.a.length), i < m → ∃ u, U[i]? = some u ∧ In (offB (w.heap.size + 1) y) W (fun W => PairsAny W u r.a[i])
  rest : ∀ i, k < i → i < L.length → V[i * 2]? = some nilS ∧ V[i * 2 + 1]? = some nilS
theorem agree_below {B : Nat} {W W' : World} (h : Below W.heap.size W W') : Agree (B ≤ ·) W W' := Agree.below h
theorem CSt.below {w : World} {L : Lst} {k : Nat} {V : List Value} {W W' : World} (h : CSt w L k V W) (hb : Below W.heap.size W W') : CSt w L k V W' :=
  ⟨h.bel.trans (hb.mono h.bel.size), (hb.block _ (hlt h.blk)).trans h.blk, h.len, fun i hi hk => by
    obtain ⟨x, y, h1, h2, h3⟩ := h.done i hi hk
    exact ⟨x, y, h1, h2, h3.step (.below hb)⟩, h.rest⟩
theorem DSt.below {w : World} {L : Lst} {k m : Nat} {r : Rx} {V U : List Value} {y : Value} {W W' : World} (h : DSt w L k r m V y U W) (hb : Below W.heap.size W W') : DSt w L k r m V y U W' :=
  ⟨h.bel.trans (hb.mono h.bel.size), (hb.block _ (hlt h.blk)).trans h.blk, h.len, fun i hi hk => by
    obtain ⟨x, y, h1, h2, h3⟩ := h.done i hi hk
    exact ⟨x, y, h1, h2, h3.step (.below hb)⟩, by
    obtain ⟨x, h1, h2⟩ := h.here
    exact ⟨x, h1, h2.step (.below hb)⟩, h.hy, own_below h.own hb, fun i hi hm => by
    obtain ⟨u, h1, h2⟩ := h.each i hi hm
    exact ⟨u, h1, h2.step (.below hb)⟩, h.rest⟩
theorem cellV {W : World} {g : Nat} {V : List Value} {t : TypeId} (h : W.heap[g]? = some (.cells V.toArray t)) (j : Nat) : W.cell? ⟨g, j, none⟩ = V[j]? := by
  rw [cell_of_row _ _ _ _ _ _ h]; simp
theorem blkV {W : World} {g : Nat} {V : List Value} {t : TypeId} (h : W.heap[g]? = some (.cells V.toArray t)) (j : Nat) (x : Value) : (W.setCell ⟨g, j, none⟩ x).heap[g]? = some (.cells (V.set j x).toArray t) := by
  rw [heap_setCell_same _ _ _ _ _ _ h]; simp
theorem frzV {W : World} {g : Nat} {V : List Value} {t : TypeId} (h : W.heap[g]? = some (.cells V.toArray t)) (j : Nat) : W.frozen? ⟨g, j, none⟩ = false := frozen_of_row W g j _ _ h
/-- What it asks is stored. -/
theorem CSt.match {w : World} {L : Lst} {k : Nat} {V : List Value} {W : World} (h : CSt w L k V W) (hk : k < L.length) (x : Value) (hx : In (w.heap.size + 1 ≤ ·) W (fun W => PairsAny W x L[k].m)) :
    DSt w L k L[k] 0 (V.set (k * 2) x) nilS [] (W.setCell ⟨w.heap.size, k * 2, none⟩ x) := by
  have a : ∀ P, In (w.heap.size + 1 ≤ ·) W P → In (offB (w.heap.size + 1) nilS) (W.setCell ⟨w.heap.size, k * 2, none⟩ x) P := fun P hp => hp.move (by simp) fun b hb e =>
    ⟨⟨e, by simp [Value.ownBlock, nilS]⟩, heap_setCell_other _ _ _ _ (by show b ≠ w.heap.size; omega)⟩
  have hV := h.len
  refine ⟨h.bel.setCell (Nat.le_refl _) _, blkV h.blk _ _, by simpa using hV, fun i hi hk2 => ?_, ⟨x, ?_, a _ hx⟩, ?_, World.ownsRow_nil _ _ _ _, fun i _ hi => absurd hi (Nat.not_lt_zero _), fun i h1 h2 => ?_⟩
  · obtain ⟨x', y', h1, h2, h3⟩ := h.done i hi hk2
    exact ⟨x', y', by rw [List.getElem?_set_ne (by omega)]; exact h1, by rw [List.getElem?_set_ne (by omega)]; exact h2, a _ h3⟩
  · rw [List.getElem?_set_self (by omega)]
  · rw [List.getElem?_set_ne (by omega)]; exact (h.rest k (Nat.le_refl _) hk).2
  · rw [List.getElem?_set_ne (by omega), List.getElem?_set_ne (by omega)]; exact h.rest i (by omega) h2
/-- The acts are all there. -/
theorem DSt.shut {w : World} {L : Lst} {k : Nat} {V U : List Value} {y : Value} {W : World} (hk : k < L.length) (h : DSt w L k L[k] L[k].a.length V y U W) : CSt w L (k + 1) V W := by
  refine ⟨h.bel, h.blk, h.len, fun i hi hk2 => ?_, fun i h1 h2 => h.rest i (by omega) h2⟩
  by_cases e : i = k
  · subst e
    obtain ⟨x, h1, h2⟩ := h.here
    refine ⟨x, y, h1, h.hy, fun W' a => ⟨h2 W' (a.mono fun b _ e => e.1), ?_⟩⟩
    have ho := own_agree h.own a
    rcases ho.2 with ⟨hv, hn⟩ | ⟨b, cap, cur, hv, hB, hgg, hcap, hmax, hsz, htk⟩
    · exact ⟨none, 0, by rw [hv, hn], by rw [hn]; exact Nat.zero_le _, fun k hk => absurd hk (by omega)⟩
    · refine ⟨_, cap, hv, by unfold maxLen at hmax; omega, fun j hj => ?_⟩
      obtain ⟨u, hu, hr⟩ := h.each j hj hj
      refine ⟨b, 0, rfl, hlt hgg, u, ?_, hr W' (a.mono fun b _ e => e.1)⟩
      have hrow := ho
      rw [hv] at hrow
      rw [Nat.zero_add, hrow.cellAt j (by omega), hu]
  · obtain ⟨x, y', h1, h2, h3⟩ := h.done i hi (by omega)
    exact ⟨x, y', h1, h2, h3.mono fun b _ e => e.1⟩
/-- One act more. -/
theorem DSt.push {w : World} {L : Lst} {k m n c g : Nat} {r : Rx} {V U : List Value} {y u : Value} {W W' : World} (h : DSt w L k r m V y U W) (hk : k < L.length) (hm : m < r.a.length) (hu : In (offB (w.heap.size + 1) y) W (fun W => PairsAny W u r.a[m]))
    (own : W'.ownsRow (w.heap.size + 1) 56 1 (.slice (some ⟨g, 0, none⟩) n c) (m + 1) (U ++ [u])) (gr : W.grownBy W' y.ownBlock) (hg : y.ownBlock = some g ∨ g = W.heap.size) : DSt w L k r (m + 1) (V.set (k * 2 + 1) (.slice (some ⟨g, 0, none⟩) n c)) (.slice (some ⟨g, 0, none⟩) n c) (U ++ [u]) (W'.setCell ⟨w.heap.size, k * 2 + 1, none⟩ (.slice (some ⟨g, 0, none⟩) n c)) := by
  have hV := h.len
  have hUl : U.length = m := by have := h.own.1; omega
  have hsz := hlt h.blk
  have hrow : ∀ b, y.ownBlock = some b → w.heap.size + 1 ≤ b ∧ b < W.heap.size := fun b e => h.own.lt b e
  have hb0 : W'.heap[w.heap.size]? = some (.cells V.toArray 54) := (gr.block _ hsz fun e => by have := (hrow _ e.symm).1; omega).trans h.blk
  have mv : ∀ P, In (offB (w.heap.size + 1) y) W P → In (offB (w.heap.size + 1) (.slice (some ⟨g, 0, none⟩) n c)) (W'.setCell ⟨w.heap.size, k * 2 + 1, none⟩ (.slice (some ⟨g, 0, none⟩) n c)) P := fun P hp =>
    hp.move (by simpa using gr.size) fun b hb e => by
      refine ⟨⟨e.1, fun e2 => ?_⟩, ?_⟩
      · have e3 : g = b := by simpa [Value.ownBlock] using e2
        subst e3
        rcases hg with h1 | h1
        · exact e.2 h1
        · omega
      · rw [heap_setCell_other _ _ _ _ (by show b ≠ w.heap.size; have := e.1; omega)]
        exact gr.block b hb fun e2 => e.2 e2.symm
  refine ⟨(Below.grown h.bel gr h.bel.size fun b e => by have := (hrow b e).1; omega).setCell (Nat.le_refl _) _, blkV hb0 _ _, by simpa using hV, fun i hi hk2 => ?_, ?_, ?_, ownsRow_setCell_below own (a := ⟨w.heap.size, k * 2 + 1, none⟩) (by show w.heap.size < _; omega) _, fun i hi hm2 => ?_, fun i h1 h2 => ?_⟩
  · obtain ⟨x', y', h1, h2, h3⟩ := h.done i hi hk2
    exact ⟨x', y', by rw [List.getElem?_set_ne (by omega)]; exact h1, by rw [List.getElem?_set_ne (by omega)]; exact h2, mv _ h3⟩
  · obtain ⟨x, h1, h2⟩ := h.here
    exact ⟨x, by rw [List.getElem?_set_ne (by omega)]; exact h1, mv _ h2⟩
  · rw [List.getElem?_set_self (by omega)]
  · by_cases e : i < m
    · obtain ⟨u', h1, h2⟩ := h.each i hi e
      exact ⟨u', by rw [List.getElem?_append_left (by omega)]; exact h1, mv _ h2⟩
    · have ei : i = m := by omega
      subst ei
      exact ⟨u, by rw [List.getElem?_append_right (by omega), hUl]; simp, mv _ hu⟩
  · rw [List.getElem?_set_ne (by omega), List.getElem?_set_ne (by omega)]; exact h.rest i h1 h2
end Go.Proofs.Ytbcikkofbdfmaaa
