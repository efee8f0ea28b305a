/- How lists, numbers and tables are read as arguments; no conditions. -/
import Derived.Test.YtbcikkofbdfmaaaXH
import Derived.Test.YtbcikkofbdfmaaaZD
set_option linter.unusedVariables false
set_option linter.unusedSimpArgs false
namespace Go.Proofs.Ytbcikkofbdfmaaa
open Go.ChangeShapes Go.WideShapes Go.ChangeAt Go.RowKit Go.Joins

theorem cells43 : Try.prog.cellsOf 43 = 1 := by kernel_rfl
theorem cells28 : Try.prog.cellsOf 28 = 1 := by kernel_rfl
theorem cells22l : Try.prog.cellsOf 22 = 1 := by kernel_rfl
theorem cells30 : Try.prog.cellsOf 30 = 2 := by kernel_rfl
section
variable {H : Type} {enc : TypeId × Value → H} {w : World} {base : Nat} {sp : Nat → Bool} {held : Bool}
/-- Lists that came in. -/
theorem lists_of_trod {fuel : Nat} {v : Value} {x : DataW H × List MemPlace} (h : DataW.trod enc Try.prog w base sp held fuel 22 [v] = some x) : ∃ T : List Lst, ListsAt w v T := by
  obtain ⟨a, n, c, rfl⟩ := slice_shape Try.underlying22 h
  obtain ⟨⟨hn, -, -⟩, h0 | ⟨b, off, rfl, hb, hel⟩⟩ := elems_of_trod Try.underlying22 cells43 (by decide) h
  · subst h0
    exact ⟨[], a, c, rfl, by simp, fun k hk => by simp at hk⟩
  · have key : ∀ i : Fin n, ∃ L : Lst, ∃ u, w.cell? ⟨b, off + i.val, none⟩ = some u ∧ RowsAt w u L := by
      intro i
      obtain ⟨cs, f, y, hy, hj⟩ := hel i.val i.isLt
      have h0 := hj 0 (by decide)
      simp only [Nat.mul_one, Nat.add_zero] at h0
      rcases DataW.trod_slice Try.underlying43 hy with ⟨hcs, _⟩ | ⟨ad, len, cap, elems, rest, mm, _, hcs, _⟩
      · subst hcs
        obtain ⟨L, h1, -⟩ := rows_of_trod hy
        exact ⟨L, _, h0, h1⟩
      · subst hcs
        obtain ⟨L, h1, -⟩ := rows_of_trod hy
        exact ⟨L, _, h0, h1⟩
    refine ⟨List.ofFn fun i : Fin n => Classical.choose (key i), some ⟨b, off, none⟩, c, by simp, by simpa using hn, fun k hk => ⟨b, off, rfl, hb, ?_⟩⟩
    rw [List.getElem_ofFn]
    exact Classical.choose_spec (key ⟨k, by simpa using hk⟩)
/-- Numbers that came in. -/
theorem ints_of_trod {fuel : Nat} {v : Value} {x : DataW H × List MemPlace} (h : DataW.trod enc Try.prog w base sp held fuel 28 [v] = some x) : ∃ N : List Int, NumsAt w v N := by
  obtain ⟨a, n, c, rfl⟩ := slice_shape Try.underlying28 h
  obtain ⟨⟨hn, -, -⟩, h0 | ⟨b, off, rfl, hb, hel⟩⟩ := elems_of_trod Try.underlying28 cells3 (by decide) h
  · subst h0
    exact ⟨[], a, c, rfl, by simp, fun k hk => by simp at hk⟩
  · have key : ∀ i : Fin n, ∃ z : Int, w.cell? ⟨b, off + i.val, none⟩ = some (.int .i64 z) := by
      intro i
      obtain ⟨cs, f, y, hy, hj⟩ := hel i.val i.isLt
      have h0 := hj 0 (by decide)
      simp only [Nat.mul_one, Nat.add_zero] at h0
      cases cs with
      | nil =>
        exfalso
        rcases hcs : f with _ | f'
        · subst hcs; simp [DataW.trod] at hy
        · subst hcs
          obtain ⟨z, hz, _, _⟩ := DataW.trod_int Try.underlying3 hy
          cases hz
      | cons y0 r =>
        obtain ⟨z, hz, _, _⟩ := DataW.trod_int Try.underlying3 hy
        rw [hz] at h0
        exact ⟨z, h0⟩
    refine ⟨List.ofFn fun i : Fin n => Classical.choose (key i), some ⟨b, off, none⟩, c, by simp, by simpa using hn, fun k hk => ⟨b, off, rfl, hb, ?_⟩⟩
    rw [List.getElem_ofFn]
    exact Classical.choose_spec (key ⟨k, by simpa using hk⟩)
set_option maxRecDepth 100000 in
/-- A table that came in. -/
theorem table_of_trod {fuel : Nat} {cs : List Value} {x : DataW H × List MemPlace} (h : DataW.trod enc Try.prog w base sp held fuel 30 cs = some x) : ∃ (u v : Value) (t : Tab), cs = [u, v] ∧ TabAt w u v t := by
  obtain ⟨xs, n, _, rfl, hl, hlen, hf⟩ := DataW.trod_struct Try.underlying30 h
  rw [cells30] at hl
  obtain ⟨y0, y1, rfl⟩ := two hl
  have hs : ∀ i, i < 2 → xs[i]?.isSome = true := fun i hi => by rw [List.getElem?_eq_getElem (by rw [hlen]; exact hi)]; rfl
  obtain ⟨x0, e0⟩ := Option.isSome_iff_exists.1 (hs 0 (by decide))
  obtain ⟨x1, e1⟩ := Option.isSome_iff_exists.1 (hs 1 (by decide))
  have k0 : DataW.trod enc Try.prog w base sp held n 28 (([y0, y1].drop 0).take (Try.prog.cellsOf 28)) = xs[0]? := hf 0 _ rfl
  rw [e0, cells28] at k0
  have k1 : DataW.trod enc Try.prog w base sp held n 22 (([y0, y1].drop 1).take (Try.prog.cellsOf 22)) = xs[1]? := hf 1 _ rfl
  rw [e1, cells22l] at k1
  obtain ⟨N, h1⟩ := ints_of_trod k0
  obtain ⟨T, h2⟩ := lists_of_trod k1
  exact ⟨y0, y1, ⟨N, T⟩, rfl, h1, h2⟩
end
end Go.Proofs.Ytbcikkofbdfmaaa
