/- What every row of this seat shares: how tokens are read as arguments, that arguments read as they did behind a call that turned nothing old, and a start at which the listed variables hold what the rows list; no conditions. -/
import Derived.Test.YtajdhpdbekigkaaDoorLaid
import Derived.Test.YtajdhpdbekigkaaDoorCards
import Derived.Test.YtajdhpdbekigkaaDoorTie
import Derived.Test.YtajdhpdbekigkaaDoorC1
import Derived.LaidMore
import Derived.Lay
import Derived.Deep.DeepHandedRow
import Derived.Stop.Joined
import Derived.ChangeOld
set_option linter.unusedVariables false
set_option linter.unusedSimpArgs false
namespace Go.Proofs.YtajdhpdbekigkaaDoor
open Go.ChangeShapes Go.WideShapes Go.ChangeAt Go.RowKit

theorem own : ownKnob Tryd.prog.godebug = none := by kernel_rfl
theorem laidOut : laidOutB Tryd.prog = true := by kernel_rfl
theorem cells26 : Tryd.prog.cellsOf 26 = 3 := by kernel_rfl
theorem cells3 : Tryd.prog.cellsOf 3 = 1 := by kernel_rfl
theorem cells24 : Tryd.prog.cellsOf 24 = 1 := by kernel_rfl

section
variable {H : Type} {enc : TypeId × Value → H}
theorem trodAll_below {W W' : World} (hb : Below W.heap.size W W') : ∀ (ts : List TypeId) (vs : List Value) (ds : List (DataW H)) (ps : List MemPlace),
    (∀ t ∈ ts, Tryd.prog.readableRec t = true ∧ t < Tryd.prog.types.size) → DataW.TrodAll enc Tryd.prog W 0 (fun _ => true) true ts vs ds ps → DataW.TrodAll enc Tryd.prog W' 0 (fun b => decide (b < W.heap.size)) true ts vs ds ps
  | [], vs, ds, ps, _, h => by
    obtain ⟨rfl, rfl, rfl⟩ := trodAll_nil h
    exact trodAll_mk0
  | t :: ts, vs, ds, ps, hr, h => by
    obtain ⟨v0, vs0, d0, ds0, p0, q0, rfl, rfl, rfl, h0, r0⟩ := trodAll_cons h
    have hr0 := hr t (List.mem_cons_self ..)
    have lt0 : ∀ x ∈ p0, x.block < W.heap.size := by obtain ⟨m, hm⟩ := h0; exact DataW.trod_lt m _ _ _ hm
    exact trodAll_cons_mk (Below.trod laidOut hr0.1 hr0.2 h0 hb lt0) (trodAll_below hb ts vs0 ds0 q0 (fun t' ht' => hr t' (List.mem_cons_of_mem _ ht')) r0)
end

theorem bounds_u16' {z : Int} (h : (Lit.int .u16 z).wf = true) : 0 ≤ z ∧ z ≤ 65535 := by
  simp [Lit.wf, IntKind.min, IntKind.max, IntKind.signed, IntKind.bits] at h
  omega
theorem three {α : Type} {l : List α} (h : l.length = 3) : ∃ a b c, l = [a, b, c] := by
  match l, h with
  | [a, b, c], _ => exact ⟨a, b, c, rfl⟩

section
variable {H : Type} {enc : TypeId × Value → H} {w : World} {base : Nat} {sp : Nat → Bool} {held : Bool}
set_option maxRecDepth 100000 in
/-- A token's cells, read. -/
theorem token_of_trod {fuel : Nat} {cs : List Value} {x : DataW H × List MemPlace} (h : DataW.trod enc Tryd.prog w base sp held fuel 26 cs = some x) :
    ∃ t : Tk, cs = enc3 t ∧ t.n ≤ 65535 ∧ t.s.length ≤ maxLen := by
  obtain ⟨xs, n, _, rfl, hl, hlen, hf⟩ := DataW.trod_struct Tryd.underlying26 h
  rw [cells26] at hl
  obtain ⟨y0, y1, y2, rfl⟩ := three hl
  have hs : ∀ i, i < 3 → xs[i]?.isSome = true := fun i hi => by rw [List.getElem?_eq_getElem (by rw [hlen]; exact hi)]; rfl
  obtain ⟨x0, e0⟩ := Option.isSome_iff_exists.1 (hs 0 (by decide))
  obtain ⟨x1, e1⟩ := Option.isSome_iff_exists.1 (hs 1 (by decide))
  obtain ⟨x2, e2⟩ := Option.isSome_iff_exists.1 (hs 2 (by decide))
  have k0 : DataW.trod enc Tryd.prog w base sp held n 3 (([y0, y1, y2].drop 0).take (Tryd.prog.cellsOf 3)) = xs[0]? := hf 0 _ rfl
  rw [e0, cells3] at k0
  have k1 : DataW.trod enc Tryd.prog w base sp held n 9 (([y0, y1, y2].drop 1).take (Tryd.prog.cellsOf 9)) = xs[1]? := hf 1 _ rfl
  rw [e1, cells9] at k1
  have k2 : DataW.trod enc Tryd.prog w base sp held n 24 (([y0, y1, y2].drop 2).take (Tryd.prog.cellsOf 24)) = xs[2]? := hf 2 _ rfl
  rw [e2, cells24] at k2
  obtain ⟨a, c0, _, w0⟩ := DataW.trod_int Tryd.underlying3 k0
  obtain ⟨s, c1, _, w1⟩ := DataW.trod_string Tryd.underlying9 k1
  obtain ⟨z, c2, _, w2⟩ := DataW.trod_int Tryd.underlying24 k2
  simp at c0 c1 c2
  subst c0 c1 c2
  have h2 := bounds_u16' w2
  obtain ⟨t, rfl⟩ := Int.eq_ofNat_of_zero_le h2.1
  refine ⟨⟨a, s.data.toList, t⟩, ?_, by show t ≤ 65535; omega, ?_⟩
  · simp [enc3]
  · show s.data.toList.length ≤ maxLen
    rw [← Lib.size_eq]; exact w1

theorem add_flat (b off n : Nat) : (⟨b, off, none⟩ : Addr).add n = ⟨b, off + n, none⟩ := by
  unfold Addr.add; split <;> simp_all
set_option maxRecDepth 100000 in
/-- A list of tokens that came in. -/
theorem toks_of_trod {fuel : Nat} {a : Option Addr} {n c : Nat} {x : DataW H × List MemPlace} (h : DataW.trod enc Tryd.prog w base sp held fuel 22 [.slice a n c] = some x) :
    ∃ L : List Tk, L.length = n ∧ n ≤ 9223372036854775807 ∧ Tks w (.slice a n c) L ∧ ∀ t ∈ L, t.n ≤ 65535 ∧ t.s.length ≤ maxLen := by
  rcases DataW.trod_slice Tryd.underlying22 h with ⟨hcs, _⟩ | ⟨ad, len, cap, elems, rest, m, _, hcs, _, _, hl, hm, hlen, hel, _, _⟩
  · simp at hcs
    obtain ⟨rfl, rfl, rfl⟩ := hcs
    exact ⟨[], rfl, by omega, Tks.nil w, fun t ht => by cases ht⟩
  · simp at hcs
    obtain ⟨rfl, rfl, rfl⟩ := hcs
    unfold maxLen at hm
    rw [cells26] at hel
    have key : ∀ i, i < n → ∃ y : Tk, (y.n ≤ 65535 ∧ y.s.length ≤ maxLen) ∧ ∀ j, j < 3 → w.cell? ((ad.add (i * 3)).add j) = (enc3 y)[j]? := by
      intro i hi
      have hE := hel i hi
      rw [List.getElem?_eq_getElem (by omega)] at hE
      obtain ⟨cs, hcs, hy⟩ := Option.bind_eq_some_iff.1 hE
      obtain ⟨t, rfl, ht⟩ := token_of_trod hy
      obtain ⟨_, _, hc⟩ := World.cells?_some hcs
      exact ⟨t, ht, fun j hj => hc j hj⟩
    by_cases hn : n = 0
    · subst hn
      exact ⟨[], rfl, by omega, ⟨_, _, rfl, fun k hk => by simp at hk⟩, fun t ht => by cases ht⟩
    · obtain ⟨b, off, spot⟩ := ad
      obtain ⟨y0, _, h0⟩ := key 0 (by omega)
      have hspot : spot = none := by
        have h00 : w.cell? (((⟨b, off, spot⟩ : Addr).add (0 * 3)).add 0) = some (.int .i64 y0.kind) := h0 0 (by decide)
        simpa [Addr.add] using World.cell?_spot h00
      subst hspot
      have key2 : ∀ i : Fin n, ∃ y : Tk, (y.n ≤ 65535 ∧ y.s.length ≤ maxLen) ∧ At3 w b (off + i.val * 3) y := by
        intro i
        obtain ⟨y, hy1, hy⟩ := key i.val i.isLt
        refine ⟨y, hy1, At3.of fun j hj => ?_⟩
        have := hy j hj
        rw [add_flat, add_flat] at this
        exact this
      have hb : b < w.heap.size := by
        obtain ⟨y, _, hy⟩ := key2 ⟨0, by omega⟩
        exact block_lt_of_cell hy.1
      refine ⟨List.ofFn fun i : Fin n => Classical.choose (key2 i), by simp, by omega, ⟨some ⟨b, off, none⟩, c, by simp, fun k hk => ?_⟩, fun t ht => ?_⟩
      · refine ⟨b, off, rfl, hb, ?_⟩
        rw [List.getElem_ofFn]
        exact (Classical.choose_spec (key2 ⟨k, by simpa using hk⟩)).2
      · obtain ⟨i, rfl⟩ := (List.mem_ofFn).1 ht
        exact (Classical.choose_spec (key2 i)).1
end

end Go.Proofs.YtajdhpdbekigkaaDoor
