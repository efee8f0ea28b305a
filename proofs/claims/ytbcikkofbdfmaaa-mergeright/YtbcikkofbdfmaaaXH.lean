/- What the rows of stage 9's seat share: how arguments are read (pairs, acts, rows, packets), and that they read as they did behind a call that turned nothing old; no conditions. -/
import Derived.Test.YtbcikkofbdfmaaaRows
import Derived.Test.YtbcikkofbdfmaaaX2
import Derived.ProofKit
import Derived.Lib.SmallJoins
import Derived.ChangeMaps5
import Derived.ChangeOld
import Derived.LaidMore
set_option linter.unusedVariables false
set_option linter.unusedSimpArgs false
namespace Go.Proofs.Ytbcikkofbdfmaaa
open Go.ChangeShapes Go.WideShapes Go.ChangeAt Go.RowKit Go.Joins

theorem add_flat (b off n : Nat) : (⟨b, off, none⟩ : Addr).add n = ⟨b, off + n, none⟩ := by
  unfold Addr.add; split <;> simp_all
theorem cells3 : Try.prog.cellsOf 3 = 1 := by kernel_rfl
theorem cells23 : Try.prog.cellsOf 23 = 1 := by kernel_rfl
theorem cells34 : Try.prog.cellsOf 51 = 1 := by kernel_rfl
theorem cells35 : Try.prog.cellsOf 52 = 1 := by kernel_rfl
theorem cells55 : Try.prog.cellsOf 56 = 1 := by kernel_rfl
theorem cells76 : Try.prog.cellsOf 50 = 2 := by kernel_rfl
theorem cells37 : Try.prog.cellsOf 54 = 2 := by kernel_rfl
theorem two {α : Type} {l : List α} (h : l.length = 2) : ∃ a b, l = [a, b] := by
  match l, h with
  | [a, b], _ => exact ⟨a, b, rfl⟩
theorem bounds_u16' {z : Int} (h : (Lit.int .u16 z).wf = true) : 0 ≤ z ∧ z ≤ 65535 := by
  simp [Lit.wf, IntKind.min, IntKind.max, IntKind.signed, IntKind.bits] at h
  omega
theorem own : ownKnob Try.prog.godebug = none := by kernel_rfl
theorem laidOut : laidOutB Try.prog = true := by kernel_rfl
theorem okWide_array {P : Program} {w : World} {r : Reach} {base n : Nat} {t e : TypeId} {v : Value} (ht : P.underlying t = some (.array n e)) (h : Value.okWide P w r base t v) : ∃ cs, v = .agg cs := by
  unfold Value.okWide at h
  rw [ht] at h
  cases v <;> simp_all

section
variable {H : Type} {enc : TypeId × Value → H} {w : World} {base : Nat} {sp : Nat → Bool} {held : Bool}
theorem trodAll_below {W W' : World} (hb : Below W.heap.size W W') : ∀ (ts : List TypeId) (vs : List Value) (ds : List (DataW H)) (ps : List MemPlace),
    (∀ t ∈ ts, Try.prog.readableRec t = true ∧ t < Try.prog.types.size) → DataW.TrodAll enc Try.prog W 0 (fun _ => true) true ts vs ds ps → DataW.TrodAll enc Try.prog W' 0 (fun b => decide (b < W.heap.size)) true ts vs ds ps
  | [], vs, ds, ps, _, h => by
    obtain ⟨rfl, rfl, rfl⟩ := trodAll_nil h
    exact trodAll_mk0
  | t :: ts, vs, ds, ps, hr, h => by
    obtain ⟨v0, vs0, d0, ds0, p0, q0, rfl, rfl, rfl, h0, r0⟩ := trodAll_cons h
    have hr0 := hr t (List.mem_cons_self ..)
    have lt0 : ∀ x ∈ p0, x.block < W.heap.size := by obtain ⟨m, hm⟩ := h0; exact DataW.trod_lt m _ _ _ hm
    exact trodAll_cons_mk (Below.trod laidOut hr0.1 hr0.2 h0 hb lt0) (trodAll_below hb ts vs0 ds0 q0 (fun t' ht' => hr t' (List.mem_cons_of_mem _ ht')) r0)
/-- A slice's elements, read one by one. -/
theorem elems_of_trod {fuel : Nat} {a : Option Addr} {n c : Nat} {x : DataW H × List MemPlace} {t e : TypeId} {m : Nat} (ht : Try.prog.underlying t = some (.slice e)) (hce : Try.prog.cellsOf e = m) (hm : 0 < m)
    (h : DataW.trod enc Try.prog w base sp held fuel t [.slice a n c] = some x) :
    (n ≤ 9223372036854775807 ∧ n ≤ c ∧ c ≤ 9223372036854775807) ∧ (n = 0 ∨ ∃ b off, a = some ⟨b, off, none⟩ ∧ b < w.heap.size ∧ ∀ i, i < n → ∃ cs f y, DataW.trod enc Try.prog w base sp held f e cs = some y ∧ ∀ j, j < m → w.cell? ⟨b, off + i * m + j, none⟩ = cs[j]?) := by
  rcases DataW.trod_slice ht h with ⟨hcs, _⟩ | ⟨ad, len, cap, elems, rest, mm, _, hcs, _, _, hl, hmx, hlen, hel, _, _⟩
  · simp at hcs
    obtain ⟨rfl, rfl, rfl⟩ := hcs
    exact ⟨⟨by omega, by omega, by omega⟩, .inl rfl⟩
  · simp at hcs
    obtain ⟨rfl, rfl, rfl⟩ := hcs
    unfold maxLen at hmx
    rw [hce] at hel
    refine ⟨⟨by omega, by omega, by omega⟩, ?_⟩
    by_cases hn : n = 0
    · exact .inl hn
    · refine .inr ?_
      have key : ∀ i, i < n → ∃ cs f y, DataW.trod enc Try.prog w base sp held f e cs = some y ∧ cs.length = m ∧ ∀ j, j < m → w.cell? ((ad.add (i * m)).add j) = cs[j]? := by
        intro i hi
        have hE := hel i hi
        rw [List.getElem?_eq_getElem (by omega)] at hE
        obtain ⟨cs, hcs, hy⟩ := Option.bind_eq_some_iff.1 hE
        obtain ⟨h1, h2, hc⟩ := World.cells?_some hcs
        exact ⟨_, _, _, hy, by first | exact h1 | exact h2 | simp_all, fun j hj => hc j hj⟩
      obtain ⟨b, off, spot⟩ := ad
      obtain ⟨cs0, _, _, _, hl0, h0⟩ := key 0 (by omega)
      have hc0 := h0 0 hm
      rw [List.getElem?_eq_getElem (by omega)] at hc0
      have hspot : spot = none := by simpa [Addr.add] using World.cell?_spot hc0
      subst hspot
      refine ⟨b, off, rfl, ?_, fun i hi => ?_⟩
      · rw [add_flat, add_flat] at hc0
        exact block_lt_of_cell hc0
      · obtain ⟨cs, f, y, hy, -, hj⟩ := key i hi
        refine ⟨cs, f, y, hy, fun j hjm => ?_⟩
        have := hj j hjm
        rw [add_flat, add_flat] at this
        exact this
theorem slice_shape {fuel : Nat} {t e : TypeId} {v : Value} {x : DataW H × List MemPlace} (ht : Try.prog.underlying t = some (.slice e)) (h : DataW.trod enc Try.prog w base sp held fuel t [v] = some x) : ∃ a n c, v = .slice a n c := by
  rcases DataW.trod_slice ht h with ⟨hcs, _⟩ | ⟨ad, len, cap, elems, rest, mm, _, hcs, _⟩
  · exact ⟨_, _, _, by simpa using hcs⟩
  · exact ⟨_, _, _, by simpa using hcs⟩
theorem cells25' : Try.prog.cellsOf 25 = 8 := by kernel_rfl
set_option maxRecDepth 100000 in
/-- A packet's cells, read. -/
theorem packet_of_trod {fuel : Nat} {cs : List Value} {x : DataW H × List MemPlace} (h : DataW.trod enc Try.prog w base sp held fuel 25 cs = some x) :
    ∃ a0 a1 a2 a3 a4 a5 a6 a7 : Int, cs = [.int .u16 a0, .int .u16 a1, .int .u16 a2, .int .u16 a3, .int .u16 a4, .int .u16 a5, .int .u16 a6, .int .u16 a7] ∧ (∀ z ∈ [a0, a1, a2, a3, a4, a5, a6, a7], 0 ≤ z ∧ z ≤ 65535) := by
  obtain ⟨xs, m1, rfl, hx1, hlen, hn, hel⟩ := DataW.trod_array Try.underlying25 h
  rw [cells25'] at hlen
  rw [cells23] at hel
  match cs, hlen with
  | [y0, y1, y2, y3, y4, y5, y6, y7], _ =>
    have key : ∀ (y : Value) (x : Option (DataW H × List MemPlace)), x.isSome = true → DataW.trod enc Try.prog w base sp held m1 23 [y] = x → ∃ a : Int, y = .int .u16 a ∧ 0 ≤ a ∧ a ≤ 65535 := by
      intro y x hx hy
      obtain ⟨x', rfl⟩ := Option.isSome_iff_exists.1 hx
      obtain ⟨a, e1, _, wa⟩ := DataW.trod_int Try.underlying23 hy
      simp only [List.cons.injEq, and_true] at e1
      have hb := bounds_u16 wa
      exact ⟨a, e1, by omega, by omega⟩
    have hs : ∀ i, i < 8 → xs[i]?.isSome = true := fun i hi => by rw [List.getElem?_eq_getElem (by omega)]; rfl
    obtain ⟨a0, rfl, b0⟩ := key y0 _ (hs 0 (by decide)) (hel 0 (by decide))
    obtain ⟨a1, rfl, b1⟩ := key y1 _ (hs 1 (by decide)) (hel 1 (by decide))
    obtain ⟨a2, rfl, b2⟩ := key y2 _ (hs 2 (by decide)) (hel 2 (by decide))
    obtain ⟨a3, rfl, b3⟩ := key y3 _ (hs 3 (by decide)) (hel 3 (by decide))
    obtain ⟨a4, rfl, b4⟩ := key y4 _ (hs 4 (by decide)) (hel 4 (by decide))
    obtain ⟨a5, rfl, b5⟩ := key y5 _ (hs 5 (by decide)) (hel 5 (by decide))
    obtain ⟨a6, rfl, b6⟩ := key y6 _ (hs 6 (by decide)) (hel 6 (by decide))
    obtain ⟨a7, rfl, b7⟩ := key y7 _ (hs 7 (by decide)) (hel 7 (by decide))
    refine ⟨a0, a1, a2, a3, a4, a5, a6, a7, rfl, ?_⟩
    intro z hz
    simp only [List.mem_cons, List.not_mem_nil, or_false] at hz
    rcases hz with rfl | rfl | rfl | rfl | rfl | rfl | rfl | rfl <;> assumption


set_option maxRecDepth 100000 in
theorem pair_of_trod {fuel : Nat} {cs : List Value} {x : DataW H × List MemPlace} (h : DataW.trod enc Try.prog w base sp held fuel 50 cs = some x) : ∃ c : Int × Int, cs = [.int .i64 c.1, .int .u16 c.2] ∧ 0 ≤ c.2 ∧ c.2 ≤ 65535 := by
  obtain ⟨xs, n, _, rfl, hl, hlen, hf⟩ := DataW.trod_struct Try.underlying50 h
  rw [cells76] at hl
  obtain ⟨y0, y1, rfl⟩ := two hl
  have hs : ∀ i, i < 2 → xs[i]?.isSome = true := fun i hi => by rw [List.getElem?_eq_getElem (by rw [hlen]; exact hi)]; rfl
  obtain ⟨x0, e0⟩ := Option.isSome_iff_exists.1 (hs 0 (by decide))
  obtain ⟨x1, e1⟩ := Option.isSome_iff_exists.1 (hs 1 (by decide))
  have k0 : DataW.trod enc Try.prog w base sp held n 3 (([y0, y1].drop 0).take (Try.prog.cellsOf 3)) = xs[0]? := hf 0 _ rfl
  rw [e0, cells3] at k0
  have k1 : DataW.trod enc Try.prog w base sp held n 23 (([y0, y1].drop 1).take (Try.prog.cellsOf 23)) = xs[1]? := hf 1 _ rfl
  rw [e1, cells23] at k1
  obtain ⟨a, c0, _, w0⟩ := DataW.trod_int Try.underlying3 k0
  obtain ⟨z, c1, _, w1⟩ := DataW.trod_int Try.underlying23 k1
  simp at c0 c1
  subst c0 c1
  exact ⟨(a, z), rfl, bounds_u16' w1⟩
/-- Pairs that came in. -/
theorem pairs_of_trod {fuel : Nat} {v : Value} {x : DataW H × List MemPlace} {t : TypeId} (ht : Try.prog.underlying t = some (.slice 50)) (h : DataW.trod enc Try.prog w base sp held fuel t [v] = some x) : ∃ L : Prs, PairsAny w v L ∧ ∀ c ∈ L, 0 ≤ c.2 ∧ c.2 ≤ 65535 := by
  obtain ⟨a, n, c, rfl⟩ := slice_shape ht h
  obtain ⟨⟨hn, -, -⟩, h0 | ⟨b, off, rfl, hb, hel⟩⟩ := elems_of_trod ht cells76 (by decide) h
  · subst h0
    exact ⟨[], .inr ⟨rfl, a, c, rfl⟩, fun r hr => by cases hr⟩
  · have key : ∀ i : Fin n, ∃ z : Int × Int, (w.cell? ⟨b, off + i.val * 2, none⟩ = some (.int .i64 z.1) ∧ w.cell? ⟨b, off + i.val * 2 + 1, none⟩ = some (.int .u16 z.2)) ∧ 0 ≤ z.2 ∧ z.2 ≤ 65535 := by
      intro i
      obtain ⟨cs, f, y, hy, hj⟩ := hel i.val i.isLt
      obtain ⟨z, rfl, h2⟩ := pair_of_trod hy
      exact ⟨z, ⟨hj 0 (by decide), hj 1 (by decide)⟩, h2⟩
    refine ⟨List.ofFn fun i : Fin n => Classical.choose (key i), .inl ⟨b, off, c, by simp, hb, by simpa using hn, fun k hk => ?_⟩, fun r hr => ?_⟩
    · rw [List.getElem_ofFn]
      exact (Classical.choose_spec (key ⟨k, by simpa using hk⟩)).1
    · obtain ⟨i, rfl⟩ := (List.mem_ofFn).1 hr
      exact (Classical.choose_spec (key i)).2
/-- Pairs' numbers are of 16 bits. -/
def U16P (L : Prs) : Prop := ∀ c ∈ L, 0 ≤ c.2 ∧ c.2 ≤ 65535
theorem acts_of_trod {fuel : Nat} {v : Value} {x : DataW H × List MemPlace} (h : DataW.trod enc Try.prog w base sp held fuel 52 [v] = some x) : ∃ L : List Prs, ActsAt w v L ∧ ∀ c ∈ L, U16P c := by
  obtain ⟨a, n, c, rfl⟩ := slice_shape Try.underlying52 h
  obtain ⟨⟨hn, -, -⟩, h0 | ⟨b, off, rfl, hb, hel⟩⟩ := elems_of_trod Try.underlying52 cells55 (by decide) h
  · subst h0
    exact ⟨[], ⟨a, c, rfl, by simp, fun k hk => by simp at hk⟩, fun r hr => by cases hr⟩
  · have key : ∀ i : Fin n, ∃ L : Prs, (∃ u, w.cell? ⟨b, off + i.val, none⟩ = some u ∧ PairsAny w u L) ∧ U16P L := by
      intro i
      obtain ⟨cs, f, y, hy, hj⟩ := hel i.val i.isLt
      have h0 := hj 0 (by decide)
      simp only [Nat.mul_one, Nat.add_zero] at h0
      rcases DataW.trod_slice Try.underlying56 hy with ⟨hcs, _⟩ | ⟨ad, len, cap, elems, rest, mm, _, hcs, _⟩
      · subst hcs
        obtain ⟨L, h1, h2⟩ := pairs_of_trod Try.underlying56 hy
        exact ⟨L, ⟨_, h0, h1⟩, h2⟩
      · subst hcs
        obtain ⟨L, h1, h2⟩ := pairs_of_trod Try.underlying56 hy
        exact ⟨L, ⟨_, h0, h1⟩, h2⟩
    refine ⟨List.ofFn fun i : Fin n => Classical.choose (key i), ⟨some ⟨b, off, none⟩, c, by simp, by simpa using hn, fun k hk => ⟨b, off, rfl, hb, ?_⟩⟩, fun r hr => ?_⟩
    · rw [List.getElem_ofFn]
      exact (Classical.choose_spec (key ⟨k, by simpa using hk⟩)).1
    · obtain ⟨i, rfl⟩ := (List.mem_ofFn).1 hr
      exact (Classical.choose_spec (key i)).2
def U16R (r : Rx) : Prop := U16P r.m ∧ ∀ c ∈ r.a, U16P c
set_option maxRecDepth 100000 in
theorem row_of_trod {fuel : Nat} {cs : List Value} {x : DataW H × List MemPlace} (h : DataW.trod enc Try.prog w base sp held fuel 54 cs = some x) : ∃ (u v : Value) (r : Rx), cs = [u, v] ∧ RowAt w u v r ∧ U16R r := by
  obtain ⟨xs, n, _, rfl, hl, hlen, hf⟩ := DataW.trod_struct Try.underlying54 h
  rw [cells37] at hl
  obtain ⟨y0, y1, rfl⟩ := two hl
  have hs : ∀ i, i < 2 → xs[i]?.isSome = true := fun i hi => by rw [List.getElem?_eq_getElem (by rw [hlen]; exact hi)]; rfl
  obtain ⟨x0, e0⟩ := Option.isSome_iff_exists.1 (hs 0 (by decide))
  obtain ⟨x1, e1⟩ := Option.isSome_iff_exists.1 (hs 1 (by decide))
  have k0 : DataW.trod enc Try.prog w base sp held n 51 (([y0, y1].drop 0).take (Try.prog.cellsOf 51)) = xs[0]? := hf 0 _ rfl
  rw [e0, cells34] at k0
  have k1 : DataW.trod enc Try.prog w base sp held n 52 (([y0, y1].drop 1).take (Try.prog.cellsOf 52)) = xs[1]? := hf 1 _ rfl
  rw [e1, cells35] at k1
  obtain ⟨L, h1, h2⟩ := pairs_of_trod Try.underlying51 k0
  obtain ⟨A, h3, h4⟩ := acts_of_trod k1
  exact ⟨y0, y1, ⟨L, A⟩, rfl, ⟨h1, h3⟩, h2, h4⟩
/-- Rows that came in. -/
theorem rows_of_trod {fuel : Nat} {v : Value} {x : DataW H × List MemPlace} (h : DataW.trod enc Try.prog w base sp held fuel 43 [v] = some x) : ∃ L : List Rx, RowsAt w v L ∧ ∀ r ∈ L, U16R r := by
  obtain ⟨a, n, c, rfl⟩ := slice_shape Try.underlying43 h
  obtain ⟨⟨hn, hc1, hc2⟩, h0 | ⟨b, off, rfl, hb, hel⟩⟩ := elems_of_trod Try.underlying43 cells37 (by decide) h
  · subst h0
    exact ⟨[], ⟨a, c, rfl, by simp, ⟨by simp, hc2⟩, fun k hk => by simp at hk⟩, fun r hr => by cases hr⟩
  · have key : ∀ i : Fin n, ∃ r : Rx, (∃ u v, w.cell? ⟨b, off + i.val * 2, none⟩ = some u ∧ w.cell? ⟨b, off + i.val * 2 + 1, none⟩ = some v ∧ RowAt w u v r) ∧ U16R r := by
      intro i
      obtain ⟨cs, f, y, hy, hj⟩ := hel i.val i.isLt
      obtain ⟨u, v, r, rfl, h1, h2⟩ := row_of_trod hy
      exact ⟨r, ⟨u, v, hj 0 (by decide), hj 1 (by decide), h1⟩, h2⟩
    refine ⟨List.ofFn fun i : Fin n => Classical.choose (key i), ⟨some ⟨b, off, none⟩, c, by simp, by simpa using hn, ⟨by simpa using hc1, hc2⟩, fun k hk => ⟨b, off, rfl, hb, ?_⟩⟩, fun r hr => ?_⟩
    · rw [List.getElem_ofFn]
      exact (Classical.choose_spec (key ⟨k, by simpa using hk⟩)).1
    · obtain ⟨i, rfl⟩ := (List.mem_ofFn).1 hr
      exact (Classical.choose_spec (key i)).2
end
end Go.Proofs.Ytbcikkofbdfmaaa
