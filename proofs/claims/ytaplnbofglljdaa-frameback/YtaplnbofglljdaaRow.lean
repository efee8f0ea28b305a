/- What every row of this seat shares: how a frame is read as an argument, and that arguments read as they did behind a call that turned nothing old; no conditions. -/
import Derived.Test.YtaplnbofglljdaaRows
import Derived.Test.YtaplnbofglljdaaM2
import Derived.ProofKit
import Derived.Lib.SmallJoins
import Derived.ChangeMaps5
import Derived.ChangeOld
set_option linter.unusedVariables false
set_option linter.unusedSimpArgs false
namespace Go.Proofs.Ytaplnbofglljdaa
open Go.ChangeShapes Go.WideShapes Go.ChangeAt Go.RowKit Go.Joins

theorem own : ownKnob Try.prog.godebug = none := by kernel_rfl
theorem laidOut : laidOutB Try.prog = true := by kernel_rfl
theorem cellsOf24 : Try.prog.cellsOf 24 = 8 := by kernel_rfl
theorem cellsOf22 : Try.prog.cellsOf 22 = 1 := by kernel_rfl
theorem cellsOf28 : Try.prog.cellsOf 28 = 11 := by kernel_rfl
theorem cellsOf4 : Try.prog.cellsOf 4 = 1 := by kernel_rfl
theorem cellsOf26 : Try.prog.cellsOf 26 = 1 := by kernel_rfl

theorem okWide_struct {P : Program} {w : World} {r : Reach} {base : Nat} {t : TypeId} {fs : Array Field} {v : Value} (ht : P.underlying t = some (.struct fs)) (h : Value.okWide P w r base t v) : ∃ cs, v = .agg cs := by
  unfold Value.okWide at h
  rw [ht] at h
  cases v <;> simp_all

section
variable {H : Type} {enc : TypeId × Value → H} {w : World} {base : Nat} {sp : Nat → Bool} {held : Bool}
set_option maxRecDepth 100000 in
/-- A packet's cells, read. -/
theorem packet_of_trod {fuel : Nat} {cs : List Value} {x : DataW H × List MemPlace} (h : DataW.trod enc Try.prog w base sp held fuel 24 cs = some x) :
    ∃ a0 a1 a2 a3 a4 a5 a6 a7 : Nat, cs = [.int .u16 a0, .int .u16 a1, .int .u16 a2, .int .u16 a3, .int .u16 a4, .int .u16 a5, .int .u16 a6, .int .u16 a7] ∧ a0 < 65536 ∧ a1 < 65536 ∧ a2 < 65536 ∧ a3 < 65536 ∧ a4 < 65536 ∧ a5 < 65536 ∧ a6 < 65536 ∧ a7 < 65536 := by
  obtain ⟨xs, m1, rfl, hx1, hlen, hn, hel⟩ := DataW.trod_array Try.underlying24 h
  rw [cellsOf24] at hlen
  rw [cellsOf22] at hel
  match cs, hlen with
  | [y0, y1, y2, y3, y4, y5, y6, y7], _ =>
    have key : ∀ (y : Value) (x : Option (DataW H × List MemPlace)), x.isSome = true → DataW.trod enc Try.prog w base sp held m1 22 [y] = x → ∃ a : Nat, y = .int .u16 a ∧ a < 65536 := by
      intro y x hx hy
      obtain ⟨x', rfl⟩ := Option.isSome_iff_exists.1 hx
      obtain ⟨a, e1, _, wa⟩ := DataW.trod_int Try.underlying22 hy
      simp only [List.cons.injEq, and_true] at e1
      have hb := bounds_u16 wa
      obtain ⟨n, rfl⟩ := Int.eq_ofNat_of_zero_le hb.1
      exact ⟨n, e1, by omega⟩
    have hs : ∀ i, i < 8 → xs[i]?.isSome = true := fun i hi => by rw [List.getElem?_eq_getElem (by omega)]; rfl
    obtain ⟨a0, rfl, b0⟩ := key y0 _ (hs 0 (by decide)) (hel 0 (by decide))
    obtain ⟨a1, rfl, b1⟩ := key y1 _ (hs 1 (by decide)) (hel 1 (by decide))
    obtain ⟨a2, rfl, b2⟩ := key y2 _ (hs 2 (by decide)) (hel 2 (by decide))
    obtain ⟨a3, rfl, b3⟩ := key y3 _ (hs 3 (by decide)) (hel 3 (by decide))
    obtain ⟨a4, rfl, b4⟩ := key y4 _ (hs 4 (by decide)) (hel 4 (by decide))
    obtain ⟨a5, rfl, b5⟩ := key y5 _ (hs 5 (by decide)) (hel 5 (by decide))
    obtain ⟨a6, rfl, b6⟩ := key y6 _ (hs 6 (by decide)) (hel 6 (by decide))
    obtain ⟨a7, rfl, b7⟩ := key y7 _ (hs 7 (by decide)) (hel 7 (by decide))
    exact ⟨a0, a1, a2, a3, a4, a5, a6, a7, rfl, b0, b1, b2, b3, b4, b5, b6, b7⟩
theorem eleven {α : Type} {l : List α} (h : l.length = 11) : ∃ y0 y1 y2 y3 y4 y5 y6 y7 y8 y9 y10, l = [y0, y1, y2, y3, y4, y5, y6, y7, y8, y9, y10] := by
  match l, h with
  | [y0, y1, y2, y3, y4, y5, y6, y7, y8, y9, y10], _ => exact ⟨_, _, _, _, _, _, _, _, _, _, _, rfl⟩
set_option maxRecDepth 100000 in
/-- A frame's cells, read. -/
theorem frame_of_trod {fuel : Nat} {cs : List Value} {x : DataW H × List MemPlace} (h : DataW.trod enc Try.prog w base sp held fuel 28 cs = some x) :
    ∃ (a0 a1 a2 a3 a4 a5 a6 a7 : Nat) (tg : Bool) (tag dg : Nat), cs = [.int .u16 a0, .int .u16 a1, .int .u16 a2, .int .u16 a3, .int .u16 a4, .int .u16 a5, .int .u16 a6, .int .u16 a7, .bool tg, .int .u16 tag, .int .u64 dg] ∧ (⟨a0, a1, a2, a3, a4, a5, a6, a7, tg, tag, dg⟩ : Fr).ok := by
  obtain ⟨xs, n, _, rfl, hl, hlen, hf⟩ := DataW.trod_struct Try.underlying28 h
  rw [cellsOf28] at hl
  obtain ⟨y0, y1, y2, y3, y4, y5, y6, y7, y8, y9, y10, rfl⟩ := eleven hl
  have hs : ∀ i, i < 4 → xs[i]?.isSome = true := fun i hi => by rw [List.getElem?_eq_getElem (by rw [hlen]; exact hi)]; rfl
  obtain ⟨x0, e0⟩ := Option.isSome_iff_exists.1 (hs 0 (by decide))
  obtain ⟨x1, e1⟩ := Option.isSome_iff_exists.1 (hs 1 (by decide))
  obtain ⟨x2, e2⟩ := Option.isSome_iff_exists.1 (hs 2 (by decide))
  obtain ⟨x3, e3⟩ := Option.isSome_iff_exists.1 (hs 3 (by decide))
  have k0 : DataW.trod enc Try.prog w base sp held n 24 (([y0, y1, y2, y3, y4, y5, y6, y7, y8, y9, y10].drop 0).take (Try.prog.cellsOf 24)) = xs[0]? := hf 0 _ rfl
  rw [e0, cellsOf24] at k0
  have k1 : DataW.trod enc Try.prog w base sp held n 4 (([y0, y1, y2, y3, y4, y5, y6, y7, y8, y9, y10].drop 8).take (Try.prog.cellsOf 4)) = xs[1]? := hf 1 _ rfl
  rw [e1, cellsOf4] at k1
  have k2 : DataW.trod enc Try.prog w base sp held n 22 (([y0, y1, y2, y3, y4, y5, y6, y7, y8, y9, y10].drop 9).take (Try.prog.cellsOf 22)) = xs[2]? := hf 2 _ rfl
  rw [e2, cellsOf22] at k2
  have k3 : DataW.trod enc Try.prog w base sp held n 26 (([y0, y1, y2, y3, y4, y5, y6, y7, y8, y9, y10].drop 10).take (Try.prog.cellsOf 26)) = xs[3]? := hf 3 _ rfl
  rw [e3, cellsOf26] at k3
  obtain ⟨a0, a1, a2, a3, a4, a5, a6, a7, hp, b0, b1, b2, b3, b4, b5, b6, b7⟩ := packet_of_trod k0
  simp only [List.drop_zero, List.take_succ_cons, List.take_zero, List.cons.injEq, and_true] at hp
  obtain ⟨rfl, rfl, rfl, rfl, rfl, rfl, rfl, rfl⟩ := hp
  obtain ⟨tg, c1, _⟩ := DataW.trod_bool Try.underlying4 k1
  obtain ⟨t, c2, _, w2⟩ := DataW.trod_int Try.underlying22 k2
  obtain ⟨d, c3, _, w3⟩ := DataW.trod_int Try.underlying26 k3
  simp at c1 c2 c3
  subst c1 c2 c3
  have h2 := bounds_u16 w2
  have h3 := bounds_u64 w3
  obtain ⟨t, rfl⟩ := Int.eq_ofNat_of_zero_le h2.1
  obtain ⟨d, rfl⟩ := Int.eq_ofNat_of_zero_le h3.1
  exact ⟨a0, a1, a2, a3, a4, a5, a6, a7, tg, t, d, rfl, ⟨b0, b1, b2, b3, b4, b5, b6, b7, by show t < 65536; omega, by show d < 18446744073709551616; omega⟩⟩

theorem trodAll_below {W W' : World} (hb : Below W.heap.size W W') : ∀ (ts : List TypeId) (vs : List Value) (ds : List (DataW H)) (ps : List MemPlace),
    (∀ t ∈ ts, Try.prog.readableRec t = true ∧ t < Try.prog.types.size) → DataW.TrodAll enc Try.prog W 0 (fun _ => true) true ts vs ds ps → DataW.TrodAll enc Try.prog W' 0 (fun b => decide (b < W.heap.size)) true ts vs ds ps
  | [], vs, ds, ps, _, h => by
    obtain ⟨rfl, rfl, rfl⟩ := trodAll_nil h
    exact trodAll_mk0
  | t :: ts, vs, ds, ps, hr, h => by
    obtain ⟨v0, vs0, d0, ds0, p0, q0, rfl, rfl, rfl, h0, r0⟩ := trodAll_cons h
    have hr0 := hr t (List.mem_cons_self ..)
    have lt0 : ∀ x ∈ p0, x.block < W.heap.size := by obtain ⟨m, hm⟩ := h0; exact DataW.trod_lt m _ _ _ hm
    exact trodAll_cons_mk (Below.trod laidOut hr0.1 hr0.2 h0 hb lt0) (trodAll_below hb ts vs0 ds0 q0 (fun t' ht' => hr t' (List.mem_cons_of_mem _ ht')) r0)
end
end Go.Proofs.Ytaplnbofglljdaa
