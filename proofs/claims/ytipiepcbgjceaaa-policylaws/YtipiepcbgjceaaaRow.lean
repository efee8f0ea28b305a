/- What every row of this seat shares: how arguments are read, and that they read as they did behind a call that turned nothing old; no conditions. -/
import Derived.Test.YtipiepcbgjceaaaRows
import Derived.Test.YtipiepcbgjceaaaR8
import Derived.ProofKit
import Derived.Lib.SmallJoins
import Derived.ChangeMaps5
import Derived.ChangeOld
import Derived.LaidMore
set_option linter.unusedVariables false
set_option linter.unusedSimpArgs false
namespace Go.Proofs.Ytipiepcbgjceaaa
open Go.ChangeShapes Go.WideShapes Go.ChangeAt Go.RowKit Go.Joins

theorem cells3 : Try.prog.cellsOf 3 = 1 := by kernel_rfl
theorem cells26 : Try.prog.cellsOf 24 = 1 := by kernel_rfl
theorem two {α : Type} {l : List α} (h : l.length = 2) : ∃ a b, l = [a, b] := by
  match l, h with
  | [a, b], _ => exact ⟨a, b, rfl⟩
theorem cells48 : Try.prog.cellsOf 57 = 4 := by kernel_rfl
theorem four {α : Type} {l : List α} (h : l.length = 4) : ∃ a b c d, l = [a, b, c, d] := by
  match l, h with
  | [a, b, c, d], _ => exact ⟨a, b, c, d, rfl⟩
theorem bounds_u16' {z : Int} (h : (Lit.int .u16 z).wf = true) : 0 ≤ z ∧ z ≤ 65535 := by
  simp [Lit.wf, IntKind.min, IntKind.max, IntKind.signed, IntKind.bits] at h
  omega
theorem bounds_u8' {z : Int} (h : (Lit.int .u8 z).wf = true) : 0 ≤ z ∧ z ≤ 255 := by
  simp [Lit.wf, IntKind.min, IntKind.max, IntKind.signed, IntKind.bits] at h
  omega
theorem cells5 : Try.prog.cellsOf 5 = 1 := by kernel_rfl
theorem own : ownKnob Try.prog.godebug = none := by kernel_rfl
theorem laidOut : laidOutB Try.prog = true := by kernel_rfl
theorem okWide_array {P : Program} {w : World} {r : Reach} {base n : Nat} {t e : TypeId} {v : Value} (ht : P.underlying t = some (.array n e)) (h : Value.okWide P w r base t v) : ∃ cs, v = .agg cs := by
  unfold Value.okWide at h
  rw [ht] at h
  cases v <;> simp_all

section
variable {H : Type} {enc : TypeId × Value → H} {w : World} {base : Nat} {sp : Nat → Bool} {held : Bool}
theorem trodAll_below {W W' : World} (hb : Below W.heap.size W W') : ∀ (ts : List TypeId) (vs : List Value) (ds : List (DataW H)) (ps : List MemPlace),
    (∀ t ∈ ts, Try.prog.readableRec t = true ∧ t < Try.prog.types.size) → DataW.TrodAll enc Try.prog W 0 (fun _ => true) true ts vs ds ps → DataW.TrodAll enc Try.prog W' 0 (fun b => decide (b < W.heap.size)) true ts vs ds ps
  | [], vs, ds, ps, _, h => by
    obtain ⟨rfl, rfl, rfl⟩ := trodAll_nil h
    exact trodAll_mk0
  | t :: ts, vs, ds, ps, hr, h => by
    obtain ⟨v0, vs0, d0, ds0, p0, q0, rfl, rfl, rfl, h0, r0⟩ := trodAll_cons h
    have hr0 := hr t (List.mem_cons_self ..)
    have lt0 : ∀ x ∈ p0, x.block < W.heap.size := by obtain ⟨m, hm⟩ := h0; exact DataW.trod_lt m _ _ _ hm
    exact trodAll_cons_mk (Below.trod laidOut hr0.1 hr0.2 h0 hb lt0) (trodAll_below hb ts vs0 ds0 q0 (fun t' ht' => hr t' (List.mem_cons_of_mem _ ht')) r0)
/-- A slice's elements, read one by one. -/
theorem elems_of_trod {fuel : Nat} {a : Option Addr} {n c : Nat} {x : DataW H × List MemPlace} {t e : TypeId} {m : Nat} (ht : Try.prog.underlying t = some (.slice e)) (hce : Try.prog.cellsOf e = m) (hm : 0 < m)
    (h : DataW.trod enc Try.prog w base sp held fuel t [.slice a n c] = some x) :
    n ≤ 9223372036854775807 ∧ (n = 0 ∨ ∃ b off, a = some ⟨b, off, none⟩ ∧ b < w.heap.size ∧ ∀ i, i < n → ∃ cs f y, DataW.trod enc Try.prog w base sp held f e cs = some y ∧ ∀ j, j < m → w.cell? ⟨b, off + i * m + j, none⟩ = cs[j]?) := by
  rcases DataW.trod_slice ht h with ⟨hcs, _⟩ | ⟨ad, len, cap, elems, rest, mm, _, hcs, _, _, hl, hmx, hlen, hel, _, _⟩
  · simp at hcs
    obtain ⟨rfl, rfl, rfl⟩ := hcs
    exact ⟨by omega, .inl rfl⟩
  · simp at hcs
    obtain ⟨rfl, rfl, rfl⟩ := hcs
    unfold maxLen at hmx
    rw [hce] at hel
    refine ⟨by omega, ?_⟩
    by_cases hn : n = 0
    · exact .inl hn
    · refine .inr ?_
      have key : ∀ i, i < n → ∃ cs f y, DataW.trod enc Try.prog w base sp held f e cs = some y ∧ cs.length = m ∧ ∀ j, j < m → w.cell? ((ad.add (i * m)).add j) = cs[j]? := by
        intro i hi
        have hE := hel i hi
        rw [List.getElem?_eq_getElem (by omega)] at hE
        obtain ⟨cs, hcs, hy⟩ := Option.bind_eq_some_iff.1 hE
        obtain ⟨h1, h2, hc⟩ := World.cells?_some hcs
        exact ⟨_, _, _, hy, by first | exact h1 | exact h2 | simp_all, fun j hj => hc j hj⟩
      obtain ⟨b, off, spot⟩ := ad
      obtain ⟨cs0, _, _, _, hl0, h0⟩ := key 0 (by omega)
      have hc0 := h0 0 hm
      rw [List.getElem?_eq_getElem (by omega)] at hc0
      have hspot : spot = none := by simpa [Addr.add] using World.cell?_spot hc0
      subst hspot
      refine ⟨b, off, rfl, ?_, fun i hi => ?_⟩
      · rw [add_flat, add_flat] at hc0
        exact block_lt_of_cell hc0
      · obtain ⟨cs, f, y, hy, -, hj⟩ := key i hi
        refine ⟨cs, f, y, hy, fun j hjm => ?_⟩
        have := hj j hjm
        rw [add_flat, add_flat] at this
        exact this
/-- Numbers lie behind a slice. -/
def NumsAt (w : World) (v : Value) (L : List Nat) : Prop :=
  ∃ sa sc, v = .slice sa L.length sc ∧ ∀ k (hk : k < L.length), ∃ b off, sa = some ⟨b, off, none⟩ ∧ b < w.heap.size ∧ w.cell? ⟨b, off + k, none⟩ = some (.int .u16 (L[k] : Int))
/-- A list of numbers that came in. -/
theorem nums_of_trod {fuel : Nat} {a : Option Addr} {n c : Nat} {x : DataW H × List MemPlace} (h : DataW.trod enc Try.prog w base sp held fuel 23 [.slice a n c] = some x) :
    ∃ L : List Nat, L.length = n ∧ n ≤ 9223372036854775807 ∧ NumsAt w (.slice a n c) L ∧ ∀ z ∈ L, z ≤ 65535 := by
  obtain ⟨hn, h0 | ⟨b, off, rfl, hb, hel⟩⟩ := elems_of_trod Try.underlying23 cells26 (by decide) h
  · subst h0
    exact ⟨[], rfl, hn, ⟨a, c, rfl, fun k hk => by simp at hk⟩, fun r hr => by cases hr⟩
  · have key : ∀ i : Fin n, ∃ z : Nat, w.cell? ⟨b, off + i.val, none⟩ = some (.int .u16 (z : Int)) ∧ z ≤ 65535 := by
      intro i
      obtain ⟨cs, f, y, hy, hj⟩ := hel i.val i.isLt
      obtain ⟨z, c0, _, w0⟩ := DataW.trod_int Try.underlying24 hy
      have h2 := bounds_u16' w0
      obtain ⟨t, rfl⟩ := Int.eq_ofNat_of_zero_le h2.1
      have h3 := hj 0 (by decide)
      rw [c0] at h3
      simp only [Nat.mul_one, Nat.add_zero] at h3
      exact ⟨t, h3, by omega⟩
    refine ⟨List.ofFn fun i : Fin n => Classical.choose (key i), by simp, hn, ⟨some ⟨b, off, none⟩, c, by simp, fun k hk => ⟨b, off, rfl, hb, ?_⟩⟩, fun r hr => ?_⟩
    · rw [List.getElem_ofFn]
      exact (Classical.choose_spec (key ⟨k, by simpa using hk⟩)).1
    · obtain ⟨i, rfl⟩ := (List.mem_ofFn).1 hr
      exact (Classical.choose_spec (key i)).2
set_option maxRecDepth 100000 in
theorem step_of_trod {fuel : Nat} {cs : List Value} {x : DataW H × List MemPlace} (h : DataW.trod enc Try.prog w base sp held fuel 57 cs = some x) : ∃ s : Sp, cs = enc4s s ∧ s.n ≤ 65535 ∧ s.k ≤ 255 := by
  obtain ⟨xs, n, _, rfl, hl, hlen, hf⟩ := DataW.trod_struct Try.underlying57 h
  rw [cells48] at hl
  obtain ⟨y0, y1, y2, y3, rfl⟩ := four hl
  have hs : ∀ i, i < 4 → xs[i]?.isSome = true := fun i hi => by rw [List.getElem?_eq_getElem (by rw [hlen]; exact hi)]; rfl
  obtain ⟨x0, e0⟩ := Option.isSome_iff_exists.1 (hs 0 (by decide))
  obtain ⟨x1, e1⟩ := Option.isSome_iff_exists.1 (hs 1 (by decide))
  obtain ⟨x2, e2⟩ := Option.isSome_iff_exists.1 (hs 2 (by decide))
  obtain ⟨x3, e3⟩ := Option.isSome_iff_exists.1 (hs 3 (by decide))
  have k0 : DataW.trod enc Try.prog w base sp held n 3 (([y0, y1, y2, y3].drop 0).take (Try.prog.cellsOf 3)) = xs[0]? := hf 0 _ rfl
  rw [e0, cells3] at k0
  have k1 : DataW.trod enc Try.prog w base sp held n 3 (([y0, y1, y2, y3].drop 1).take (Try.prog.cellsOf 3)) = xs[1]? := hf 1 _ rfl
  rw [e1, cells3] at k1
  have k2 : DataW.trod enc Try.prog w base sp held n 24 (([y0, y1, y2, y3].drop 2).take (Try.prog.cellsOf 24)) = xs[2]? := hf 2 _ rfl
  rw [e2, cells26] at k2
  have k3 : DataW.trod enc Try.prog w base sp held n 5 (([y0, y1, y2, y3].drop 3).take (Try.prog.cellsOf 5)) = xs[3]? := hf 3 _ rfl
  rw [e3, cells5] at k3
  obtain ⟨a, c0, _, w0⟩ := DataW.trod_int Try.underlying3 k0
  obtain ⟨a1, c1, _, w1⟩ := DataW.trod_int Try.underlying3 k1
  obtain ⟨z, c2, _, w2⟩ := DataW.trod_int Try.underlying24 k2
  obtain ⟨z3, c3, _, w3⟩ := DataW.trod_int Try.underlying5 k3
  simp at c0 c1 c2 c3
  subst c0 c1 c2 c3
  have h2 := bounds_u16' w2
  have h3 := bounds_u8' w3
  obtain ⟨t, rfl⟩ := Int.eq_ofNat_of_zero_le h2.1
  obtain ⟨u, rfl⟩ := Int.eq_ofNat_of_zero_le h3.1
  exact ⟨⟨a, a1, t, u⟩, rfl, by show t ≤ 65535; omega, by show u ≤ 255; omega⟩
/-- A list of steps that came in. -/
theorem steps_of_trod {fuel : Nat} {a : Option Addr} {n c : Nat} {x : DataW H × List MemPlace} (h : DataW.trod enc Try.prog w base sp held fuel 22 [.slice a n c] = some x) :
    ∃ L : List Sp, L.length ≤ 9223372036854775807 ∧ Sps w (.slice a n c) L ∧ ∀ s ∈ L, s.n ≤ 65535 ∧ s.k ≤ 255 := by
  obtain ⟨hn, h0 | ⟨b, off, rfl, hb, hel⟩⟩ := elems_of_trod Try.underlying22 cells48 (by decide) h
  · subst h0
    exact ⟨[], by simp, ⟨a, c, rfl, fun k hk => by simp at hk⟩, fun r hr => by cases hr⟩
  · have key : ∀ i : Fin n, ∃ s : Sp, (s.n ≤ 65535 ∧ s.k ≤ 255) ∧ ∀ j, j < 4 → w.cell? ⟨b, off + i.val * 4 + j, none⟩ = (enc4s s)[j]? := by
      intro i
      obtain ⟨cs, f, y, hy, hj⟩ := hel i.val i.isLt
      obtain ⟨s, rfl, h1, h2⟩ := step_of_trod hy
      exact ⟨s, ⟨h1, h2⟩, hj⟩
    refine ⟨List.ofFn fun i : Fin n => Classical.choose (key i), by simpa using hn, ⟨some ⟨b, off, none⟩, c, by simp, fun k hk => ⟨b, off, rfl, hb, ?_⟩⟩, fun r hr => ?_⟩
    · rw [List.getElem_ofFn]
      exact (Classical.choose_spec (key ⟨k, by simpa using hk⟩)).2
    · obtain ⟨i, rfl⟩ := (List.mem_ofFn).1 hr
      exact (Classical.choose_spec (key i)).1
theorem cells24 : Try.prog.cellsOf 26 = 8 := by kernel_rfl
theorem cells22' : Try.prog.cellsOf 24 = 1 := by kernel_rfl
set_option maxRecDepth 100000 in
/-- A packet's cells, read. -/
theorem packet_of_trod {fuel : Nat} {cs : List Value} {x : DataW H × List MemPlace} (h : DataW.trod enc Try.prog w base sp held fuel 26 cs = some x) :
    ∃ a0 a1 a2 a3 a4 a5 a6 a7 : Int, cs = [.int .u16 a0, .int .u16 a1, .int .u16 a2, .int .u16 a3, .int .u16 a4, .int .u16 a5, .int .u16 a6, .int .u16 a7] ∧ (∀ z ∈ [a0, a1, a2, a3, a4, a5, a6, a7], 0 ≤ z ∧ z ≤ 65535) := by
  obtain ⟨xs, m1, rfl, hx1, hlen, hn, hel⟩ := DataW.trod_array Try.underlying26 h
  rw [cells24] at hlen
  rw [cells22'] at hel
  match cs, hlen with
  | [y0, y1, y2, y3, y4, y5, y6, y7], _ =>
    have key : ∀ (y : Value) (x : Option (DataW H × List MemPlace)), x.isSome = true → DataW.trod enc Try.prog w base sp held m1 24 [y] = x → ∃ a : Int, y = .int .u16 a ∧ 0 ≤ a ∧ a ≤ 65535 := by
      intro y x hx hy
      obtain ⟨x', rfl⟩ := Option.isSome_iff_exists.1 hx
      obtain ⟨a, e1, _, wa⟩ := DataW.trod_int Try.underlying24 hy
      simp only [List.cons.injEq, and_true] at e1
      have hb := bounds_u16 wa
      exact ⟨a, e1, by omega, by omega⟩
    have hs : ∀ i, i < 8 → xs[i]?.isSome = true := fun i hi => by rw [List.getElem?_eq_getElem (by omega)]; rfl
    obtain ⟨a0, rfl, b0⟩ := key y0 _ (hs 0 (by decide)) (hel 0 (by decide))
    obtain ⟨a1, rfl, b1⟩ := key y1 _ (hs 1 (by decide)) (hel 1 (by decide))
    obtain ⟨a2, rfl, b2⟩ := key y2 _ (hs 2 (by decide)) (hel 2 (by decide))
    obtain ⟨a3, rfl, b3⟩ := key y3 _ (hs 3 (by decide)) (hel 3 (by decide))
    obtain ⟨a4, rfl, b4⟩ := key y4 _ (hs 4 (by decide)) (hel 4 (by decide))
    obtain ⟨a5, rfl, b5⟩ := key y5 _ (hs 5 (by decide)) (hel 5 (by decide))
    obtain ⟨a6, rfl, b6⟩ := key y6 _ (hs 6 (by decide)) (hel 6 (by decide))
    obtain ⟨a7, rfl, b7⟩ := key y7 _ (hs 7 (by decide)) (hel 7 (by decide))
    refine ⟨a0, a1, a2, a3, a4, a5, a6, a7, rfl, ?_⟩
    intro z hz
    simp only [List.mem_cons, List.not_mem_nil, or_false] at hz
    rcases hz with rfl | rfl | rfl | rfl | rfl | rfl | rfl | rfl <;> assumption

theorem cells22n : Try.prog.cellsOf 22 = 1 := by kernel_rfl
theorem cells53n : Try.prog.cellsOf 53 = 2 := by kernel_rfl
theorem cells47n : Try.prog.cellsOf 47 = 3 := by kernel_rfl
theorem cells42n : Try.prog.cellsOf 42 = 2 := by kernel_rfl
theorem cells23n : Try.prog.cellsOf 23 = 1 := by kernel_rfl
/-- Steps that came in. -/
def StepsIn (w : World) (v : Value) : Prop := ∃ l : List Sp, ∃ a c, v = .slice a l.length c ∧ l.length ≤ 9223372036854775807 ∧ Sps w v l ∧ ∀ s ∈ l, s.n ≤ 65535 ∧ s.k ≤ 255
/-- Numbers that came in. -/
def StateIn (w : World) (v : Value) : Prop := ∃ l : List Nat, ∃ a c, v = .slice a l.length c ∧ l.length ≤ 9223372036854775807 ∧ NumsAt w v l ∧ ∀ z ∈ l, z ≤ 65535
theorem slice_shape {fuel : Nat} {t e : TypeId} {v : Value} {x : DataW H × List MemPlace} (ht : Try.prog.underlying t = some (.slice e)) (h : DataW.trod enc Try.prog w base sp held fuel t [v] = some x) : ∃ a n c, v = .slice a n c := by
  rcases DataW.trod_slice ht h with ⟨hcs, _⟩ | ⟨ad, len, cap, elems, rest, mm, _, hcs, _⟩
  · exact ⟨_, _, _, by simpa using hcs⟩
  · exact ⟨_, _, _, by simpa using hcs⟩
theorem stepsIn {fuel : Nat} {v : Value} {x : DataW H × List MemPlace} (h : DataW.trod enc Try.prog w base sp held fuel 22 [v] = some x) : StepsIn w v := by
  obtain ⟨a, n, c, rfl⟩ := slice_shape Try.underlying22 h
  obtain ⟨L, h1, h2, h3⟩ := steps_of_trod h
  have h2' := h2
  obtain ⟨a', c', e, -⟩ := h2'
  exact ⟨L, a', c', e, h1, h2, h3⟩
theorem stateIn {fuel : Nat} {v : Value} {x : DataW H × List MemPlace} (h : DataW.trod enc Try.prog w base sp held fuel 23 [v] = some x) : StateIn w v := by
  obtain ⟨a, n, c, rfl⟩ := slice_shape Try.underlying23 h
  obtain ⟨L, rfl, h1, h2, h3⟩ := nums_of_trod h
  exact ⟨L, a, c, rfl, h1, h2, h3⟩
set_option maxRecDepth 100000 in
theorem steps2_of_trod {fuel : Nat} {cs : List Value} {x : DataW H × List MemPlace} (h : DataW.trod enc Try.prog w base sp held fuel 53 cs = some x) : ∃ v0 v1, cs = [v0, v1] ∧ StepsIn w v0 ∧ StepsIn w v1 := by
  obtain ⟨xs, m1, rfl, hx1, hlen, hn, hel⟩ := DataW.trod_array Try.underlying53 h
  rw [cells53n] at hlen
  rw [cells22n] at hel
  match cs, hlen with
  | [y0, y1], _ =>
    have key : ∀ (y : Value) (x : Option (DataW H × List MemPlace)), x.isSome = true → DataW.trod enc Try.prog w base sp held m1 22 [y] = x → StepsIn w y := fun y x hx hy => by
      obtain ⟨x', rfl⟩ := Option.isSome_iff_exists.1 hx
      exact stepsIn hy
    have hs : ∀ i, i < 2 → xs[i]?.isSome = true := fun i hi => by rw [List.getElem?_eq_getElem (by omega)]; rfl
    exact ⟨y0, y1, rfl, key y0 _ (hs 0 (by decide)) (hel 0 (by decide)), key y1 _ (hs 1 (by decide)) (hel 1 (by decide))⟩
set_option maxRecDepth 100000 in
theorem steps3_of_trod {fuel : Nat} {cs : List Value} {x : DataW H × List MemPlace} (h : DataW.trod enc Try.prog w base sp held fuel 47 cs = some x) : ∃ v0 v1 v2, cs = [v0, v1, v2] ∧ StepsIn w v0 ∧ StepsIn w v1 ∧ StepsIn w v2 := by
  obtain ⟨xs, m1, rfl, hx1, hlen, hn, hel⟩ := DataW.trod_array Try.underlying47 h
  rw [cells47n] at hlen
  rw [cells22n] at hel
  match cs, hlen with
  | [y0, y1, y2], _ =>
    have key : ∀ (y : Value) (x : Option (DataW H × List MemPlace)), x.isSome = true → DataW.trod enc Try.prog w base sp held m1 22 [y] = x → StepsIn w y := fun y x hx hy => by
      obtain ⟨x', rfl⟩ := Option.isSome_iff_exists.1 hx
      exact stepsIn hy
    have hs : ∀ i, i < 3 → xs[i]?.isSome = true := fun i hi => by rw [List.getElem?_eq_getElem (by omega)]; rfl
    exact ⟨y0, y1, y2, rfl, key y0 _ (hs 0 (by decide)) (hel 0 (by decide)), key y1 _ (hs 1 (by decide)) (hel 1 (by decide)), key y2 _ (hs 2 (by decide)) (hel 2 (by decide))⟩
set_option maxRecDepth 100000 in
theorem states2_of_trod {fuel : Nat} {cs : List Value} {x : DataW H × List MemPlace} (h : DataW.trod enc Try.prog w base sp held fuel 42 cs = some x) : ∃ v0 v1, cs = [v0, v1] ∧ StateIn w v0 ∧ StateIn w v1 := by
  obtain ⟨xs, m1, rfl, hx1, hlen, hn, hel⟩ := DataW.trod_array Try.underlying42 h
  rw [cells42n] at hlen
  rw [cells23n] at hel
  match cs, hlen with
  | [y0, y1], _ =>
    have key : ∀ (y : Value) (x : Option (DataW H × List MemPlace)), x.isSome = true → DataW.trod enc Try.prog w base sp held m1 23 [y] = x → StateIn w y := fun y x hx hy => by
      obtain ⟨x', rfl⟩ := Option.isSome_iff_exists.1 hx
      exact stateIn hy
    have hs : ∀ i, i < 2 → xs[i]?.isSome = true := fun i hi => by rw [List.getElem?_eq_getElem (by omega)]; rfl
    exact ⟨y0, y1, rfl, key y0 _ (hs 0 (by decide)) (hel 0 (by decide)), key y1 _ (hs 1 (by decide)) (hel 1 (by decide))⟩
end

end Go.Proofs.Ytipiepcbgjceaaa
