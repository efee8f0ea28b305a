/- How lists are read as arguments: pairs, rules, numbers; no conditions. -/
import Derived.Test.YtebpapmnkbehnaaDoorRow
import Derived.Test.YtebpapmnkbehnaaDoorK11
import Derived.Test.YtebpapmnkbehnaaDoorR8
set_option linter.unusedVariables false
set_option linter.unusedSimpArgs false
namespace Go.Proofs.YtebpapmnkbehnaaDoor
open Go.ChangeShapes Go.WideShapes Go.ChangeAt Go.RowKit

theorem cells55 : Tryd.prog.cellsOf 61 = 2 := by kernel_rfl
theorem cells51 : Tryd.prog.cellsOf 39 = 3 := by kernel_rfl
theorem cells49 : Tryd.prog.cellsOf 37 = 1 := by kernel_rfl
theorem cells3 : Tryd.prog.cellsOf 3 = 1 := by kernel_rfl
theorem cells26 : Tryd.prog.cellsOf 26 = 1 := by kernel_rfl
section
variable {H : Type} {enc : TypeId × Value → H} {w : World} {base : Nat} {sp : Nat → Bool} {held : Bool}
/-- A slice's elements, read one by one. -/
theorem elems_of_trod {fuel : Nat} {a : Option Addr} {n c : Nat} {x : DataW H × List MemPlace} {t e : TypeId} {m : Nat} (ht : Tryd.prog.underlying t = some (.slice e)) (hce : Tryd.prog.cellsOf e = m) (hm : 0 < m)
    (h : DataW.trod enc Tryd.prog w base sp held fuel t [.slice a n c] = some x) :
    n ≤ 9223372036854775807 ∧ (n = 0 ∨ ∃ b off, a = some ⟨b, off, none⟩ ∧ b < w.heap.size ∧ ∀ i, i < n → ∃ cs f y, DataW.trod enc Tryd.prog w base sp held f e cs = some y ∧ ∀ j, j < m → w.cell? ⟨b, off + i * m + j, none⟩ = cs[j]?) := by
  rcases DataW.trod_slice ht h with ⟨hcs, _⟩ | ⟨ad, len, cap, elems, rest, mm, _, hcs, _, _, hl, hmx, hlen, hel, _, _⟩
  · simp at hcs
    obtain ⟨rfl, rfl, rfl⟩ := hcs
    exact ⟨by omega, .inl rfl⟩
  · simp at hcs
    obtain ⟨rfl, rfl, rfl⟩ := hcs
    unfold maxLen at hmx
    rw [hce] at hel
    refine ⟨by omega, ?_⟩
    by_cases hn : n = 0
    · exact .inl hn
    · refine .inr ?_
      have key : ∀ i, i < n → ∃ cs f y, DataW.trod enc Tryd.prog w base sp held f e cs = some y ∧ cs.length = m ∧ ∀ j, j < m → w.cell? ((ad.add (i * m)).add j) = cs[j]? := by
        intro i hi
        have hE := hel i hi
        rw [List.getElem?_eq_getElem (by omega)] at hE
        obtain ⟨cs, hcs, hy⟩ := Option.bind_eq_some_iff.1 hE
        obtain ⟨h1, h2, hc⟩ := World.cells?_some hcs
        exact ⟨_, _, _, hy, by first | exact h1 | exact h2 | simp_all, fun j hj => hc j hj⟩
      obtain ⟨b, off, spot⟩ := ad
      obtain ⟨cs0, _, _, _, hl0, h0⟩ := key 0 (by omega)
      have hc0 := h0 0 hm
      rw [List.getElem?_eq_getElem (by omega)] at hc0
      have hspot : spot = none := by simpa [Addr.add] using World.cell?_spot hc0
      subst hspot
      refine ⟨b, off, rfl, ?_, fun i hi => ?_⟩
      · rw [add_flat, add_flat] at hc0
        exact block_lt_of_cell hc0
      · obtain ⟨cs, f, y, hy, -, hj⟩ := key i hi
        refine ⟨cs, f, y, hy, fun j hjm => ?_⟩
        have := hj j hjm
        rw [add_flat, add_flat] at this
        exact this
theorem two {α : Type} {l : List α} (h : l.length = 2) : ∃ a b, l = [a, b] := by
  match l, h with
  | [a, b], _ => exact ⟨a, b, rfl⟩
theorem three {α : Type} {l : List α} (h : l.length = 3) : ∃ a b c, l = [a, b, c] := by
  match l, h with
  | [a, b, c], _ => exact ⟨a, b, c, rfl⟩
set_option maxRecDepth 100000 in
/-- A pair's cells, read. -/
theorem pair_of_trod {fuel : Nat} {cs : List Value} {x : DataW H × List MemPlace} (h : DataW.trod enc Tryd.prog w base sp held fuel 61 cs = some x) : ∃ c : Pr, cs = enc2 c ∧ c.2 ≤ 65535 := by
  obtain ⟨xs, n, _, rfl, hl, hlen, hf⟩ := DataW.trod_struct Tryd.underlying61 h
  rw [cells55] at hl
  obtain ⟨y0, y1, rfl⟩ := two hl
  have hs : ∀ i, i < 2 → xs[i]?.isSome = true := fun i hi => by rw [List.getElem?_eq_getElem (by rw [hlen]; exact hi)]; rfl
  obtain ⟨x0, e0⟩ := Option.isSome_iff_exists.1 (hs 0 (by decide))
  obtain ⟨x1, e1⟩ := Option.isSome_iff_exists.1 (hs 1 (by decide))
  have k0 : DataW.trod enc Tryd.prog w base sp held n 3 (([y0, y1].drop 0).take (Tryd.prog.cellsOf 3)) = xs[0]? := hf 0 _ rfl
  rw [e0, cells3] at k0
  have k1 : DataW.trod enc Tryd.prog w base sp held n 26 (([y0, y1].drop 1).take (Tryd.prog.cellsOf 26)) = xs[1]? := hf 1 _ rfl
  rw [e1, cells26] at k1
  obtain ⟨a, c0, _, w0⟩ := DataW.trod_int Tryd.underlying3 k0
  obtain ⟨z, c2, _, w2⟩ := DataW.trod_int Tryd.underlying26 k1
  simp at c0 c2
  subst c0 c2
  have h2 := bounds_u16' w2
  obtain ⟨t, rfl⟩ := Int.eq_ofNat_of_zero_le h2.1
  exact ⟨(a, t), rfl, by show t ≤ 65535; omega⟩
/-- A list of pairs that came in. -/
theorem pairs_of_trod {fuel : Nat} {v : Value} {x : DataW H × List MemPlace} (h : DataW.trod enc Tryd.prog w base sp held fuel 37 [v] = some x) : ∃ L : List Pr, (L.length ≤ 9223372036854775807 ∧ ∀ c ∈ L, c.2 ≤ 65535) ∧ PrsP (fun b => b < w.heap.size) w v L := by
  obtain ⟨a, n, c, rfl⟩ : ∃ a n c, v = .slice a n c := by
    rcases DataW.trod_slice Tryd.underlying37 h with ⟨hcs, _⟩ | ⟨ad, len, cap, elems, rest, mm, _, hcs, _⟩
    · exact ⟨_, _, _, by simpa using hcs⟩
    · exact ⟨_, _, _, by simpa using hcs⟩
  obtain ⟨hn, h0 | ⟨b, off, rfl, hb, hel⟩⟩ := elems_of_trod Tryd.underlying37 cells55 (by decide) h
  · subst h0
    exact ⟨[], ⟨by simp, fun c hc => by cases hc⟩, a, c, rfl, fun k hk => by simp at hk⟩
  · have key : ∀ i : Fin n, ∃ p : Pr, At2 w b (off + i.val * 2) p ∧ p.2 ≤ 65535 := by
      intro i
      obtain ⟨cs, f, y, hy, hj⟩ := hel i.val i.isLt
      obtain ⟨p, rfl, h2⟩ := pair_of_trod hy
      exact ⟨p, At2.of hj, h2⟩
    refine ⟨List.ofFn fun i : Fin n => Classical.choose (key i), ⟨by simpa using hn, fun c hc => ?_⟩, some ⟨b, off, none⟩, c, by simp, fun k hk => ⟨b, off, rfl, hb, hb, ?_⟩⟩
    · obtain ⟨i, rfl⟩ := (List.mem_ofFn).1 hc
      exact (Classical.choose_spec (key i)).2
    · rw [List.getElem_ofFn]
      exact (Classical.choose_spec (key ⟨k, by simpa using hk⟩)).1
set_option maxRecDepth 100000 in
/-- A rule's cells, read. -/
theorem rule_of_trod {fuel : Nat} {cs : List Value} {x : DataW H × List MemPlace} (h : DataW.trod enc Tryd.prog w base sp held fuel 39 cs = some x) :
    ∃ v1 v2 v3 r, cs = [v1, v2, v3] ∧ RulPv (fun b => b < w.heap.size) w v1 v2 v3 r ∧ (r.when.length ≤ 9223372036854775807 ∧ r.guard.length ≤ 9223372036854775807 ∧ r.thn.length ≤ 9223372036854775807) ∧ (∀ c ∈ r.when, c.2 ≤ 65535) ∧ (∀ c ∈ r.guard, c.2 ≤ 65535) ∧ (∀ c ∈ r.thn, c.2 ≤ 65535) := by
  obtain ⟨xs, n, _, rfl, hl, hlen, hf⟩ := DataW.trod_struct Tryd.underlying39 h
  rw [cells51] at hl
  obtain ⟨y0, y1, y2, rfl⟩ := three hl
  have hs : ∀ i, i < 3 → xs[i]?.isSome = true := fun i hi => by rw [List.getElem?_eq_getElem (by rw [hlen]; exact hi)]; rfl
  obtain ⟨x0, e0⟩ := Option.isSome_iff_exists.1 (hs 0 (by decide))
  obtain ⟨x1, e1⟩ := Option.isSome_iff_exists.1 (hs 1 (by decide))
  obtain ⟨x2, e2⟩ := Option.isSome_iff_exists.1 (hs 2 (by decide))
  have k0 : DataW.trod enc Tryd.prog w base sp held n 37 (([y0, y1, y2].drop 0).take (Tryd.prog.cellsOf 37)) = xs[0]? := hf 0 _ rfl
  rw [e0, cells49] at k0
  have k1 : DataW.trod enc Tryd.prog w base sp held n 37 (([y0, y1, y2].drop 1).take (Tryd.prog.cellsOf 37)) = xs[1]? := hf 1 _ rfl
  rw [e1, cells49] at k1
  have k2 : DataW.trod enc Tryd.prog w base sp held n 37 (([y0, y1, y2].drop 2).take (Tryd.prog.cellsOf 37)) = xs[2]? := hf 2 _ rfl
  rw [e2, cells49] at k2
  obtain ⟨L0, ⟨m0, n0⟩, p0⟩ := pairs_of_trod (show DataW.trod enc Tryd.prog w base sp held n 37 [y0] = some x0 from k0)
  obtain ⟨L1, ⟨m1, n1⟩, p1⟩ := pairs_of_trod (show DataW.trod enc Tryd.prog w base sp held n 37 [y1] = some x1 from k1)
  obtain ⟨L2, ⟨m2, n2⟩, p2⟩ := pairs_of_trod (show DataW.trod enc Tryd.prog w base sp held n 37 [y2] = some x2 from k2)
  exact ⟨y0, y1, y2, ⟨L0, L1, L2⟩, rfl, ⟨p0, p1, p2⟩, ⟨m0, m1, m2⟩, n0, n1, n2⟩
/-- A list of rules that came in. -/
theorem rules_of_trodN {fuel : Nat} {a : Option Addr} {n c : Nat} {x : DataW H × List MemPlace} (h : DataW.trod enc Tryd.prog w base sp held fuel 24 [.slice a n c] = some x) :
    ∃ L : List Rl, L.length ≤ 9223372036854775807 ∧ RulesAt (fun b => b < w.heap.size) w (.slice a n c) L ∧ ∀ r ∈ L, (r.when.length ≤ 9223372036854775807 ∧ r.guard.length ≤ 9223372036854775807 ∧ r.thn.length ≤ 9223372036854775807) ∧ (∀ c ∈ r.when, c.2 ≤ 65535) ∧ (∀ c ∈ r.guard, c.2 ≤ 65535) ∧ (∀ c ∈ r.thn, c.2 ≤ 65535) := by
  obtain ⟨hn, h0 | ⟨b, off, rfl, hb, hel⟩⟩ := elems_of_trod Tryd.underlying24 cells51 (by decide) h
  · subst h0
    exact ⟨[], by simp, ⟨a, c, rfl, fun k hk => by simp at hk⟩, fun r hr => by cases hr⟩
  · have key : ∀ i : Fin n, ∃ r : Rl, (∃ v1 v2 v3, (w.cell? ⟨b, off + i.val * 3, none⟩ = some v1 ∧ w.cell? ⟨b, off + i.val * 3 + 1, none⟩ = some v2 ∧ w.cell? ⟨b, off + i.val * 3 + 2, none⟩ = some v3) ∧ RulPv (fun b => b < w.heap.size) w v1 v2 v3 r) ∧ (r.when.length ≤ 9223372036854775807 ∧ r.guard.length ≤ 9223372036854775807 ∧ r.thn.length ≤ 9223372036854775807) ∧ (∀ c ∈ r.when, c.2 ≤ 65535) ∧ (∀ c ∈ r.guard, c.2 ≤ 65535) ∧ (∀ c ∈ r.thn, c.2 ≤ 65535) := by
      intro i
      obtain ⟨cs, f, y, hy, hj⟩ := hel i.val i.isLt
      obtain ⟨v1, v2, v3, r, rfl, hr, hm⟩ := rule_of_trod hy
      exact ⟨r, ⟨v1, v2, v3, ⟨hj 0 (by decide), hj 1 (by decide), hj 2 (by decide)⟩, hr⟩, hm⟩
    refine ⟨List.ofFn fun i : Fin n => Classical.choose (key i), by simpa using hn, ⟨some ⟨b, off, none⟩, c, by simp, fun k hk => ?_⟩, fun r hr => ?_⟩
    · obtain ⟨v1, v2, v3, hc, hv⟩ := (Classical.choose_spec (key ⟨k, by simpa using hk⟩)).1
      rw [List.getElem_ofFn]
      exact ⟨b, off, v1, v2, v3, rfl, hb, hb, hc, hv⟩
    · obtain ⟨i, rfl⟩ := (List.mem_ofFn).1 hr
      exact (Classical.choose_spec (key i)).2
theorem rules_of_trod {fuel : Nat} {a : Option Addr} {n c : Nat} {x : DataW H × List MemPlace} (h : DataW.trod enc Tryd.prog w base sp held fuel 24 [.slice a n c] = some x) :
    ∃ L : List Rl, L.length ≤ 9223372036854775807 ∧ RulesAt (fun b => b < w.heap.size) w (.slice a n c) L ∧ ∀ r ∈ L, r.when.length ≤ 9223372036854775807 ∧ r.guard.length ≤ 9223372036854775807 ∧ r.thn.length ≤ 9223372036854775807 := by
  obtain ⟨L, h1, h2, h3⟩ := rules_of_trodN h
  exact ⟨L, h1, h2, fun r hr => (h3 r hr).1⟩
/-- Numbers lie behind a slice. -/
def NumsAt (w : World) (v : Value) (L : List Nat) : Prop :=
  ∃ sa sc, v = .slice sa L.length sc ∧ ∀ k (hk : k < L.length), ∃ b off, sa = some ⟨b, off, none⟩ ∧ b < w.heap.size ∧ w.cell? ⟨b, off + k, none⟩ = some (.int .u16 (L[k] : Int))
/-- A list of numbers that came in. -/
theorem nums_of_trod {fuel : Nat} {a : Option Addr} {n c : Nat} {x : DataW H × List MemPlace} (h : DataW.trod enc Tryd.prog w base sp held fuel 22 [.slice a n c] = some x) :
    ∃ L : List Nat, L.length = n ∧ n ≤ 9223372036854775807 ∧ NumsAt w (.slice a n c) L ∧ ∀ z ∈ L, z ≤ 65535 := by
  obtain ⟨hn, h0 | ⟨b, off, rfl, hb, hel⟩⟩ := elems_of_trod Tryd.underlying22 cells26 (by decide) h
  · subst h0
    exact ⟨[], rfl, hn, ⟨a, c, rfl, fun k hk => by simp at hk⟩, fun r hr => by cases hr⟩
  · have key : ∀ i : Fin n, ∃ z : Nat, w.cell? ⟨b, off + i.val, none⟩ = some (.int .u16 (z : Int)) ∧ z ≤ 65535 := by
      intro i
      obtain ⟨cs, f, y, hy, hj⟩ := hel i.val i.isLt
      obtain ⟨z, c0, _, w0⟩ := DataW.trod_int Tryd.underlying26 hy
      have h2 := bounds_u16' w0
      obtain ⟨t, rfl⟩ := Int.eq_ofNat_of_zero_le h2.1
      have h3 := hj 0 (by decide)
      rw [c0] at h3
      simp only [Nat.mul_one, Nat.add_zero] at h3
      exact ⟨t, h3, by omega⟩
    refine ⟨List.ofFn fun i : Fin n => Classical.choose (key i), by simp, hn, ⟨some ⟨b, off, none⟩, c, by simp, fun k hk => ⟨b, off, rfl, hb, ?_⟩⟩, fun r hr => ?_⟩
    · rw [List.getElem_ofFn]
      exact (Classical.choose_spec (key ⟨k, by simpa using hk⟩)).1
    · obtain ⟨i, rfl⟩ := (List.mem_ofFn).1 hr
      exact (Classical.choose_spec (key i)).2
theorem cells48 : Tryd.prog.cellsOf 43 = 4 := by kernel_rfl
theorem four {α : Type} {l : List α} (h : l.length = 4) : ∃ a b c d, l = [a, b, c, d] := by
  match l, h with
  | [a, b, c, d], _ => exact ⟨a, b, c, d, rfl⟩
set_option maxRecDepth 100000 in
theorem step_of_trod {fuel : Nat} {cs : List Value} {x : DataW H × List MemPlace} (h : DataW.trod enc Tryd.prog w base sp held fuel 43 cs = some x) : ∃ s : Sp, cs = enc4s s ∧ s.n ≤ 65535 ∧ s.k ≤ 255 := by
  obtain ⟨xs, n, _, rfl, hl, hlen, hf⟩ := DataW.trod_struct Tryd.underlying43 h
  rw [cells48] at hl
  obtain ⟨y0, y1, y2, y3, rfl⟩ := four hl
  have hs : ∀ i, i < 4 → xs[i]?.isSome = true := fun i hi => by rw [List.getElem?_eq_getElem (by rw [hlen]; exact hi)]; rfl
  obtain ⟨x0, e0⟩ := Option.isSome_iff_exists.1 (hs 0 (by decide))
  obtain ⟨x1, e1⟩ := Option.isSome_iff_exists.1 (hs 1 (by decide))
  obtain ⟨x2, e2⟩ := Option.isSome_iff_exists.1 (hs 2 (by decide))
  obtain ⟨x3, e3⟩ := Option.isSome_iff_exists.1 (hs 3 (by decide))
  have k0 : DataW.trod enc Tryd.prog w base sp held n 3 (([y0, y1, y2, y3].drop 0).take (Tryd.prog.cellsOf 3)) = xs[0]? := hf 0 _ rfl
  rw [e0, cells3] at k0
  have k1 : DataW.trod enc Tryd.prog w base sp held n 3 (([y0, y1, y2, y3].drop 1).take (Tryd.prog.cellsOf 3)) = xs[1]? := hf 1 _ rfl
  rw [e1, cells3] at k1
  have k2 : DataW.trod enc Tryd.prog w base sp held n 26 (([y0, y1, y2, y3].drop 2).take (Tryd.prog.cellsOf 26)) = xs[2]? := hf 2 _ rfl
  rw [e2, cells26] at k2
  have k3 : DataW.trod enc Tryd.prog w base sp held n 5 (([y0, y1, y2, y3].drop 3).take (Tryd.prog.cellsOf 5)) = xs[3]? := hf 3 _ rfl
  rw [e3, cells5] at k3
  obtain ⟨a, c0, _, w0⟩ := DataW.trod_int Tryd.underlying3 k0
  obtain ⟨a1, c1, _, w1⟩ := DataW.trod_int Tryd.underlying3 k1
  obtain ⟨z, c2, _, w2⟩ := DataW.trod_int Tryd.underlying26 k2
  obtain ⟨z3, c3, _, w3⟩ := DataW.trod_int Tryd.underlying5 k3
  simp at c0 c1 c2 c3
  subst c0 c1 c2 c3
  have h2 := bounds_u16' w2
  have h3 := bounds_u8' w3
  obtain ⟨t, rfl⟩ := Int.eq_ofNat_of_zero_le h2.1
  obtain ⟨u, rfl⟩ := Int.eq_ofNat_of_zero_le h3.1
  exact ⟨⟨a, a1, t, u⟩, rfl, by show t ≤ 65535; omega, by show u ≤ 255; omega⟩
/-- A list of steps that came in. -/
theorem steps_of_trod {fuel : Nat} {a : Option Addr} {n c : Nat} {x : DataW H × List MemPlace} (h : DataW.trod enc Tryd.prog w base sp held fuel 23 [.slice a n c] = some x) :
    ∃ L : List Sp, L.length ≤ 9223372036854775807 ∧ Sps w (.slice a n c) L ∧ ∀ s ∈ L, s.n ≤ 65535 ∧ s.k ≤ 255 := by
  obtain ⟨hn, h0 | ⟨b, off, rfl, hb, hel⟩⟩ := elems_of_trod Tryd.underlying23 cells48 (by decide) h
  · subst h0
    exact ⟨[], by simp, ⟨a, c, rfl, fun k hk => by simp at hk⟩, fun r hr => by cases hr⟩
  · have key : ∀ i : Fin n, ∃ s : Sp, (s.n ≤ 65535 ∧ s.k ≤ 255) ∧ ∀ j, j < 4 → w.cell? ⟨b, off + i.val * 4 + j, none⟩ = (enc4s s)[j]? := by
      intro i
      obtain ⟨cs, f, y, hy, hj⟩ := hel i.val i.isLt
      obtain ⟨s, rfl, h1, h2⟩ := step_of_trod hy
      exact ⟨s, ⟨h1, h2⟩, hj⟩
    refine ⟨List.ofFn fun i : Fin n => Classical.choose (key i), by simpa using hn, ⟨some ⟨b, off, none⟩, c, by simp, fun k hk => ⟨b, off, rfl, hb, ?_⟩⟩, fun r hr => ?_⟩
    · rw [List.getElem_ofFn]
      exact (Classical.choose_spec (key ⟨k, by simpa using hk⟩)).2
    · obtain ⟨i, rfl⟩ := (List.mem_ofFn).1 hr
      exact (Classical.choose_spec (key i)).1
end
end Go.Proofs.YtebpapmnkbehnaaDoor
