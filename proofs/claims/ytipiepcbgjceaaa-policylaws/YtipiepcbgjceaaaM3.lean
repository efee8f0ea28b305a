/- Brought back field by field, and one cell of a row of packets; no conditions. -/
import Derived.Test.YtipiepcbgjceaaaM2
set_option linter.unusedVariables false
set_option linter.unusedSimpArgs false
namespace Go.Proofs.Ytipiepcbgjceaaa
open Go.RowKit Go.Joins Go.Sort

/-- The first fields brought back. -/
def backK (oc : Nat → Nat) (q : P8) (k : Nat) (x : P8) : P8 := x.mapF fun f v => if f < k then (if v = (oc f : Int) then q.get f else v) else v
theorem backK_zero (oc : Nat → Nat) (q x : P8) : backK oc q 0 x = x := rfl
theorem backK_all (oc : Nat → Nat) (q x : P8) : backK oc q 8 x = backP oc q x := rfl
theorem backK_same (oc : Nat → Nat) (q x : P8) (k : Nat) (hk : k < 8) (h : x.get k ≠ (oc k : Int)) : backK oc q (k + 1) x = backK oc q k x := by
  unfold backK
  refine P8.mapF_eq fun f hf => ?_
  by_cases h1 : f < k
  · rw [if_pos h1, if_pos (show f < k + 1 by omega)]
  · by_cases h2 : f = k
    · subst h2
      rw [if_neg h1, if_pos (show f < f + 1 by omega), if_neg h]
    · rw [if_neg h1, if_neg (show ¬ f < k + 1 by omega)]
theorem enc8_mapF (h : Nat → Int → Int) (x : P8) (j : Nat) (hj : j < 8) : (enc8 (x.mapF h))[j]? = some (.int .u16 (h j (x.get j))) := by
  have : j = 0 ∨ j = 1 ∨ j = 2 ∨ j = 3 ∨ j = 4 ∨ j = 5 ∨ j = 6 ∨ j = 7 := by omega
  rcases this with rfl | rfl | rfl | rfl | rfl | rfl | rfl | rfl <;> rfl
theorem backK_put (oc : Nat → Nat) (q x : P8) (k : Nat) (hk : k < 8) (h : x.get k = (oc k : Int)) (j : Nat) (hj : j < 8) : (enc8 (backK oc q (k + 1) x))[j]? = if j = k then some (.int .u16 (q.get k)) else (enc8 (backK oc q k x))[j]? := by
  unfold backK
  rw [enc8_mapF _ _ _ hj, enc8_mapF _ _ _ hj]
  by_cases h2 : j = k
  · subst h2
    rw [if_pos rfl, if_pos (show j < j + 1 by omega), if_pos h]
  · rw [if_neg h2]
    by_cases h1 : j < k
    · rw [if_pos h1, if_pos (show j < k + 1 by omega)]
    · rw [if_neg h1, if_neg (show ¬ j < k + 1 by omega)]
/-- One cell of a packet in a row is stored. -/
theorem Rw.put1 {w : World} {g off sz : Nat} {R : List P8} (h : Rw w g off sz R) (k : Nat) (hk : k < R.length) (f : Nat) (hf : f < 8) (y : P8) (v : Int) (hy : ∀ j, j < 8 → (enc8 y)[j]? = if j = f then some (.int .u16 v) else (enc8 R[k])[j]?) :
    Rw (w.setCell ⟨g, off + k * 8 + f, none⟩ (.int .u16 v)) g off sz (R.set k y) := by
  obtain ⟨cur, hg, hsz, hc⟩ := h
  refine ⟨_, heap_setCell_same w g (off + k * 8 + f) _ _ (.int .u16 v) hg, by simpa using hsz, fun i hi j hj => ?_⟩
  have hi' : i < R.length := by simpa using hi
  have hin : off + k * 8 + f < cur.size := by
    have := hc k hk f hf
    rcases Nat.lt_or_ge (off + k * 8 + f) cur.size with hh | hh
    · exact hh
    · rw [Array.getElem?_eq_none hh] at this
      have hl : (enc8 R[k]).length = 8 := rfl
      rw [List.getElem?_eq_getElem (by omega)] at this
      cases this
  simp only [Array.getElem?_setIfInBounds]
  by_cases hik : i = k
  · subst hik
    rw [List.getElem_set_self, hy j hj]
    by_cases hjf : j = f
    · subst hjf
      rw [if_pos rfl, if_pos rfl, if_pos hin]
    · rw [if_neg (by omega), if_neg hjf]
      exact hc i hi' j hj
  · rw [List.getElem_set_ne (by omega), if_neg (by omega)]
    exact hc i hi' j hj
end Go.Proofs.Ytipiepcbgjceaaa
/- The way back, by a book; no conditions. -/
set_option linter.unusedVariables false
set_option linter.unusedSimpArgs false
namespace Go.Proofs.Ytipiepcbgjceaaa
open Go.RowKit Go.Joins Go.Sort

/-- How far the rows are brought back. -/
def Gone (oc : Nat → Nat) (q : P8) (L D : List P8) (k f : Nat) : Prop := D.length = L.length ∧ ∀ i, i < L.length → D[i]? = (L[i]?).map fun x => if i < k then backP oc q x else if i = k then backK oc q f x else x
theorem Gone.zero (oc : Nat → Nat) (q : P8) (L : List P8) : Gone oc q L L 0 0 := ⟨rfl, fun i hi => by
  cases hx : L[i]? with
  | none => rfl
  | some x =>
    rw [Option.map_some, if_neg (Nat.not_lt_zero _)]
    split
    · rfl
    · rfl⟩
theorem Gone.next {oc : Nat → Nat} {q : P8} {L D : List P8} {k : Nat} (h : Gone oc q L D k 8) : Gone oc q L D (k + 1) 0 := ⟨h.1, fun i hi => by
  rw [h.2 i hi]
  cases hx : L[i]? with
  | none => rfl
  | some x =>
    rw [Option.map_some, Option.map_some]
    congr 1
    by_cases h1 : i < k
    · rw [if_pos h1, if_pos (show i < k + 1 by omega)]
    · by_cases h2 : i = k
      · rw [if_neg h1, if_pos h2, if_pos (show i < k + 1 by omega)]; rfl
      · rw [if_neg h1, if_neg h2, if_neg (show ¬ i < k + 1 by omega)]
        split
        · rfl
        · rfl⟩
theorem Gone.all {oc : Nat → Nat} {q : P8} {L D : List P8} (h : Gone oc q L D L.length 0) : D = L.map (backP oc q) := List.ext_getElem? fun i => by
  by_cases hi : i < L.length
  · rw [h.2 i hi, List.getElem?_map]
    cases L[i]? with
    | none => rfl
    | some x => rw [Option.map_some, Option.map_some, if_pos hi]
  · rw [List.getElem?_eq_none (by rw [h.1]; omega), List.getElem?_eq_none (by rw [List.length_map]; omega)]
theorem Gone.at {oc : Nat → Nat} {q : P8} {L D : List P8} {k f : Nat} (h : Gone oc q L D k f) (hk : k < L.length) : D[k]'(by rw [h.1]; exact hk) = backK oc q f L[k] := by
  have := h.2 k hk
  rw [List.getElem?_eq_getElem hk, List.getElem?_eq_getElem (by rw [h.1]; exact hk), Option.map_some, if_neg (Nat.lt_irrefl _), if_pos rfl] at this
  exact Option.some.inj this
theorem Gone.same {oc : Nat → Nat} {q : P8} {L D : List P8} {k f : Nat} (h : Gone oc q L D k f) (hk : k < L.length) (hf : f < 8) (hv : L[k].get f ≠ (oc f : Int)) : Gone oc q L D k (f + 1) := ⟨h.1, fun i hi => by
  rw [h.2 i hi, List.getElem?_eq_getElem hi, Option.map_some, Option.map_some]
  by_cases h2 : i = k
  · subst h2
    rw [if_neg (Nat.lt_irrefl _), if_neg (Nat.lt_irrefl _), if_pos rfl, if_pos rfl, backK_same oc q _ f hf hv]
  · rw [if_neg h2, if_neg h2]⟩
theorem Gone.put {oc : Nat → Nat} {q : P8} {L D : List P8} {k f : Nat} (h : Gone oc q L D k f) (hk : k < L.length) : Gone oc q L (D.set k (backK oc q (f + 1) L[k])) k (f + 1) := ⟨by rw [List.length_set]; exact h.1, fun i hi => by
  by_cases h2 : i = k
  · subst h2
    rw [List.getElem?_set_self (by rw [h.1]; exact hi), List.getElem?_eq_getElem hi, Option.map_some, if_neg (Nat.lt_irrefl _), if_pos rfl]
  · rw [List.getElem?_set_ne (by omega), h.2 i hi, List.getElem?_eq_getElem hi, Option.map_some, Option.map_some, if_neg h2, if_neg h2]⟩
end Go.Proofs.Ytipiepcbgjceaaa
