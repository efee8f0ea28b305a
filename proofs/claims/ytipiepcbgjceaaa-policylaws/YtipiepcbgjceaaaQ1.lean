/- How pairs lie in memory; what byField answers of two pairs; no conditions. -/
import Derived.Test.YtipiepcbgjceaaaP1
set_option linter.unusedVariables false
set_option linter.unusedSimpArgs false
namespace Go.Proofs.Ytipiepcbgjceaaa
open Go.RowKit Go.Joins

def enc2 (c : Pr) : List Value := [.int .i64 c.1, .int .u16 (c.2 : Int)]
abbrev cv (c : Pr) : Value := .agg #[.int .i64 c.1, .int .u16 (c.2 : Int)]
abbrev cobj (c : Pr) : Obj := .cells #[.int .i64 c.1, .int .u16 (c.2 : Int)] 84
def At2 (w : World) (b o : Nat) (c : Pr) : Prop := w.cell? ⟨b, o, none⟩ = some (.int .i64 c.1) ∧ w.cell? ⟨b, o + 1, none⟩ = some (.int .u16 (c.2 : Int))
theorem At2.cell {w : World} {b o : Nat} {x : Pr} (h : At2 w b o x) : ∀ j, j < 2 → w.cell? ⟨b, o + j, none⟩ = (enc2 x)[j]? := by
  obtain ⟨h0, h1⟩ := h
  intro j hj
  match j, hj with
  | 0, _ => exact h0
  | 1, _ => exact h1
theorem At2.of {w : World} {b o : Nat} {x : Pr} (h : ∀ j, j < 2 → w.cell? ⟨b, o + j, none⟩ = (enc2 x)[j]?) : At2 w b o x := ⟨h 0 (by decide), h 1 (by decide)⟩
theorem At2.same {w w' : World} {b o : Nat} {x : Pr} (h : At2 w b o x) (hb : w'.heap[b]? = w.heap[b]?) : At2 w' b o x :=
  At2.of fun j hj => by rw [World.cell?_of_block (w := w) (w' := w') hb]; exact h.cell j hj
def flat2 (L : List Pr) : List Value := L.flatMap enc2
theorem flat2_append (a b : List Pr) : flat2 (a ++ b) = flat2 a ++ flat2 b := by simp [flat2]
theorem flat2_one (x : Pr) : flat2 [x] = enc2 x := by simp [flat2]
theorem flat2_get : ∀ (L : List Pr) (i : Nat) (h : i < L.length) (j : Nat), j < 2 → (flat2 L)[i * 2 + j]? = (enc2 L[i])[j]?
  | x :: r, 0, _, j, hj => by
    simp only [flat2, List.flatMap_cons]
    rw [List.getElem?_append_left (by rw [show (enc2 x).length = 2 from rfl]; omega)]
    simp
  | x :: r, i + 1, h, j, hj => by
    have := flat2_get r i (by simpa using h) j hj
    simp only [flat2, List.flatMap_cons] at this ⊢
    rw [List.getElem?_append_right (by rw [show (enc2 x).length = 2 from rfl]; omega), show (enc2 x).length = 2 from rfl, show (i + 1) * 2 + j - 2 = i * 2 + j by omega, this]
    rfl
/-- Pairs lie behind a slice. -/
def Prs (w : World) (v : Value) (L : List Pr) : Prop :=
  ∃ sa sc, v = .slice sa L.length sc ∧ ∀ k (hk : k < L.length), ∃ b off, sa = some ⟨b, off, none⟩ ∧ b < w.heap.size ∧ At2 w b (off + k * 2) L[k]
theorem Prs.below {w w' : World} {v : Value} {L : List Pr} (h : Prs w v L) (hB : Below w.heap.size w w') : Prs w' v L := by
  obtain ⟨sa, sc, hv, hc⟩ := h
  refine ⟨sa, sc, hv, fun k hk => ?_⟩
  obtain ⟨b, off, hs, hb, ha⟩ := hc k hk
  exact ⟨b, off, hs, Nat.lt_of_lt_of_le hb hB.size, ha.same (hB.block b hb)⟩
theorem prs_of_own {w : World} {lo : Nat} {v : Value} {L : List Pr} (h : w.ownsRow lo 84 2 v L.length (flat2 L)) : Prs w v L := by
  rcases h.2 with ⟨hv, hn⟩ | ⟨g, cap, cur, hv, hB, hgg, hcap, hmax, hsz, htk⟩
  · have : L = [] := List.length_eq_zero_iff.1 hn
    subst this
    exact ⟨none, 0, hv, fun k hk => by simp at hk⟩
  · refine ⟨_, cap, hv, fun k hk => ⟨g, 0, rfl, heap_lt hgg, At2.of fun j hj => ?_⟩⟩
    rw [cell_of_row _ _ _ _ _ _ hgg]
    have hlt : k * 2 + j < L.length * 2 := by omega
    have := flat2_get L k hk j hj
    rw [← htk, List.getElem?_take_of_lt hlt, Array.getElem?_toList] at this
    rw [show 0 + k * 2 + j = k * 2 + j by omega]
    exact this
theorem enc2_one (x : Pr) : ∀ u ∈ enc2 x, u.oneCell' = true := by
  intro u hu
  simp [enc2] at hu
  rcases hu with rfl | rfl <;> rfl

/-- How two numbers stand to each other. -/
def cmpI (a b : Int) : Int := if a < b then -1 else if b < a then 1 else 0
end Go.Proofs.Ytipiepcbgjceaaa
