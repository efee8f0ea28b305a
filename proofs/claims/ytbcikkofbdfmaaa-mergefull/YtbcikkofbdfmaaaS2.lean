/- How a list of packets lies in memory, and what the document's Same answers at two lists of the same packets; no conditions of mine but what each contract states. -/
import Derived.Test.YtbcikkofbdfmaaaS1
import Derived.Lib.QuietBelow
set_option linter.unusedVariables false
set_option linter.unusedSimpArgs false
namespace Go.Proofs.Ytbcikkofbdfmaaa
open Go.RowKit Go.Joins Go.Sort

/-- A packet's cells lie there. -/
def At8 (w : World) (b o : Nat) (x : P8) : Prop :=
  w.cell? ⟨b, o, none⟩ = some (.int .u16 x.a0) ∧ w.cell? ⟨b, o + 1, none⟩ = some (.int .u16 x.a1) ∧ w.cell? ⟨b, o + 2, none⟩ = some (.int .u16 x.a2) ∧ w.cell? ⟨b, o + 3, none⟩ = some (.int .u16 x.a3) ∧ w.cell? ⟨b, o + 4, none⟩ = some (.int .u16 x.a4) ∧ w.cell? ⟨b, o + 5, none⟩ = some (.int .u16 x.a5) ∧ w.cell? ⟨b, o + 6, none⟩ = some (.int .u16 x.a6) ∧ w.cell? ⟨b, o + 7, none⟩ = some (.int .u16 x.a7)
theorem At8.cell {w : World} {b o : Nat} {x : P8} (h : At8 w b o x) : ∀ j, j < 8 → w.cell? ⟨b, o + j, none⟩ = (enc8 x)[j]? := by
  obtain ⟨h0, h1, h2, h3, h4, h5, h6, h7⟩ := h
  intro j hj
  match j, hj with
  | 0, _ => exact h0
  | 1, _ => exact h1
  | 2, _ => exact h2
  | 3, _ => exact h3
  | 4, _ => exact h4
  | 5, _ => exact h5
  | 6, _ => exact h6
  | 7, _ => exact h7
theorem At8.of {w : World} {b o : Nat} {x : P8} (h : ∀ j, j < 8 → w.cell? ⟨b, o + j, none⟩ = (enc8 x)[j]?) : At8 w b o x :=
  ⟨h 0 (by decide), h 1 (by decide), h 2 (by decide), h 3 (by decide), h 4 (by decide), h 5 (by decide), h 6 (by decide), h 7 (by decide)⟩
theorem At8.lt {w : World} {b o : Nat} {x : P8} (h : At8 w b o x) : b < w.heap.size := block_lt_of_cell h.1
theorem At8.below {w w' : World} {b o B : Nat} {x : P8} (h : At8 w b o x) (hB : Below B w w') (hb : b < B) : At8 w' b o x :=
  At8.of fun j hj => by rw [hB.cell (p := ⟨b, o + j, none⟩) hb]; exact h.cell j hj

/-- Packets lie behind a slice. -/
def Pks (w : World) (v : Value) (L : List P8) : Prop :=
  (∃ b off cap, v = .slice (some ⟨b, off, none⟩) L.length cap ∧ b < w.heap.size ∧ ∀ i (h : i < L.length), At8 w b (off + i * 8) L[i]) ∨ (L = [] ∧ ∃ a c, v = .slice a 0 c)
theorem Pks.below {w w' : World} {v : Value} {L : List P8} (h : Pks w v L) (hB : Below w.heap.size w w') : Pks w' v L := by
  rcases h with ⟨b, off, cap, hv, hb, hc⟩ | h
  · exact .inl ⟨b, off, cap, hv, Nat.lt_of_lt_of_le hb hB.size, fun i hi => (hc i hi).below hB hb⟩
  · exact .inr h

/-- The cells of packets, one behind the other. -/
def flat8 (L : List P8) : List Value := L.flatMap enc8
theorem flat8_append (a b : List P8) : flat8 (a ++ b) = flat8 a ++ flat8 b := by simp [flat8]
theorem flat8_length : ∀ L : List P8, (flat8 L).length = L.length * 8
  | [] => rfl
  | x :: r => by
    have := flat8_length r
    simp only [flat8, List.flatMap_cons, List.length_append, List.length_cons] at this ⊢
    rw [this, show (enc8 x).length = 8 from rfl]; omega
theorem flat8_get : ∀ (L : List P8) (i : Nat) (h : i < L.length) (j : Nat), j < 8 → (flat8 L)[i * 8 + j]? = (enc8 L[i])[j]?
  | x :: r, 0, _, j, hj => by
    simp only [flat8, List.flatMap_cons]
    rw [List.getElem?_append_left (by rw [show (enc8 x).length = 8 from rfl]; omega)]
    simp
  | x :: r, i + 1, h, j, hj => by
    have := flat8_get r i (by simpa using h) j hj
    simp only [flat8, List.flatMap_cons] at this ⊢
    rw [List.getElem?_append_right (by rw [show (enc8 x).length = 8 from rfl]; omega), show (enc8 x).length = 8 from rfl, show (i + 1) * 8 + j - 8 = i * 8 + j by omega, this]
    rfl
theorem own_at {w : World} {B g n cap : Nat} {cur : Array Value} {L : List P8} (hgg : w.heap[g]? = some (.cells cur 25 (0, 0))) (hl : L.length = n) (htk : cur.toList.take (n * 8) = flat8 L) : ∀ i (h : i < L.length), At8 w g (0 + i * 8) L[i] := by
  subst hl
  intro i hi
  refine At8.of fun j hj => ?_
  rw [cell_of_row _ _ _ _ _ _ hgg]
  have hlt : i * 8 + j < L.length * 8 := by omega
  have := flat8_get L i hi j hj
  rw [← htk, List.getElem?_take_of_lt hlt, Array.getElem?_toList] at this
  rw [show 0 + i * 8 + j = i * 8 + j by omega]
  exact this
theorem pks_of_own {w : World} {B : Nat} {v : Value} {L : List P8} (h : w.ownsRow B 25 8 v L.length (flat8 L)) : Pks w v L := by
  rcases h.2 with ⟨hv, hn⟩ | ⟨g, cap, cur, hv, hB, hgg, hcap, hmax, hsz, htk⟩
  · exact .inr ⟨List.length_eq_zero_iff.1 hn, none, 0, hv⟩
  · exact .inl ⟨g, 0, cap, hv, (Array.getElem?_eq_some_iff.1 hgg).1, own_at (B := B) (cap := cap) hgg rfl htk⟩

theorem eqlP (x : P8) (w : World) : (Op.equalIn 10000 25 x.v x.v).run Try.prog w = .ok true w := by
  rw [eql8, same8_self]
theorem Pks.nil {w : World} {v : Value} (h : Pks w v []) : ∃ a c, v = .slice a 0 c := by
  rcases h with ⟨b, off, cap, hv, _⟩ | ⟨_, h⟩
  · exact ⟨_, _, hv⟩
  · exact h
theorem Pks.ne {w : World} {v : Value} {L : List P8} (h : Pks w v L) (hL : L ≠ []) : ∃ b off cap, v = .slice (some ⟨b, off, none⟩) L.length cap ∧ b < w.heap.size ∧ ∀ i (h : i < L.length), At8 w b (off + i * 8) L[i] := by
  rcases h with h | ⟨h, _⟩
  · exact h
  · exact absurd h hL

set_option maxRecDepth 100000 in
set_option maxHeartbeats 400000 in
theorem same25 (v1 v2 : Value) (L : List P8) (hlen : L.length ≤ 1000) (w : World) (h1 : Pks w v1 L) (h2 : Pks w v2 L) :
    Calls Try.prog 14 #[v1, v2] w fun e w' => e = .returned (.bool true) ∧ Below w.heap.size w w' := by
  by_cases hL : L = []
  · subst hL
    obtain ⟨a1, c1, rfl⟩ := h1.nil
    obtain ⟨a2, c2, rfl⟩ := h2.nil
    clear h1 h2
    go_enter Try.func14, Try.ntmps14
    go_wp2
    go_loopw [5] (fun i wr => i = .int .i64 0 ∧ Hid (wr = w)) (fun i _ => 0)
    case atStart => exact ⟨rfl, rfl⟩
    case round =>
      obtain ⟨rfl, HW⟩ := hrel
      go_wp2
      go_ret
      exact ⟨rfl, by rw [HW.out]; exact Below.refl _ _⟩
  · obtain ⟨b1, o1, c1, rfl, hb1, hc1⟩ := h1.ne hL
    obtain ⟨b2, o2, c2, rfl, hb2, hc2⟩ := h2.ne hL
    clear h1 h2
    have hne : ((L.length : Int) != (L.length : Int)) = false := by simp
    go_enter Try.func14, Try.ntmps14
    go_wp2
    go_loopw [5] (fun i wr => ∃ k : Nat, k ≤ L.length ∧ i = .int .i64 k ∧ Hid (Below w.heap.size w wr)) (fun i _ => L.length - (intOf i).toNat)
    case atStart => exact ⟨0, Nat.zero_le _, rfl, Below.refl _ _⟩
    case round =>
      obtain ⟨k, hk, rfl, HB⟩ := hrel
      by_cases hlt : k < L.length
      · obtain ⟨p0, p1, p2, p3, p4, p5, p6, p7⟩ := (hc1 k hlt).below HB.out hb1
        obtain ⟨q0, q1, q2, q3, q4, q5, q6, q7⟩ := (hc2 k hlt).below HB.out hb2
        generalize L[k] = x at *
        have e := eqlP x
        unfold P8.v at e
        clear hc1 hc2
        go_wp2
        go_quiet (fail)
        go_wp2
        refine ⟨⟨k + 1, by omega, by go_num, below_drewN HB.out _⟩, by simp [intOf]; omega⟩
      · have hkl : k = L.length := by omega
        subst hkl
        clear hc1 hc2
        go_wp2
        go_ret
        exact ⟨rfl, HB.out⟩
end Go.Proofs.Ytbcikkofbdfmaaa
