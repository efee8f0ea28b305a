/- Rows of tables in memory, as they are handed in: pairs, acts, rows; what one that matches makes; no conditions. -/
import Derived.Test.YtbcikkofbdfmaaaX1
import Derived.Test.YtbcikkofbdfmaaaS3
set_option linter.unusedVariables false
set_option linter.unusedSimpArgs false
namespace Go.Proofs.Ytbcikkofbdfmaaa
open Go.RowKit Go.Joins Go.Sort

abbrev Prs := List (Int × Int)
/-- A row: what it asks, and its acts. -/
structure Rx where
  m : Prs
  a : List Prs
theorem PairsAny.form {w : World} {v : Value} {L : Prs} (h : PairsAny w v L) : ∃ sa sc, v = .slice sa L.length sc ∧ L.length ≤ 9223372036854775807 ∧ ∀ k (hk : k < L.length), ∃ b off, sa = some ⟨b, off, none⟩ ∧ b < w.heap.size ∧ w.cell? ⟨b, off + k * 2, none⟩ = some (.int .i64 L[k].1) ∧ w.cell? ⟨b, off + k * 2 + 1, none⟩ = some (.int .u16 L[k].2) := by
  rcases h with ⟨b, off, cap, rfl, hb, hL, hc⟩ | ⟨rfl, a, cap, rfl⟩
  · exact ⟨_, cap, rfl, hL, fun k hk => ⟨b, off, rfl, hb, (hc k hk).1, (hc k hk).2⟩⟩
  · exact ⟨a, cap, rfl, by simp, fun k hk => by simp at hk⟩
/-- Acts lie behind a slice. -/
def ActsAt (w : World) (v : Value) (L : List Prs) : Prop :=
  ∃ sa sc, v = .slice sa L.length sc ∧ L.length ≤ 9223372036854775807 ∧ ∀ k (hk : k < L.length), ∃ b off, sa = some ⟨b, off, none⟩ ∧ b < w.heap.size ∧ ∃ u, w.cell? ⟨b, off + k, none⟩ = some u ∧ PairsAny w u L[k]
/-- A row lies there. -/
def RowAt (w : World) (x y : Value) (r : Rx) : Prop := PairsAny w x r.m ∧ ActsAt w y r.a
/-- Rows lie behind a slice. -/
def RowsAt (w : World) (v : Value) (L : List Rx) : Prop :=
  ∃ sa sc, v = .slice sa L.length sc ∧ L.length ≤ 9223372036854775807 ∧ (L.length ≤ sc ∧ sc ≤ 9223372036854775807) ∧ ∀ k (hk : k < L.length), ∃ b off, sa = some ⟨b, off, none⟩ ∧ b < w.heap.size ∧ ∃ x y, w.cell? ⟨b, off + k * 2, none⟩ = some x ∧ w.cell? ⟨b, off + k * 2 + 1, none⟩ = some y ∧ RowAt w x y L[k]
theorem ActsAt.below {w w' : World} {v : Value} {L : List Prs} (h : ActsAt w v L) (hb : Below w.heap.size w w') : ActsAt w' v L := by
  obtain ⟨sa, sc, e, hl, hc⟩ := h
  refine ⟨sa, sc, e, hl, fun k hk => ?_⟩
  obtain ⟨b, off, e1, h1, u, h2, h3⟩ := hc k hk
  exact ⟨b, off, e1, Nat.lt_of_lt_of_le h1 hb.size, u, (hb.cell (p := ⟨b, off + k, none⟩) h1).trans h2, h3.below hb⟩
theorem RowAt.below {w w' : World} {x y : Value} {r : Rx} (h : RowAt w x y r) (hb : Below w.heap.size w w') : RowAt w' x y r := ⟨h.1.below hb, h.2.below hb⟩
theorem RowsAt.below {w w' : World} {v : Value} {L : List Rx} (h : RowsAt w v L) (hb : Below w.heap.size w w') : RowsAt w' v L := by
  obtain ⟨sa, sc, e, hl, hcap, hc⟩ := h
  refine ⟨sa, sc, e, hl, hcap, fun k hk => ?_⟩
  obtain ⟨b, off, e1, h1, x, y, h2, h3, h4⟩ := hc k hk
  exact ⟨b, off, e1, Nat.lt_of_lt_of_le h1 hb.size, x, y, (hb.cell (p := ⟨b, off + k * 2, none⟩) h1).trans h2, (hb.cell (p := ⟨b, off + k * 2 + 1, none⟩) h1).trans h3, h4.below hb⟩
/-- Rows from a place on, some of them. -/
theorem RowsAt.sub {w : World} {b off n sc : Nat} {L : List Rx} (h : RowsAt w (.slice (some ⟨b, off, none⟩) n sc) L) (lo m : Nat) (hm : lo + m ≤ L.length) : RowsAt w (.slice (some ⟨b, off + lo * 2, none⟩) m (sc - lo)) ((L.drop lo).take m) := by
  obtain ⟨sa, sc', e, hl, ⟨hc1, hc2⟩, hc⟩ := h
  injection e with e1 e2 e3
  subst e1 e2 e3
  have hlen : ((L.drop lo).take m).length = m := by simp; omega
  refine ⟨_, _, by rw [hlen], by omega, ⟨by omega, by omega⟩, fun k hk => ?_⟩
  rw [hlen] at hk
  obtain ⟨b', off', e, h1, x, y, h2, h3, h4⟩ := hc (lo + k) (by omega)
  injection e with e
  injection e with e1 e2 _
  subst e1 e2
  refine ⟨b, off + lo * 2, rfl, h1, x, y, ?_, ?_, ?_⟩
  · rw [show off + lo * 2 + k * 2 = off + (lo + k) * 2 by omega]; exact h2
  · rw [show off + lo * 2 + k * 2 + 1 = off + (lo + k) * 2 + 1 by omega]; exact h3
  · have : ((L.drop lo).take m)[k]'(by rw [hlen]; exact hk) = L[lo + k]'(by omega) := by simp
    rw [this]; exact h4
theorem puts_len : ∀ (L : Prs) (l : List Int), (puts l L).length = l.length
  | [], l => rfl
  | c :: L, l => by
    unfold puts
    rw [List.foldl_cons]
    have := puts_len L (put l c.1 c.2)
    unfold puts at this
    rw [this, put_length]
/-- What an act makes of a packet. -/
def doP (q : P8) (L : Prs) : P8 := let l := puts q.l L; ⟨l.getD 0 0, l.getD 1 0, l.getD 2 0, l.getD 3 0, l.getD 4 0, l.getD 5 0, l.getD 6 0, l.getD 7 0⟩
theorem doP_l (q : P8) (L : Prs) : (doP q L).l = puts q.l L := by
  have h : (puts q.l L).length = 8 := by rw [puts_len]; rfl
  obtain ⟨a0, a1, a2, a3, a4, a5, a6, a7, e⟩ := eight h
  unfold doP
  rw [e]
  rfl
theorem do_v (q : P8) (w : World) (v : Value) (L : Prs) (h : PairsAny w v L) : Calls Try.prog 48 #[q.v, v] w fun e w' => e = .returned (doP q L).v ∧ Below w.heap.size w w' :=
  do_every q.a0 q.a1 q.a2 q.a3 q.a4 q.a5 q.a6 q.a7 (doP q L).a0 (doP q L).a1 (doP q L).a2 (doP q L).a3 (doP q L).a4 (doP q L).a5 (doP q L).a6 (doP q L).a7 w v L h (doP_l q L).symm
theorem rdo_v (q : P8) (w : World) (v : Value) (L : Prs) (h : PairsAny w v L) : Calls Try.prog 42 #[q.v, v] w fun e w' => e = .returned (doP q L).v ∧ Below w.heap.size w w' :=
  rdo_every q.a0 q.a1 q.a2 q.a3 q.a4 q.a5 q.a6 q.a7 (doP q L).a0 (doP q L).a1 (doP q L).a2 (doP q L).a3 (doP q L).a4 (doP q L).a5 (doP q L).a6 (doP q L).a7 w v L h (doP_l q L).symm
theorem has_v (q : P8) (w : World) (v : Value) (L : Prs) (h : PairsAny w v L) : Calls Try.prog 39 #[q.v, v] w fun e w' => e = .returned (.bool (hasAll q.l L)) ∧ Below w.heap.size w w' :=
  has_every q.a0 q.a1 q.a2 q.a3 q.a4 q.a5 q.a6 q.a7 w v L h
theorem rhas_v (q : P8) (w : World) (v : Value) (L : Prs) (h : PairsAny w v L) : Calls Try.prog 29 #[q.v, v] w fun e w' => e = .returned (.bool (hasAll q.l L)) ∧ Below w.heap.size w w' :=
  rhas_every q.a0 q.a1 q.a2 q.a3 q.a4 q.a5 q.a6 q.a7 w v L h
/-- What a row's acts make, in order, each once. -/
def madeL (q : P8) (a : List Prs) : List P8 := sortL (a.map (doP q))
/-- The first row that a packet matches. -/
def lookK (q : P8) (L : List Rx) : Option Nat := L.findIdx? fun r => hasAll q.l r.m
def lookI (q : P8) (L : List Rx) : Int := match lookK q L with | some k => (k : Int) | none => -1
def lookL (q : P8) (L : List Rx) : List P8 := match lookK q L with | some k => madeL q ((L.map Rx.a).getD k []) | none => []
theorem lookK_hit (q : P8) (L : List Rx) (k : Nat) (h : k < L.length) (hn : ∀ j (hj : j < k), hasAll q.l (L[j]'(by omega)).m = false) (hk : hasAll q.l L[k].m = true) : lookK q L = some k := by
  unfold lookK
  rw [List.findIdx?_eq_some_iff_getElem]
  exact ⟨h, hk, fun j hj => by rw [hn j hj]; simp⟩
theorem lookK_miss (q : P8) (L : List Rx) (hn : ∀ j (hj : j < L.length), hasAll q.l L[j].m = false) : lookK q L = none := by
  unfold lookK
  rw [List.findIdx?_eq_none_iff]
  intro r hr
  obtain ⟨j, hj, rfl⟩ := List.getElem_of_mem hr
  exact hn j hj
end Go.Proofs.Ytbcikkofbdfmaaa
