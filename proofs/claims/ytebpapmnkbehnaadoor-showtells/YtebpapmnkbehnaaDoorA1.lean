/- What lex.isBlank, lex.isInLine and lex.isDigit answer of a code point, and what lex.span answers of a row of code points, whatever the test is; no conditions but a code point's range. -/
import Derived.Test.YtebpapmnkbehnaaDoorProg
import Derived.Test.YtebpapmnkbehnaaDoorM2
import Derived.WalkKit
import Derived.WalkSpells
import Derived.WalkLawsBesides
import Derived.Lib.OthersKept
import Derived.Lib.SmallJoins
import Derived.Lib.QuietBelow
import Derived.Deep.RegionWith
import Derived.Deep.QuietTactic
import Derived.BigQuiet
set_option linter.unusedVariables false
set_option linter.unusedSimpArgs false
namespace Go.Proofs.YtebpapmnkbehnaaDoor
open Go.RowKit

/-- A text as a value. -/
abbrev str (l : List UInt8) : Value := .string ⟨l.toArray⟩
theorem size_mk (l : List UInt8) : (ByteArray.mk l.toArray).size = l.length := by simp [ByteArray.size]

theorem bool_ret {a b : Bool} (h : a = b) : Ending.returned (.bool a) = .returned (.bool b) := by rw [h]

/-- What is asked of a test: at every later world and every code point it answers p; whatever lay, lies. -/
def Test (g : Nat) (p : Nat → Bool) (w : World) : Prop :=
  ∀ (W : World) (x : Nat), x ≤ 1114111 → Below w.heap.size w W → Calls Tryd.prog g #[.int .i32 (x : Int)] W fun e w' => e = .returned (.bool (p x)) ∧ Below W.heap.size W w'
theorem Test.of {g : Nat} {p : Nat → Bool} (h : ∀ (r : Nat) (w : World), Calls Tryd.prog g #[.int .i32 (r : Int)] w fun e w' => e = .returned (.bool (p r)) ∧ w' = w) (w : World) : Test g p w :=
  fun W x _ _ => (h x W).mono fun _ _ ⟨he, hw⟩ => ⟨he, by rw [hw]; exact Below.refl _ _⟩

/-- What the decoder hands back at a code point within a text. -/
theorem decode_mid (A : List UInt8) (x : R) (t : List R) (h : good x) : Utf8.decode ⟨(A ++ fl (x :: t)).toArray⟩ A.length = (x.1, x.2.length) := by
  rw [← Lib.decodeL_drop]
  show Lib.decodeL ((A ++ fl (x :: t)).drop A.length) = _
  rw [List.drop_left, fl_cons, h.2.2]

end Go.Proofs.YtebpapmnkbehnaaDoor
/- How a list of tokens lies in memory. -/
set_option linter.unusedVariables false
set_option linter.unusedSimpArgs false
namespace Go.Proofs.YtebpapmnkbehnaaDoor
open Go.RowKit Go.Joins

theorem heap_lt {w : World} {g : Nat} {o : Obj} (h : w.heap[g]? = some o) : g < w.heap.size := (Array.getElem?_eq_some_iff.1 h).1
theorem below_drewN {B : Nat} {a w : World} (h : Below B a w) (n : Nat) : Below B a (w.drewN n) := h.trans ⟨rfl, rfl, rfl, Nat.le_refl _, fun _ _ => rfl⟩
theorem own_below {w w' : World} {B e size n : Nat} {v : Value} {xs : List Value} (h : w.ownsRow B e size v n xs) (hb : Below w.heap.size w w') : w'.ownsRow B e size v n xs := by
  refine ⟨h.1, ?_⟩
  rcases h.2 with hn | ⟨g, cap, cur, rfl, hg, hgg, rest⟩
  · exact .inl hn
  · exact .inr ⟨g, cap, cur, rfl, hg, by rw [hb.block g (Array.getElem?_eq_some_iff.1 hgg).1]; exact hgg, rest⟩

/-- A token's cells. -/
def enc3 (t : Tk) : List Value := [.int .i64 t.kind, str t.s, .int .u16 (t.n : Int)]
/-- A token as a value. -/
abbrev tv (t : Tk) : Value := .agg #[.int .i64 t.kind, str t.s, .int .u16 (t.n : Int)]
/-- A token's cells lie there. -/
def At3 (w : World) (b o : Nat) (t : Tk) : Prop :=
  w.cell? ⟨b, o, none⟩ = some (.int .i64 t.kind) ∧ w.cell? ⟨b, o + 1, none⟩ = some (str t.s) ∧ w.cell? ⟨b, o + 2, none⟩ = some (.int .u16 (t.n : Int))
theorem At3.cell {w : World} {b o : Nat} {x : Tk} (h : At3 w b o x) : ∀ j, j < 3 → w.cell? ⟨b, o + j, none⟩ = (enc3 x)[j]? := by
  obtain ⟨h0, h1, h2⟩ := h
  intro j hj
  match j, hj with
  | 0, _ => exact h0
  | 1, _ => exact h1
  | 2, _ => exact h2
theorem At3.of {w : World} {b o : Nat} {x : Tk} (h : ∀ j, j < 3 → w.cell? ⟨b, o + j, none⟩ = (enc3 x)[j]?) : At3 w b o x :=
  ⟨h 0 (by decide), h 1 (by decide), h 2 (by decide)⟩
theorem At3.below {w w' : World} {b o B : Nat} {x : Tk} (h : At3 w b o x) (hB : Below B w w') (hb : b < B) : At3 w' b o x :=
  At3.of fun j hj => by rw [hB.cell (p := ⟨b, o + j, none⟩) hb]; exact h.cell j hj

/-- Tokens lie behind a slice. -/
def Tks (w : World) (v : Value) (L : List Tk) : Prop :=
  ∃ sa sc, v = .slice sa L.length sc ∧ ∀ k (hk : k < L.length), ∃ b off, sa = some ⟨b, off, none⟩ ∧ b < w.heap.size ∧ At3 w b (off + k * 3) L[k]
theorem Tks.below {w w' : World} {v : Value} {L : List Tk} (h : Tks w v L) (hB : Below w.heap.size w w') : Tks w' v L := by
  obtain ⟨sa, sc, hv, hc⟩ := h
  refine ⟨sa, sc, hv, fun k hk => ?_⟩
  obtain ⟨b, off, hs, hb, ha⟩ := hc k hk
  exact ⟨b, off, hs, Nat.lt_of_lt_of_le hb hB.size, ha.below hB hb⟩
theorem Tks.nil (w : World) : Tks w (.slice none 0 0) [] := ⟨none, 0, rfl, fun k hk => by simp at hk⟩

/-- The cells of tokens, one behind the other. -/
def flat3 (L : List Tk) : List Value := L.flatMap enc3
theorem flat3_append (a b : List Tk) : flat3 (a ++ b) = flat3 a ++ flat3 b := by simp [flat3]
theorem flat3_length : ∀ L : List Tk, (flat3 L).length = L.length * 3
  | [] => rfl
  | x :: r => by
    have := flat3_length r
    simp only [flat3, List.flatMap_cons, List.length_append, List.length_cons] at this ⊢
    rw [this, show (enc3 x).length = 3 from rfl]; omega
theorem flat3_get : ∀ (L : List Tk) (i : Nat) (h : i < L.length) (j : Nat), j < 3 → (flat3 L)[i * 3 + j]? = (enc3 L[i])[j]?
  | x :: r, 0, _, j, hj => by
    simp only [flat3, List.flatMap_cons]
    rw [List.getElem?_append_left (by rw [show (enc3 x).length = 3 from rfl]; omega)]
    simp
  | x :: r, i + 1, h, j, hj => by
    have := flat3_get r i (by simpa using h) j hj
    simp only [flat3, List.flatMap_cons] at this ⊢
    rw [List.getElem?_append_right (by rw [show (enc3 x).length = 3 from rfl]; omega), show (enc3 x).length = 3 from rfl, show (i + 1) * 3 + j - 3 = i * 3 + j by omega, this]
    rfl
theorem cell_new3 (w : World) (vs : List Value) (t : TypeId) : ∀ j u, vs[j]? = some u → (w.alloc (.cells vs.toArray t)).cell? ((⟨w.heap.size, 0, none⟩ : Addr).add j) = some u := by
  intro j u hj
  rw [show (⟨w.heap.size, 0, none⟩ : Addr).add j = ⟨w.heap.size, j, none⟩ by unfold Addr.add; split <;> simp_all, cell_of_row _ _ _ _ _ _ (heap_alloc_new w (.cells vs.toArray t))]
  simpa using hj
theorem enc3_one (x : Tk) : ∀ u ∈ enc3 x, u.oneCell' = true := by
  intro u hu
  simp [enc3] at hu
  rcases hu with rfl | rfl | rfl <;> rfl
theorem flat3_one (L : List Tk) : ∀ u ∈ flat3 L, u.oneCell' = true := by
  intro u hu
  obtain ⟨x, _, hx⟩ := List.mem_flatMap.1 hu
  exact enc3_one x u hx
theorem wr64 (z : Int) (h0 : 0 ≤ z) (h1 : z ≤ 9223372036854775807) : IntKind.i64.wrap z = z := by
  simp [IntKind.wrap, IntKind.signed, IntKind.bits]; omega
theorem wr8 (z : Int) (h0 : 0 ≤ z) (h1 : z ≤ 255) : IntKind.u8.wrap z = z := by
  simp [IntKind.wrap, IntKind.signed, IntKind.bits]; omega
theorem lt_alloc (w : World) (o : Obj) : w.heap.size < ((w.alloc o).drew).heap.size := by simp
end Go.Proofs.YtebpapmnkbehnaaDoor
/- What packet.Field answers of a text; the fields' names as they lie. -/
set_option linter.unusedVariables false
set_option linter.unusedSimpArgs false
namespace Go.Proofs.YtebpapmnkbehnaaDoor
open Go.RowKit

structure NamesIs (w : World) : Prop where
  c0 : w.cell? ⟨0, 0, none⟩ = some (.string ⟨#[115, 119]⟩)
  c1 : w.cell? ⟨0, 1, none⟩ = some (.string ⟨#[112, 116]⟩)
  c2 : w.cell? ⟨0, 2, none⟩ = some (.string ⟨#[115, 114, 99]⟩)
  c3 : w.cell? ⟨0, 3, none⟩ = some (.string ⟨#[100, 115, 116]⟩)
  c4 : w.cell? ⟨0, 4, none⟩ = some (.string ⟨#[116, 121, 112]⟩)
  c5 : w.cell? ⟨0, 5, none⟩ = some (.string ⟨#[115, 118, 99]⟩)
  c6 : w.cell? ⟨0, 6, none⟩ = some (.string ⟨#[118, 105, 100]⟩)
  c7 : w.cell? ⟨0, 7, none⟩ = some (.string ⟨#[111, 112, 116]⟩)

/-- The fields' names, and the field of a name. -/
def nm8 : List (List UInt8) := [[115, 119], [112, 116], [115, 114, 99], [100, 115, 116], [116, 121, 112], [115, 118, 99], [118, 105, 100], [111, 112, 116]] 
def fieldOf (l : List UInt8) : Option Nat := nm8.findIdx? fun x => x == l
def fldI (l : List UInt8) : Int := ((fieldOf l).getD 0 : Nat)
def fldB (l : List UInt8) : Bool := (fieldOf l).isSome
theorem fieldOf_hit (l : List UInt8) (k : Nat) (h8 : k < 8) (hk : (nm8.getD k [] == l) = true) (hj : ∀ j, j < k → (nm8.getD j [] == l) = false) : fieldOf l = some k := by
  have h8' : k < nm8.length := h8
  unfold fieldOf
  rw [List.findIdx?_eq_some_iff_getElem]
  refine ⟨h8', ?_, fun j hjk => ?_⟩
  · simpa [List.getD_eq_getElem?_getD, List.getElem?_eq_getElem h8'] using hk
  · have := hj j hjk
    simpa [List.getD_eq_getElem?_getD, List.getElem?_eq_getElem (show j < nm8.length by omega)] using this
theorem fieldOf_miss (l : List UInt8) (hj : ∀ j, j < 8 → (nm8.getD j [] == l) = false) : fieldOf l = none := by
  unfold fieldOf
  rw [List.findIdx?_eq_none_iff]
  intro x hx
  obtain ⟨j, hlt, rfl⟩ := List.mem_iff_getElem.1 hx
  have := hj j hlt
  simpa [List.getD_eq_getElem?_getD, List.getElem?_eq_getElem hlt] using this
theorem more {P : Nat → Prop} {k : Nat} (h : ∀ j, j < k → P j) (hk : P k) : ∀ j, j < k + 1 → P j := by
  intro j hj
  by_cases e : j = k
  · subst e; exact hk
  · exact h j (by omega)
theorem ix0 (w : World) : (Instr.index 83 (.agg #[.string ⟨#[115, 119]⟩, .string ⟨#[112, 116]⟩, .string ⟨#[115, 114, 99]⟩, .string ⟨#[100, 115, 116]⟩, .string ⟨#[116, 121, 112]⟩, .string ⟨#[115, 118, 99]⟩, .string ⟨#[118, 105, 100]⟩, .string ⟨#[111, 112, 116]⟩]) (.int .i64 0)).run Tryd.prog w = .ok (.string ⟨#[115, 119]⟩) w := by kernel_rfl
theorem ix1 (w : World) : (Instr.index 83 (.agg #[.string ⟨#[115, 119]⟩, .string ⟨#[112, 116]⟩, .string ⟨#[115, 114, 99]⟩, .string ⟨#[100, 115, 116]⟩, .string ⟨#[116, 121, 112]⟩, .string ⟨#[115, 118, 99]⟩, .string ⟨#[118, 105, 100]⟩, .string ⟨#[111, 112, 116]⟩]) (.int .i64 1)).run Tryd.prog w = .ok (.string ⟨#[112, 116]⟩) w := by kernel_rfl
theorem ix2 (w : World) : (Instr.index 83 (.agg #[.string ⟨#[115, 119]⟩, .string ⟨#[112, 116]⟩, .string ⟨#[115, 114, 99]⟩, .string ⟨#[100, 115, 116]⟩, .string ⟨#[116, 121, 112]⟩, .string ⟨#[115, 118, 99]⟩, .string ⟨#[118, 105, 100]⟩, .string ⟨#[111, 112, 116]⟩]) (.int .i64 2)).run Tryd.prog w = .ok (.string ⟨#[115, 114, 99]⟩) w := by kernel_rfl
theorem ix3 (w : World) : (Instr.index 83 (.agg #[.string ⟨#[115, 119]⟩, .string ⟨#[112, 116]⟩, .string ⟨#[115, 114, 99]⟩, .string ⟨#[100, 115, 116]⟩, .string ⟨#[116, 121, 112]⟩, .string ⟨#[115, 118, 99]⟩, .string ⟨#[118, 105, 100]⟩, .string ⟨#[111, 112, 116]⟩]) (.int .i64 3)).run Tryd.prog w = .ok (.string ⟨#[100, 115, 116]⟩) w := by kernel_rfl
theorem ix4 (w : World) : (Instr.index 83 (.agg #[.string ⟨#[115, 119]⟩, .string ⟨#[112, 116]⟩, .string ⟨#[115, 114, 99]⟩, .string ⟨#[100, 115, 116]⟩, .string ⟨#[116, 121, 112]⟩, .string ⟨#[115, 118, 99]⟩, .string ⟨#[118, 105, 100]⟩, .string ⟨#[111, 112, 116]⟩]) (.int .i64 4)).run Tryd.prog w = .ok (.string ⟨#[116, 121, 112]⟩) w := by kernel_rfl
theorem ix5 (w : World) : (Instr.index 83 (.agg #[.string ⟨#[115, 119]⟩, .string ⟨#[112, 116]⟩, .string ⟨#[115, 114, 99]⟩, .string ⟨#[100, 115, 116]⟩, .string ⟨#[116, 121, 112]⟩, .string ⟨#[115, 118, 99]⟩, .string ⟨#[118, 105, 100]⟩, .string ⟨#[111, 112, 116]⟩]) (.int .i64 5)).run Tryd.prog w = .ok (.string ⟨#[115, 118, 99]⟩) w := by kernel_rfl
theorem ix6 (w : World) : (Instr.index 83 (.agg #[.string ⟨#[115, 119]⟩, .string ⟨#[112, 116]⟩, .string ⟨#[115, 114, 99]⟩, .string ⟨#[100, 115, 116]⟩, .string ⟨#[116, 121, 112]⟩, .string ⟨#[115, 118, 99]⟩, .string ⟨#[118, 105, 100]⟩, .string ⟨#[111, 112, 116]⟩]) (.int .i64 6)).run Tryd.prog w = .ok (.string ⟨#[118, 105, 100]⟩) w := by kernel_rfl
theorem ix7 (w : World) : (Instr.index 83 (.agg #[.string ⟨#[115, 119]⟩, .string ⟨#[112, 116]⟩, .string ⟨#[115, 114, 99]⟩, .string ⟨#[100, 115, 116]⟩, .string ⟨#[116, 121, 112]⟩, .string ⟨#[115, 118, 99]⟩, .string ⟨#[118, 105, 100]⟩, .string ⟨#[111, 112, 116]⟩]) (.int .i64 7)).run Tryd.prog w = .ok (.string ⟨#[111, 112, 116]⟩) w := by kernel_rfl

theorem NamesIs.below {w w' : World} (h : NamesIs w) (hb : Below w.heap.size w w') : NamesIs w' := by
  have h0 : 0 < w.heap.size := by have := block_lt_of_cell h.c0; simpa using this
  have q := fun o => hb.cell (p := ⟨0, o, none⟩) h0
  exact ⟨by rw [q]; exact h.c0, by rw [q]; exact h.c1, by rw [q]; exact h.c2, by rw [q]; exact h.c3, by rw [q]; exact h.c4, by rw [q]; exact h.c5, by rw [q]; exact h.c6, by rw [q]; exact h.c7⟩
end Go.Proofs.YtebpapmnkbehnaaDoor
