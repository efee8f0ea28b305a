/- How a list of tokens lies in memory. -/
import Derived.Test.YtipjmabeenhcgaaGreatDoorA1
import Derived.Lib.SmallJoins
import Derived.Lib.QuietBelow
import Derived.Deep.RegionWith
set_option linter.unusedVariables false
set_option linter.unusedSimpArgs false
namespace Go.Proofs.YtipjmabeenhcgaaGreatDoor
open Go.RowKit Go.Joins

theorem heap_lt {w : World} {g : Nat} {o : Obj} (h : w.heap[g]? = some o) : g < w.heap.size := (Array.getElem?_eq_some_iff.1 h).1
theorem below_drewN {B : Nat} {a w : World} (h : Below B a w) (n : Nat) : Below B a (w.drewN n) := h.trans ⟨rfl, rfl, rfl, Nat.le_refl _, fun _ _ => rfl⟩
theorem own_below {w w' : World} {B e size n : Nat} {v : Value} {xs : List Value} (h : w.ownsRow B e size v n xs) (hb : Below w.heap.size w w') : w'.ownsRow B e size v n xs := by
  refine ⟨h.1, ?_⟩
  rcases h.2 with hn | ⟨g, cap, cur, rfl, hg, hgg, rest⟩
  · exact .inl hn
  · exact .inr ⟨g, cap, cur, rfl, hg, by rw [hb.block g (Array.getElem?_eq_some_iff.1 hgg).1]; exact hgg, rest⟩

/-- A token's cells. -/
def enc3 (t : Tk) : List Value := [.int .i64 t.kind, str t.s, .int .u16 (t.n : Int)]
/-- A token as a value. -/
abbrev tv (t : Tk) : Value := .agg #[.int .i64 t.kind, str t.s, .int .u16 (t.n : Int)]
/-- A token's cells lie there. -/
def At3 (w : World) (b o : Nat) (t : Tk) : Prop :=
  w.cell? ⟨b, o, none⟩ = some (.int .i64 t.kind) ∧ w.cell? ⟨b, o + 1, none⟩ = some (str t.s) ∧ w.cell? ⟨b, o + 2, none⟩ = some (.int .u16 (t.n : Int))
theorem At3.cell {w : World} {b o : Nat} {x : Tk} (h : At3 w b o x) : ∀ j, j < 3 → w.cell? ⟨b, o + j, none⟩ = (enc3 x)[j]? := by
  obtain ⟨h0, h1, h2⟩ := h
  intro j hj
  match j, hj with
  | 0, _ => exact h0
  | 1, _ => exact h1
  | 2, _ => exact h2
theorem At3.of {w : World} {b o : Nat} {x : Tk} (h : ∀ j, j < 3 → w.cell? ⟨b, o + j, none⟩ = (enc3 x)[j]?) : At3 w b o x :=
  ⟨h 0 (by decide), h 1 (by decide), h 2 (by decide)⟩
theorem At3.below {w w' : World} {b o B : Nat} {x : Tk} (h : At3 w b o x) (hB : Below B w w') (hb : b < B) : At3 w' b o x :=
  At3.of fun j hj => by rw [hB.cell (p := ⟨b, o + j, none⟩) hb]; exact h.cell j hj

/-- Tokens lie behind a slice. -/
def Tks (w : World) (v : Value) (L : List Tk) : Prop :=
  ∃ sa sc, v = .slice sa L.length sc ∧ ∀ k (hk : k < L.length), ∃ b off, sa = some ⟨b, off, none⟩ ∧ b < w.heap.size ∧ At3 w b (off + k * 3) L[k]
theorem Tks.below {w w' : World} {v : Value} {L : List Tk} (h : Tks w v L) (hB : Below w.heap.size w w') : Tks w' v L := by
  obtain ⟨sa, sc, hv, hc⟩ := h
  refine ⟨sa, sc, hv, fun k hk => ?_⟩
  obtain ⟨b, off, hs, hb, ha⟩ := hc k hk
  exact ⟨b, off, hs, Nat.lt_of_lt_of_le hb hB.size, ha.below hB hb⟩
theorem Tks.nil (w : World) : Tks w (.slice none 0 0) [] := ⟨none, 0, rfl, fun k hk => by simp at hk⟩

/-- The cells of tokens, one behind the other. -/
def flat3 (L : List Tk) : List Value := L.flatMap enc3
theorem flat3_append (a b : List Tk) : flat3 (a ++ b) = flat3 a ++ flat3 b := by simp [flat3]
theorem flat3_length : ∀ L : List Tk, (flat3 L).length = L.length * 3
  | [] => rfl
  | x :: r => by
    have := flat3_length r
    simp only [flat3, List.flatMap_cons, List.length_append, List.length_cons] at this ⊢
    rw [this, show (enc3 x).length = 3 from rfl]; omega
theorem flat3_get : ∀ (L : List Tk) (i : Nat) (h : i < L.length) (j : Nat), j < 3 → (flat3 L)[i * 3 + j]? = (enc3 L[i])[j]?
  | x :: r, 0, _, j, hj => by
    simp only [flat3, List.flatMap_cons]
    rw [List.getElem?_append_left (by rw [show (enc3 x).length = 3 from rfl]; omega)]
    simp
  | x :: r, i + 1, h, j, hj => by
    have := flat3_get r i (by simpa using h) j hj
    simp only [flat3, List.flatMap_cons] at this ⊢
    rw [List.getElem?_append_right (by rw [show (enc3 x).length = 3 from rfl]; omega), show (enc3 x).length = 3 from rfl, show (i + 1) * 3 + j - 3 = i * 3 + j by omega, this]
    rfl
theorem own_at {w : World} {g n : Nat} {cur : Array Value} {L : List Tk} (hgg : w.heap[g]? = some (.cells cur 72 (0, 0))) (hl : L.length = n) (htk : cur.toList.take (n * 3) = flat3 L) : ∀ i (h : i < L.length), At3 w g (0 + i * 3) L[i] := by
  subst hl
  intro i hi
  refine At3.of fun j hj => ?_
  rw [cell_of_row _ _ _ _ _ _ hgg]
  have hlt : i * 3 + j < L.length * 3 := by omega
  have := flat3_get L i hi j hj
  rw [← htk, List.getElem?_take_of_lt hlt, Array.getElem?_toList] at this
  rw [show 0 + i * 3 + j = i * 3 + j by omega]
  exact this
theorem tks_of_own {w : World} {B : Nat} {v : Value} {L : List Tk} (h : w.ownsRow B 72 3 v L.length (flat3 L)) : Tks w v L := by
  rcases h.2 with ⟨hv, hn⟩ | ⟨g, cap, cur, hv, hB, hgg, hcap, hmax, hsz, htk⟩
  · have : L = [] := List.length_eq_zero_iff.1 hn
    subst this
    exact ⟨none, 0, hv, fun k hk => by simp at hk⟩
  · exact ⟨_, cap, hv, fun k hk => ⟨g, 0, rfl, heap_lt hgg, own_at hgg rfl htk k hk⟩⟩
theorem cell_new3 (w : World) (vs : List Value) (t : TypeId) : ∀ j u, vs[j]? = some u → (w.alloc (.cells vs.toArray t)).cell? ((⟨w.heap.size, 0, none⟩ : Addr).add j) = some u := by
  intro j u hj
  rw [show (⟨w.heap.size, 0, none⟩ : Addr).add j = ⟨w.heap.size, j, none⟩ by unfold Addr.add; split <;> simp_all, cell_of_row _ _ _ _ _ _ (heap_alloc_new w (.cells vs.toArray t))]
  simpa using hj
theorem enc3_one (x : Tk) : ∀ u ∈ enc3 x, u.oneCell' = true := by
  intro u hu
  simp [enc3] at hu
  rcases hu with rfl | rfl | rfl <;> rfl
theorem flat3_one (L : List Tk) : ∀ u ∈ flat3 L, u.oneCell' = true := by
  intro u hu
  obtain ⟨x, _, hx⟩ := List.mem_flatMap.1 hu
  exact enc3_one x u hx
theorem info72 : (Tryz.prog.info? 72).map (fun i => (i.zero, i.size, i.bytes)) = some (some (tv tkEnd), 3, 32) := by kernel_rfl

theorem wr64 (z : Int) (h0 : 0 ≤ z) (h1 : z ≤ 9223372036854775807) : IntKind.i64.wrap z = z := by
  simp [IntKind.wrap, IntKind.signed, IntKind.bits]; omega
theorem wr8 (z : Int) (h0 : 0 ≤ z) (h1 : z ≤ 255) : IntKind.u8.wrap z = z := by
  simp [IntKind.wrap, IntKind.signed, IntKind.bits]; omega
theorem lt_alloc (w : World) (o : Obj) : w.heap.size < ((w.alloc o).drew).heap.size := by simp
end Go.Proofs.YtipjmabeenhcgaaGreatDoor
