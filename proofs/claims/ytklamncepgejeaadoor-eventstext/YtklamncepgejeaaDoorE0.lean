/- What stands beside a call all the while: the listed variables hold what the row lists, and memory has its shape; no conditions. -/
import Derived.Test.YtklamncepgejeaaDoorA3
import Derived.Lib.SmallJoins
import Derived.Deep.DeepFit
set_option linter.unusedVariables false
set_option linter.unusedSimpArgs false
namespace Go.Proofs.YtklamncepgejeaaDoor
open Go.RowKit Go.Joins Go.Sort

/-- The listed variables hold what the row lists, and memory has its shape. -/
structure Env (w : World) : Prop where
  tab : TabAt 0 Lib.deBruijn64tab w
  shape : w.ShapedOpen Tryd.prog
  pow : Lib.TabIs Tryd.prog w "internal/strconv.uint64pow10" .u64 Lib.pow10Tab
  syn : ∃ tp p, w.var? Tryd.prog "strconv.ErrSyntax" = some #[.iface tp p]
  rng : ∃ tp p, w.var? Tryd.prog "strconv.ErrRange" = some #[.iface tp p]

theorem TabAt.below {w w' : World} (h : TabAt 0 Lib.deBruijn64tab w) (hb : Below w.heap.size w w') : TabAt 0 Lib.deBruijn64tab w' := by
  have h0 : 0 < w.heap.size := by have := block_lt_of_cell (h 0 (by decide)); simpa using this
  intro j hj
  rw [hb.cell (p := ⟨0, j, none⟩) h0]; exact h j hj
theorem gPow : Tryd.prog.globalNamed "internal/strconv.uint64pow10" = some 2 := by kernel_rfl
theorem gSyn : Tryd.prog.globalNamed "strconv.ErrSyntax" = some 3 := by kernel_rfl
theorem gRng : Tryd.prog.globalNamed "strconv.ErrRange" = some 4 := by kernel_rfl
theorem Env.below {w w' : World} (h : Env w) (hb : Below w.heap.size w w') : Env w' := by
  refine ⟨TabAt.below h.tab hb, h.shape.keptBut (hb.frame (fun _ => False)) (fun _ hp => hp.elim), tab_stays gPow h.pow hb (Nat.le_refl _), ?_, ?_⟩
  · obtain ⟨tp, p, hv⟩ := h.syn; exact ⟨tp, p, var_stays gSyn hv hb (Nat.le_refl _)⟩
  · obtain ⟨tp, p, hv⟩ := h.rng; exact ⟨tp, p, var_stays gRng hv hb (Nat.le_refl _)⟩
theorem Env.at {w w' : World} {B : Nat} (h : Env w) (hb : Below B w w') (hB : w.heap.size ≤ B) : Env w' := h.below (hb.mono hB)

theorem info3 : (Tryd.prog.info? 3).map (fun i => (i.zero, i.size, i.bytes)) = some (some (.int .i64 0), 1, 8) := by kernel_rfl
theorem cell_one_new (w : World) (x : Value) (e : TypeId) : ∀ j u, ([x] : List Value)[j]? = some u → (w.alloc (.cells #[x] e)).cell? ((⟨w.heap.size, 0, none⟩ : Addr).add j) = some u := by
  intro j u h
  match j, h with
  | 0, h =>
    simp only [List.getElem?_cons_zero, Option.some.injEq] at h
    subst h
    rw [show (⟨w.heap.size, 0, none⟩ : Addr).add 0 = ⟨w.heap.size, 0, none⟩ from rfl, cell_of_row _ _ _ _ _ _ (heap_alloc_new w (.cells #[x] e))]
    rfl
  | j + 1, h => simp at h
/-- The values of a list of events. -/
def iv (L : List Nat) : List Value := L.map fun i : Nat => Value.int .i64 (i : Int)
theorem iv_length (L : List Nat) : (iv L).length = L.length := by simp [iv]
theorem iv_append (L : List Nat) (i : Nat) : iv (L ++ [i]) = iv L ++ [.int .i64 (i : Int)] := by simp [iv]
theorem heap_lt {w : World} {g : Nat} {o : Obj} (h : w.heap[g]? = some o) : g < w.heap.size := (Array.getElem?_eq_some_iff.1 h).1
theorem own_below {w w' : World} {B e size n : Nat} {v : Value} {xs : List Value} (h : w.ownsRow B e size v n xs) (hb : Below w.heap.size w w') : w'.ownsRow B e size v n xs := by
  refine ⟨h.1, ?_⟩
  rcases h.2 with hn | ⟨g, cap, cur, rfl, hg, hgg, rest⟩
  · exact .inl hn
  · exact .inr ⟨g, cap, cur, rfl, hg, by rw [hb.block g (Array.getElem?_eq_some_iff.1 hgg).1]; exact hgg, rest⟩
/-- A list of events, as whole numbers. -/
def zl (L : List Nat) : List Int := L.map fun i : Nat => (i : Int)
theorem zl_length (L : List Nat) : (zl L).length = L.length := by simp [zl]
theorem ints_own {w : World} {B : Nat} {v : Value} {L : List Nat} (h : w.ownsRow B 3 1 v L.length (iv L)) : IntsAt w v (zl L) := by
  rcases h.2 with ⟨rfl, h0⟩ | ⟨g, cap, cur, rfl, hg, hgg, hcap, hmax, hsz, htake⟩
  · have : L = [] := List.length_eq_zero_iff.1 h0
    subst this
    exact ⟨none, 0, rfl, by simp [zl], Or.inl rfl⟩
  · refine ⟨some ⟨g, 0, none⟩, cap, by rw [zl_length], ?_, Or.inr ⟨_, rfl, heap_lt hgg, ?_⟩⟩
    · rw [zl_length]; unfold maxLen at hmax; omega
    · intro i hi
      have hi' : i < L.length := by rwa [zl_length] at hi
      have e : (⟨g, 0, none⟩ : Addr).add i = ⟨g, i, none⟩ := by
        unfold Addr.add; split
        · rename_i h0; rw [h0]
        · simp
      rw [e, cell_of_row _ _ _ _ _ _ hgg]
      have key : cur[i]? = (iv L)[i]? := by
        rw [← htake, List.getElem?_take_of_lt (by omega), Array.getElem?_toList]
      rw [key]
      simp [iv, zl, List.getElem?_map, List.getElem?_eq_getElem hi']
end Go.Proofs.YtklamncepgejeaaDoor
