/- What joined and the reader's atom answer; no conditions but that the reader stands. -/
import Derived.Test.YtipjmabeenhcgaaGreatDoorP6
set_option linter.unusedVariables false
set_option linter.unusedSimpArgs false
namespace Go.Proofs.YtipjmabeenhcgaaGreatDoor
open Go.RowKit Go.Joins

theorem row4 {w : World} {g : Nat} {t : TypeId} {x0 x1 x2 x3 : Value} (hg : w.heap[g]? = some (.cells #[x0, x1, x2, x3] t)) :
    w.cell? ⟨g, 0, none⟩ = some x0 ∧ w.cell? ⟨g, 1, none⟩ = some x1 ∧ w.cell? ⟨g, 2, none⟩ = some x2 ∧ w.cell? ⟨g, 3, none⟩ = some x3 := by
  have c := fun j => cell_of_row w g j _ _ _ hg
  exact ⟨by simpa using c 0, by simpa using c 1, by simpa using c 2, by simpa using c 3⟩
theorem set4 {w : World} {g : Nat} {t : TypeId} {x0 x1 x2 x3 : Value} (y0 y1 y2 y3 : Value) (hg : w.heap[g]? = some (.cells #[x0, x1, x2, x3] t)) :
    ((((w.setCell ⟨g, 0, none⟩ y0).setCell ⟨g, 1, none⟩ y1).setCell ⟨g, 2, none⟩ y2).setCell ⟨g, 3, none⟩ y3).heap[g]? = some (.cells #[y0, y1, y2, y3] t) := by
  have h0 := heap_setCell_same w g 0 _ t y0 hg
  have h1 := heap_setCell_same _ g 1 _ t y1 h0
  have h2 := heap_setCell_same _ g 2 _ t y2 h1
  have h3 := heap_setCell_same _ g 3 _ t y3 h2
  simpa using h3
theorem frz4 {w : World} {g : Nat} {t : TypeId} {cs : Array Value} (hg : w.heap[g]? = some (.cells cs t)) : w.frozen? ⟨g, 0, none⟩ = false ∧ w.frozen? ⟨g, 1, none⟩ = false ∧ w.frozen? ⟨g, 2, none⟩ = false ∧ w.frozen? ⟨g, 3, none⟩ = false := by
  have f := fun j => frozen_of_row w g j _ _ hg
  exact ⟨f 0, f 1, f 2, f 3⟩
/-- A policy's cells, nothing in them. -/
abbrev nobj : Obj := .cells #[.int .i64 0, .int .i64 0, .int .u16 0, .slice none 0 0] 29
/-- A policy's cells. -/
abbrev pobj (x : Nd) : Obj := .cells #[.int .i64 x.op, .int .i64 x.f, .int .u16 x.n, x.kv] 29
theorem own_shape {w : World} {lo e size n : Nat} {v : Value} {xs : List Value} (h : w.ownsRow lo e size v n xs) : ∃ sa sc, v = .slice sa n sc := by
  rcases h.2 with ⟨hv, hn⟩ | ⟨g, cap, cur, hv, -⟩
  · exact ⟨none, 0, by rw [hn]; exact hv⟩
  · exact ⟨_, _, hv⟩

set_option maxRecDepth 100000 in
set_option maxHeartbeats 1000000 in
theorem joined_any {lo : Nat} {P Q : Nat → Prop} (hPQ : ∀ b, P b → Q b) (hQ : ∀ b, lo ≤ b → Q b) (op : Int) (ps : List Pl) (xs : List Nd) (v : Value) (hne : xs ≠ []) (w : World) (ho : w.ownsRow lo 29 4 v xs.length (flat4 xs)) (hp : PolsAt P w ps xs) (hl : xs.length ≤ 10000) :
    Calls Tryz.prog 56 #[.int .i64 op, v] w fun e w' => ∃ x, e = .returned (nv x) ∧ PolAt Q w' (joinedM op ps) x ∧ Below w.heap.size w w' := by
  have hl2 := hp.1
  by_cases h1 : xs.length = 1
  · obtain ⟨x, rfl⟩ := List.length_eq_one_iff.1 h1
    obtain ⟨p, rfl⟩ := List.length_eq_one_iff.1 (hl2.trans h1)
    have HP : Hid (PolAt Q w p x) := (hp.2 0 (by simp) (by simp)).mono fun b h1 _ => hPQ b h1
    rcases ho.2 with ⟨hv, hn⟩ | ⟨g, cap, cur, rfl, hB, hgg, hcap, hmax, hsz, htk⟩
    · simp at hn
    · obtain ⟨a0, a1, a2, a3⟩ := own_at4 hgg rfl htk 0 (by simp)
      have hg := heap_lt hgg
      have hx1 := HP.out.one
      simp at a0 a1 a2 a3
      clear hp hl2 h1 hgg htk hne ho hl hsz hmax hPQ hQ
      have hkv := HP.out.shape.2.2.2
      obtain ⟨sa, sc, hkv⟩ := hkv
      obtain ⟨xo, xf, xn, xk⟩ := x
      dsimp only at a0 a1 a2 a3 hx1 hkv
      subst hkv
      go_enter Tryz.func56, Tryz.ntmps56
      go_wp2
      refine bodyPost_ret (v := nv ⟨xo, xf, xn, .slice sa p.kids.length sc⟩) (by simp [results, Tryz.results56, go_sem]) rfl ⟨_, rfl, HP.out.below ?_, ?_⟩
      all_goals exact (Below.refl _ w).alloc (Nat.le_refl _) _
  · have HP : Hid (PolAt Q w (joinedM op ps) ⟨op, 0, 0, v⟩) := by
      have : joinedM op ps = .mk op 0 0 ps := by
        unfold joinedM
        split
        · rename_i e; simp at hl2; omega
        · rfl
      rw [this]
      exact pol_of_own op 0 0 ho hp (fun b h1 _ => hPQ b h1) hQ
    obtain ⟨sa, sc, rfl⟩ := own_shape ho
    have d : ((xs.length : Int) == 1) = false := by simp; omega
    clear hp hl2 h1 hne ho hPQ hQ
    generalize xs.length = n at *
    go_enter Tryz.func56, Tryz.ntmps56
    go_wp2
    refine bodyPost_ret (v := nv ⟨op, 0, 0, .slice sa n sc⟩) (by simp [results, Tryz.results56, go_sem]) rfl ⟨_, rfl, HP.out.below ?_, ?_⟩
    all_goals exact (Below.refl _ w).alloc (Nat.le_refl _) _
end Go.Proofs.YtipjmabeenhcgaaGreatDoor
