/- What makes answers of a node, where it answers as the model of its kids. -/
import Derived.Test.YtipiepcbgjceaaaH4
set_option linter.unusedVariables false
set_option linter.unusedSimpArgs false
namespace Go.Proofs.Ytipiepcbgjceaaa
open Go.RowKit Go.Joins Go.Maps

theorem pv_one (w : World) (q : P8) : Pv (w.alloc (pobj8 q)) (.slice (some ⟨w.heap.size, 0, none⟩) 1 1) [q] := by
  have h := heap_alloc_new w (pobj8 q)
  refine .inr ⟨by simp, w.heap.size, 0, 1, rfl, by simp, calm_cells h (by decide), fun i hi => ?_⟩
  have : i = 0 := by simp at hi; omega
  subst this
  obtain ⟨⟨c0, c1, c2, c3, c4, c5, c6, c7⟩, -, -⟩ := row8 h
  exact ⟨c0, c1, c2, c3, c4, c5, c6, c7⟩
/-- Nothing is made. -/
theorem MadeEnd.nil {B : Nat} {G : Nat → Option Pl} {X : Nat → Prop} {w w' : World} (hf : Fr B w w') (hI : Inv B G X w') : MadeEnd B G X (some []) w (.returned (.tuple #[.slice none 0 0, .bool true])) w' :=
  ⟨_, _, rfl, hf, hI, NewV.nil _, fun l hl => (by injection hl with hl; subst hl; exact ⟨rfl, Pv.nil _⟩), fun e => (by cases e)⟩
/-- One packet is made. -/
theorem MadeEnd.one {B : Nat} {G : Nat → Option Pl} {X : Nat → Prop} {w w' : World} (q : P8) (hf : Fr B w w') (hI : Inv B G X w') : MadeEnd B G X (some [q]) w (.returned (.tuple #[.slice (some ⟨w'.heap.size, 0, none⟩) 1 1, .bool true])) (w'.alloc (pobj8 q)) :=
  ⟨_, _, rfl, hf.alloc _, hI.below ((Below.refl _ w').alloc (Nat.le_refl _) _), fun b o n c e => (by
    simp only [Value.slice.injEq, Option.some.injEq, Addr.mk.injEq] at e
    obtain ⟨⟨rfl, -⟩, -⟩ := e
    exact hf.size), fun l hl => (by injection hl with hl; subst hl; exact ⟨rfl, pv_one w' q⟩), fun e => (by cases e)⟩

set_option maxRecDepth 100000 in
set_option maxHeartbeats 8000000 in
theorem makes_leaf (B : Nat) (G : Nat → Option Pl) (op f n : Int) (kids : List Pl) (hgood : GoodT (.mk op f n kids)) (h : op = 0 ∨ op = 1 ∨ op = 2) : MakesC B G (.mk op f n kids) := by
  intro X b q w hq hG hX hI
  have hb0 : Below w.heap.size w (w.alloc (pobj8 q)) := (Below.refl _ w).alloc (Nat.le_refl _) _
  obtain ⟨kv, bk, hrow, sa, sc, rfl, -⟩ := (hI.below hb0).node hG
  obtain ⟨r0, r1, r2, r3, r4⟩ := row5 hrow
  obtain ⟨⟨c0, c1, c2, c3, c4, c5, c6, c7⟩, -, -⟩ := row8 (heap_alloc_new w (pobj8 q))
  have hbx := heap_alloc_new w (pobj8 q)
  have HI : Hid (Inv B G X (w.alloc (pobj8 q))) := hI.below hb0
  have HF : Hid (Fr B w (w.alloc (pobj8 q))) := Fr.of_below hb0
  rw [mkP_mk]
  rcases h with rfl | rfl | rfl
  · rw [if_pos rfl]
    clear hgood hq hG hX hI hrow hb0
    go_enter Try.func25, Try.ntmps25
    go_wp2
    refine bodyPost_ret (v := .tuple #[.slice none 0 0, .bool true]) ?_ rfl (MadeEnd.nil HF.out HI.out)
    simp [results, Try.results25, go_sem]
  · rw [if_neg (by decide), if_pos rfl]
    clear hgood hq hG hX hI hrow hb0
    have HE : Hid _ := MadeEnd.one q HF.out HI.out
    go_enter Try.func25, Try.ntmps25
    go_wp2
    refine bodyPost_ret (v := .tuple #[.slice (some ⟨(w.alloc (pobj8 q)).heap.size, 0, none⟩) 1 1, .bool true]) ?_ rfl HE.out
    simp [results, Try.results25, go_sem]
  · rw [if_neg (by decide), if_neg (by decide), if_pos rfl]
    have hf8 : 0 ≤ f ∧ f < 8 := by
      have hf := hgood.form
      rw [formP_eq, Bool.and_eq_true] at hf
      have := hf.1
      unfold nodeB at this
      simp only [show ¬((2 : Int) = 0 ∨ (2 : Int) = 1) by omega, if_false, if_true, Bool.and_eq_true, decide_eq_true_eq] at this
      exact this.2
    obtain ⟨h0, h8⟩ := hf8
    have c := getD8 hbx f h0 h8
    have hget : q.get f = [q.a0, q.a1, q.a2, q.a3, q.a4, q.a5, q.a6, q.a7].getD f.toNat 0 := rfl
    rw [hget]
    clear hgood hq hG hX hI hrow hb0 hget
    generalize [q.a0, q.a1, q.a2, q.a3, q.a4, q.a5, q.a6, q.a7].getD f.toNat 0 = z at *
    obtain ⟨F, rfl⟩ := Int.eq_ofNat_of_zero_le h0
    simp only [Int.toNat_natCast] at c
    by_cases hz : z = n
    · subst hz
      rw [if_pos rfl]
      have HE : Hid (∀ nq, MadeEnd B G X (some [q]) w (.returned (.tuple #[.slice (some ⟨((w.alloc (pobj8 q)).drewN nq).heap.size, 0, none⟩) 1 1, .bool true])) (((w.alloc (pobj8 q)).drewN nq).alloc (pobj8 q))) := fun nq => MadeEnd.one q (HF.out.drewN nq) (HI.out.below (below_drewN (Below.refl _ _) nq))
      go_enter Try.func25, Try.ntmps25
      go_wp2_with fail
      go_quiet (fail)
      go_wp2
      refine bodyPost_ret (v := .tuple #[.slice (some ⟨((w.alloc (pobj8 q)).drewN nq).heap.size, 0, none⟩) 1 1, .bool true]) ?_ rfl (HE.out nq)
      simp [results, Try.results25, go_sem]
    · rw [if_neg hz]
      have dz : (z == n) = false := by simpa using hz
      have HE : Hid (∀ nq, MadeEnd B G X (some []) w (.returned (.tuple #[.slice none 0 0, .bool true])) ((w.alloc (pobj8 q)).drewN nq)) := fun nq => MadeEnd.nil (HF.out.drewN nq) (HI.out.below (below_drewN (Below.refl _ _) nq))
      clear hz
      go_enter Try.func25, Try.ntmps25
      go_wp2_with fail
      go_quiet (fail)
      go_wp2
      refine bodyPost_ret (v := .tuple #[.slice none 0 0, .bool true]) ?_ rfl (HE.out nq)
      simp [results, Try.results25, go_sem]

set_option maxRecDepth 100000 in
set_option maxHeartbeats 8000000 in
theorem makes_put (B : Nat) (G : Nat → Option Pl) (f n : Int) (kids : List Pl) : MakesC B G (.mk 5 f n kids) := by
  intro X b q w hq hG hX hI
  have hb0 : Below w.heap.size w (w.alloc (pobj8 q)) := (Below.refl _ w).alloc (Nat.le_refl _) _
  obtain ⟨kv, bk, hrow, sa, sc, rfl, -⟩ := (hI.below hb0).node hG
  obtain ⟨r0, r1, r2, r3, r4⟩ := row5 hrow
  obtain ⟨⟨c0, c1, c2, c3, c4, c5, c6, c7⟩, -, -⟩ := row8 (heap_alloc_new w (pobj8 q))
  have HI : Hid (Inv B G X (w.alloc (pobj8 q))) := hI.below hb0
  have HF : Hid (Fr B w (w.alloc (pobj8 q))) := Fr.of_below hb0
  rw [mkP_mk, if_neg (by decide), if_neg (by decide), if_neg (by decide), if_neg (by decide), if_neg (by decide), if_pos rfl]
  have cW : Hid (∀ W, Below (w.alloc (pobj8 q)).heap.size (w.alloc (pobj8 q)) W → Calls Try.prog 33 #[pk q.a0 q.a1 q.a2 q.a3 q.a4 q.a5 q.a6 q.a7, .int .i64 f, .int .u16 n] W fun e w' => e = .returned (q.wth f n).v ∧ Below W.heap.size W w') := fun W hW => (with_any q.a0 q.a1 q.a2 q.a3 q.a4 q.a5 q.a6 q.a7 f n W).mono fun e w' ⟨b0, b1, b2, b3, b4, b5, b6, b7, he, hp, hb⟩ => ⟨by
    have hx : q.wth f n = ⟨b0, b1, b2, b3, b4, b5, b6, b7⟩ := by unfold P8.wth; rw [show q.l = [q.a0, q.a1, q.a2, q.a3, q.a4, q.a5, q.a6, q.a7] from rfl, hp]; rfl
    rw [he, hx], hb⟩
  have HBd : Hid (Below (w.alloc (pobj8 q)).heap.size (w.alloc (pobj8 q)) (w.alloc (pobj8 q)).drew) := below_drewN (Below.refl _ _) 1
  have HE : Hid (∀ W, Below (w.alloc (pobj8 q)).heap.size (w.alloc (pobj8 q)) W → MadeEnd B G X (some [q.wth f n]) w (.returned (.tuple #[.slice (some ⟨W.heap.size, 0, none⟩) 1 1, .bool true])) (W.alloc (pobj8 (q.wth f n)))) := fun W hW => MadeEnd.one (q.wth f n) (HF.out.trans (Fr.of_below hW)) (HI.out.below hW)
  have HRow : Hid _ := hrow
  have hrl := heap_lt hrow
  clear hq hG hX hI hrow hb0
  generalize q.wth f n = q2 at *
  go_enter Try.func25, Try.ntmps25
  go_wp2_with fail
  go_region_law (go_simp; go_at_call 33; refine Calls.mono (cW.out _ HBd.out) ?_; rintro e w2 ⟨rfl, hb2⟩; have HB2 : Hid (Below (w.alloc (pobj8 q)).heap.size (w.alloc (pobj8 q)) w2) := HBd.out.trans (hb2.mono HBd.out.size); clear hb2)
  all_goals
    have HE2 : Hid _ := HE.out _ HB2.out
    clear HE HB2 cW HI HF HRow
    go_wp2
    refine bodyPost_ret (v := .tuple #[.slice (some ⟨w2.heap.size, 0, none⟩) 1 1, .bool true]) ?_ rfl HE2.out
    simp [results, Try.results25, go_sem]
end Go.Proofs.Ytipiepcbgjceaaa
