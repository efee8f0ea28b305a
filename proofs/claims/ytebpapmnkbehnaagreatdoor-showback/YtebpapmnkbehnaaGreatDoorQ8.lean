/- What the reader's with answers; no conditions but that the reader stands. -/
import Derived.Test.YtebpapmnkbehnaaGreatDoorQ7
set_option linter.unusedVariables false
set_option linter.unusedSimpArgs false
namespace Go.Proofs.YtebpapmnkbehnaaGreatDoor
open Go.RowKit Go.Joins

/-- What is known behind a step that may also turn one row of pairs. -/
structure Aft2 (M : Nat) (tvl : Value) (L : List Tk) (w : World) (σ' : St) (v v' : Value) (w' : World) : Prop where
  rd : Rd M tvl L σ' w'
  os : w'.os = w.os
  tape : w'.tape = w.tape
  output : w'.output = w.output
  size : w.heap.size ≤ w'.heap.size
  block : ∀ k, k < w.heap.size → k ≠ M → k ≠ M + 1 → some k ≠ v.ownBlock → w'.heap[k]? = w.heap[k]?
  loc : v'.ownBlock = v.ownBlock ∨ ∃ b, w.heap.size ≤ b ∧ v'.ownBlock = some b
theorem take_all (p : Pr → Bool) : ∀ l : List Pr, l.all p = true → l.takeWhile p = l ∧ l.dropWhile p = []
  | [], _ => ⟨rfl, rfl⟩
  | x :: r, h => by
    rw [List.all_cons, Bool.and_eq_true] at h
    have ih := take_all p r h.2
    rw [List.takeWhile_cons, List.dropWhile_cons, if_pos h.1, if_pos h.1, ih.1, ih.2]
    exact ⟨rfl, rfl⟩
theorem lessN_end {l : List Pr} {f : Int} (h : allLt l f = true) : lessN l f = l.length := by
  unfold lessN
  rw [(take_all _ l h).1]
theorem ins_end {l : List Pr} {c : Pr} (h : allLt l c.1 = true) : ins l c = l ++ [c] := by
  unfold ins
  rw [(take_all _ l h).1, (take_all _ l h).2]

theorem lessN_le (l : List Pr) (f : Int) : lessN l f ≤ l.length := (List.takeWhile_sublist _).length_le
set_option maxRecDepth 100000 in
set_option maxHeartbeats 4000000 in
theorem with_any {M : Nat} {tvl : Value} {L : List Tk} {σ : St} (l : List Pr) (c : Pr) (v : Value) (lo : Nat) (hlo : M + 2 ≤ lo) (hl : l.length ≤ 10000) (hr : Rises l) (hmid : (withM l c σ).2.mid = false) (w : World) (h : Rd M tvl L σ w) (ho : w.ownsRow lo 64 2 v l.length (flat2 l)) (hlw : lo ≤ w.heap.size) :
    Calls Tryz.prog 85 #[rp M, v, cv c] w fun e w' => ∃ v', e = .returned v' ∧ w'.ownsRow lo 64 2 v' (withM l c σ).1.length (flat2 (withM l c σ).1) ∧ Aft2 M tvl L w (withM l c σ).2 v v' w' := by
  have hB0 := (Below.refl _ w).alloc (Nat.le_refl _) (cobj c)
  have HR : Hid (Rd M tvl L σ (w.alloc (cobj c))) := h.below hB0
  have HO : Hid (w.ownsRow lo 64 2 v l.length (flat2 l)) := ho
  have cS := search_any l c v hr hl (w.alloc (cobj c)) (prs_of_own (ho.alloc _))
  have hrow := heap_alloc_new w (cobj c)
  have hlt := h.lt
  cases hf : hasF l c.1 with
  | true =>
    rw [show withM l c σ = (l, { σ with dbl := true }) by unfold withM; rw [if_pos hf]]
    rw [hf] at cS
    clear ho h hr hmid hf hB0
    go_enter Tryz.func85, Tryz.ntmps85
    go_wp2_with fail
    refine cS.mono ?_
    rintro e w1 ⟨k, rfl, -, hb1⟩
    have HR1 : Hid (Rd M tvl L σ w1) := HR.out.below hb1
    have f5 := HR1.out.free 5
    have q5 := HR1.out.cells.2.2.2.2.2
    have hB1 : Hid (Below w.heap.size w w1) := ((Below.refl _ w).alloc (Nat.le_refl _) _).trans (hb1.mono (by simp))
    clear hb1 cS
    go_wp2
    go_ret
    refine ⟨v, rfl, ?_, ?_⟩
    · exact ownsRow_setCell_below (own_below HO.out (hB1.out)) (by show M + 1 < lo; omega) _
    · refine ⟨HR1.out.put 5 _ (by rfl) rfl HR1.out.ok, hB1.out.os, hB1.out.tape, hB1.out.output, ?_, fun k hk h1 h2 _ => ?_, .inl rfl⟩
      · have := hB1.out.size
        simpa [World.setCell] using this
      · rw [Below.heap_setCell _ _ _ _ (by show k ≠ M + 1; omega)]
        exact hB1.out.block k hk
  | false =>
    have hw : withM l c σ = (ins l c, σ) := by unfold withM; rw [if_neg (by rw [hf]; decide)]
    rw [hw]
    have HI : Hid (flat2 (l.take (lessN l c.1) ++ c :: l.drop (lessN l c.1)) = flat2 (ins l c) ∧ (ins l c).length = l.length + 1) := by
      have h1 : l.take (lessN l c.1) = l.takeWhile (fun x => decide (x.1 < c.1)) ∧ l.drop (lessN l c.1) = l.dropWhile (fun x => decide (x.1 < c.1)) := by
        have e := List.takeWhile_append_dropWhile (p := fun x : Pr => decide (x.1 < c.1)) (l := l)
        unfold lessN
        constructor
        · conv => lhs; rw [← e]
          exact List.take_left' (by rw [e])
        · conv => lhs; rw [← e]
          exact List.drop_left' (by rw [e])
      have h2 : ins l c = l.take (lessN l c.1) ++ c :: l.drop (lessN l c.1) := by unfold ins; rw [h1.1, h1.2]
      have h3 : lessN l c.1 ≤ l.length := lessN_le l c.1
      exact ⟨by rw [h2], by rw [h2, List.length_append, List.length_cons, List.length_take, List.length_drop]; omega⟩
    have hkl : lessN l c.1 ≤ l.length := lessN_le l c.1
    rw [hf] at cS
    clear ho h hr hmid hf hB0 hw
    go_enter Tryz.func85, Tryz.ntmps85
    go_wp2_with fail
    refine cS.mono ?_
    rintro e w1 ⟨k, rfl, hk, hb1⟩
    have hk := hk.out
    subst hk
    generalize lessN l c.1 = kk at *
    have hB1 : Hid (Below w.heap.size w w1) := ((Below.refl _ w).alloc (Nat.le_refl _) _).trans (hb1.mono (by simp))
    have hB2 : Hid (Below w.heap.size w (w1.alloc (cobj c))) := hB1.out.alloc hB1.out.size _
    have HR1 : Hid (Rd M tvl L σ (w1.alloc (cobj c))) := (HR.out.below hb1).below ((Below.refl _ w1).alloc (Nat.le_refl _) _)
    have hrow1 := (hb1.block _ (heap_lt hrow)).trans hrow
    obtain ⟨q0, q1⟩ := row2 hrow1
    have hw1 := heap_lt hrow1
    have cI := insert_any l c v lo w1.heap.size kk hkl hl (w1.alloc (cobj c)) (own_below HO.out hB2.out) (heap_alloc_new w1 _) (fun e => by have := (HO.out.lt _ e.symm).2; omega) (by simp; omega)
    clear hb1 cS hrow
    go_wp2_with fail
    refine cI.mono ?_
    rintro e w2 ⟨v2, rfl, hown2, hgr2, hloc2⟩
    have HOw : Hid (w2.ownsRow lo 64 2 v2 (l.length + 1) (flat2 (l.take kk ++ c :: l.drop kk))) := hown2
    have HG : Hid ((w1.alloc (cobj c)).grownBy w2 v.ownBlock) := hgr2
    have HLo : Hid (v2.ownBlock = v.ownBlock ∨ v2.ownBlock = some (w1.alloc (cobj c)).heap.size) := hloc2
    clear hown2 hgr2 hloc2 cI
    go_wp2
    go_ret
    have hvlt : ∀ j, v.ownBlock = some j → lo ≤ j ∧ j < w.heap.size := fun j hj => HO.out.lt j hj
    have sa : (w1.alloc (cobj c)).heap.size = w1.heap.size + 1 := by simp
    have g := HG.out
    have b1 := hB2.out
    refine ⟨v2, rfl, by rw [HI.out.2, ← HI.out.1]; exact HOw.out, ?_⟩
    refine ⟨?_, by rw [g.os]; exact b1.os, by rw [g.tape]; exact b1.tape, by rw [g.output]; exact b1.output, Nat.le_trans b1.size g.size, fun k hk h1 h2 h3 => ?_, ?_⟩
    · have := HR1.out.low (w' := w2) ⟨g.os, g.tape, g.output, g.size, fun k hk => g.block k (by have := HR1.out.lt; omega) (fun e => by have := (hvlt k e.symm).1; omega)⟩
      exact ⟨this.row, this.lets, this.toks, this.far, this.names, this.nlow, this.ok⟩
    · exact (g.block k (by omega) h3).trans (b1.block k hk)
    · rcases HLo.out with e | e
      · exact .inl e
      · exact .inr ⟨_, by omega, e⟩
end Go.Proofs.YtebpapmnkbehnaaGreatDoor
