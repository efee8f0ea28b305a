/- Single steps of a region that draws its order: moves, loads, picks, tests turned, calls; by what is known of the slots that they wait for. -/
import Derived.Test.YtbcikkofbdfmaaaQE
import Derived.Test.YtbcikkofbdfmaaaX2
set_option linter.unusedVariables false
set_option linter.unusedSimpArgs false
namespace Go.Proofs.Ytbcikkofbdfmaaa
open Go.RowKit Go.Joins Go.Sort

abbrev Gr (w w' : World) : Prop := Below w.heap.size w w'

theorem dst_is {o : Oper} {c : Nat} {F : Nat → Value → World → Prop} {v : Value} {w : World} (ho : o.dst = some c) (h : F c v w) : ∀ d, o.dst = some d → F d v w := fun d hd => by
  rw [ho] at hd
  injection hd with hd
  exact hd ▸ h
/-- What is known of a slot, and holds on. -/
structure Fc where
  p : Value → World → Prop
  up : ∀ v w w', Gr w w' → p v w → p v w'
abbrev fT : Fc := ⟨fun _ _ => True, fun _ _ _ _ h => h⟩
abbrev fV (u : Value) : Fc := ⟨fun v _ => v = u, fun _ _ _ _ h => h⟩
section
variable {ops : Array Oper} {Q : Exit → Act → World → Prop} {B : World → Prop} {F : Nat → Value → World → Prop} {a0 : Act} {i : Nat} {o : Oper}
theorem st_move (s : Nat) (c : Nat) (hc : o.dst = some c) (hi : ops[i]? = some o)
    (hg : ∀ a w, OldAt .any ops i a0 a → (∀ t, waitsB .any ops o t = true → Slot F a w t) → Region.wanted o (yielded ops a.tmps) = true)
    (ho : o.op = .move (.tmp s) ∨ o.op = .assign (.tmp s)) (hs : waitsB .any ops o s = true) (hF : ∀ v w, F s v w → F c v w) : StepAt Try.prog .any ops Q B Gr F a0 i o := by
  refine step_value hi hg fun a w hb hold hd => ?_
  obtain ⟨v, e, f⟩ := (hd s hs).eval
  refine ⟨v, w, ?_, Below.refl _ _, dst_is hc (hF v w f)⟩
  rcases ho with ho | ho <;> simp only [execOp, ho, e] <;> rfl
theorem st_old (s : Nat) (u : Value) (c : Nat) (hc : o.dst = some c) (hi : ops[i]? = some o)
    (hg : ∀ a w, OldAt .any ops i a0 a → (∀ t, waitsB .any ops o t = true → Slot F a w t) → Region.wanted o (yielded ops a.tmps) = true)
    (ho : o.op = .move (.tmp s)) (hs : lateB .any ops i s = true) (hv : a0.eval (.tmp s) = u) (hF : ∀ w, F c u w) : StepAt Try.prog .any ops Q B Gr F a0 i o := by
  refine step_value hi hg fun a w hb hold hd => ?_
  refine ⟨u, w, ?_, Below.refl _ _, dst_is hc (hF w)⟩
  simp only [execOp, ho, hold.eval hs, hv]
  rfl
theorem st_load (ty s : Nat) (p u : Value) (c : Nat) (hc : o.dst = some c) (hi : ops[i]? = some o)
    (hg : ∀ a w, OldAt .any ops i a0 a → (∀ t, waitsB .any ops o t = true → Slot F a w t) → Region.wanted o (yielded ops a.tmps) = true)
    (ho : o.op = .load ty (.tmp s)) (hs : lateB .any ops i s = true) (hv : a0.eval (.tmp s) = p) (hr : ∀ w, B w → (Instr.loadAt ty p).run Try.prog w = .ok u w) (hF : ∀ w, B w → F c u w) : StepAt Try.prog .any ops Q B Gr F a0 i o := by
  refine step_value hi hg fun a w hb hold hd => ?_
  refine ⟨u, w, ?_, Below.refl _ _, dst_is hc (hF w hb)⟩
  simp only [execOp, ho, hold.eval hs, hv]
  have := hr w hb
  generalize Instr.loadAt ty p = x at this ⊢
  go_simp
theorem st_pick (s t : Nat) (c : Nat) (hc : o.dst = some c) (hi : ops[i]? = some o)
    (hg : ∀ a w, OldAt .any ops i a0 a → (∀ t, waitsB .any ops o t = true → Slot F a w t) → Region.wanted o (yielded ops a.tmps) = true)
    (ho : o.op = .pick (.tmp s) (.tmp t) (.const (.bool false))) (hs : waitsB .any ops o s = true) (ht : waitsB .any ops o t = true) (hFs : ∀ v w, F s v w → v = .bool true) (hFt : ∀ v w, F t v w → v = .bool true)
    (hF : ∀ w, F c (.bool true) w) : StepAt Try.prog .any ops Q B Gr F a0 i o := by
  refine step_value hi hg fun a w hb hold hd => ?_
  obtain ⟨v, e, f⟩ := (hd s hs).eval
  obtain ⟨u, e2, f2⟩ := (hd t ht).eval
  obtain rfl := hFs v w f
  obtain rfl := hFt u w f2
  refine ⟨.bool true, w, ?_, Below.refl _ _, dst_is hc (hF w)⟩
  simp only [execOp, ho, e, e2]
  rfl
theorem st_not (s : Nat) (b : Bool) (ty : Nat) (c : Nat) (hc : o.dst = some c) (hi : ops[i]? = some o)
    (hg : ∀ a w, OldAt .any ops i a0 a → (∀ t, waitsB .any ops o t = true → Slot F a w t) → Region.wanted o (yielded ops a.tmps) = true)
    (ho : o.op = .unOp .not ty (.tmp s)) (hs : waitsB .any ops o s = true) (hFs : ∀ v w, F s v w → v = .bool b) (hF : ∀ w, F c (.bool (!b)) w) : StepAt Try.prog .any ops Q B Gr F a0 i o := by
  refine step_value hi hg fun a w hb hold hd => ?_
  obtain ⟨v, e, f⟩ := (hd s hs).eval
  obtain rfl := hFs v w f
  refine ⟨.bool (!b), w, ?_, Below.refl _ _, dst_is hc (hF w)⟩
  simp only [execOp, ho, e]
  rfl
theorem st_val (s : Nat) (u r : Value) (c : Nat) (hc : o.dst = some c) (hi : ops[i]? = some o)
    (hg : ∀ a w, OldAt .any ops i a0 a → (∀ t, waitsB .any ops o t = true → Slot F a w t) → Region.wanted o (yielded ops a.tmps) = true)
    (hs : lateB .any ops i s = true) (hv : a0.eval (.tmp s) = u) (hr : ∀ (a : Act) w, a.eval (.tmp s) = u → (execOp a.eval o).run Try.prog w = .ok (.value r) w) (hF : ∀ w, F c r w) : StepAt Try.prog .any ops Q B Gr F a0 i o := by
  refine step_value hi hg fun a w hb hold hd => ?_
  exact ⟨r, w, hr a w ((hold.eval hs).trans hv), Below.refl _ _, dst_is hc (hF w)⟩
theorem st_loadAt (ty s : Nat) (p u : Value) (c : Nat) (hc : o.dst = some c) (hi : ops[i]? = some o)
    (hg : ∀ a w, OldAt .any ops i a0 a → (∀ t, waitsB .any ops o t = true → Slot F a w t) → Region.wanted o (yielded ops a.tmps) = true)
    (ho : o.op = .load ty (.tmp s)) (hs : waitsB .any ops o s = true) (hv : ∀ v w, F s v w → v = p) (hr : ∀ w, B w → (Instr.loadAt ty p).run Try.prog w = .ok u w) (hF : ∀ w, B w → F c u w) : StepAt Try.prog .any ops Q B Gr F a0 i o := by
  refine step_value hi hg fun a w hb hold hd => ?_
  obtain ⟨v, e, f⟩ := (hd s hs).eval
  obtain rfl := hv v w f
  refine ⟨u, w, ?_, Below.refl _ _, dst_is hc (hF w hb)⟩
  simp only [execOp, ho, e]
  have := hr w hb
  generalize Instr.loadAt ty v = x at this ⊢
  go_simp
theorem st_call2 (f s t : Nat) (hrun : ∀ x y w, (callFunc f #[x, y]).run Try.prog w = .ok (.enter f #[x, y]) w) (c : Nat) (hc : o.dst = some c) (hi : ops[i]? = some o)
    (hg : ∀ a w, OldAt .any ops i a0 a → (∀ t, waitsB .any ops o t = true → Slot F a w t) → Region.wanted o (yielded ops a.tmps) = true)
    (ats : Array TypeId) (ho : o.op = .call { callee := .value (.func f), args := #[.tmp s, .tmp t], argTypes := ats }) (hs : waitsB .any ops o s = true) (ht : waitsB .any ops o t = true)
    (h : ∀ v u w, B w → F s v w → F t u w → Calls Try.prog f #[v, u] w fun e w' => ∃ r, e = .returned r ∧ Gr w w' ∧ F c r w') : StepAt Try.prog .any ops Q B Gr F a0 i o := by
  refine step_call f hi hg fun a w hb hold hd => ?_
  obtain ⟨v, e, k⟩ := (hd s hs).eval
  obtain ⟨u, e2, k2⟩ := (hd t ht).eval
  refine ⟨#[v, u], ?_, (h v u w hb k k2).mono ?_⟩
  · clear k k2 h
    have e' : a.tmps[s]?.getD undef = v := by rw [← e]; unfold Act.eval; simp
    have e2' : a.tmps[t]?.getD undef = u := by rw [← e2]; unfold Act.eval; simp
    have hr := hrun v u w
    simp only [execOp, ho]
    go_simp
  · rintro e w' ⟨r, rfl, hg, hF⟩
    exact ⟨r, rfl, hg, dst_is hc hF⟩
theorem st_fn (h : ∀ a w, B w → OldAt .any ops i a0 a → (∀ t, waitsB .any ops o t = true → Slot F a w t) → ∃ v, (execOp a.eval o).run Try.prog w = .ok (.value v) w ∧ ∀ d, o.dst = some d → F d v w) (hi : ops[i]? = some o)
    (hg : ∀ a w, OldAt .any ops i a0 a → (∀ t, waitsB .any ops o t = true → Slot F a w t) → Region.wanted o (yielded ops a.tmps) = true) : StepAt Try.prog .any ops Q B Gr F a0 i o := by
  refine step_value hi hg fun a w hb hold hd => ?_
  obtain ⟨v, h1, h2⟩ := h a w hb hold hd
  exact ⟨v, w, h1, Below.refl _ _, h2⟩
/-- A value that is reckoned of what stands in one slot that it waits for. -/
theorem st_on (s : Nat) (u r : Value) (c : Nat) (hc : o.dst = some c) (hi : ops[i]? = some o)
    (hg : ∀ a w, OldAt .any ops i a0 a → (∀ t, waitsB .any ops o t = true → Slot F a w t) → Region.wanted o (yielded ops a.tmps) = true)
    (hs : waitsB .any ops o s = true) (hv : ∀ v w, F s v w → v = u) (hr : ∀ (a : Act) w, B w → a.eval (.tmp s) = u → (execOp a.eval o).run Try.prog w = .ok (.value r) w) (hF : ∀ w, F c r w) : StepAt Try.prog .any ops Q B Gr F a0 i o := by
  refine step_value hi hg fun a w hb hold hd => ?_
  obtain ⟨v, e, f⟩ := (hd s hs).eval
  obtain rfl := hv v w f
  exact ⟨r, w, hr a w hb e, Below.refl _ _, dst_is hc (hF w)⟩
theorem st_on2 (s t : Nat) (u u' r : Value) (c : Nat) (hc : o.dst = some c) (hi : ops[i]? = some o)
    (hg : ∀ a w, OldAt .any ops i a0 a → (∀ t, waitsB .any ops o t = true → Slot F a w t) → Region.wanted o (yielded ops a.tmps) = true)
    (hs : waitsB .any ops o s = true) (ht : waitsB .any ops o t = true) (hv : ∀ v w, F s v w → v = u) (hv' : ∀ v w, F t v w → v = u') (hr : ∀ (a : Act) w, B w → a.eval (.tmp s) = u → a.eval (.tmp t) = u' → (execOp a.eval o).run Try.prog w = .ok (.value r) w) (hF : ∀ w, F c r w) : StepAt Try.prog .any ops Q B Gr F a0 i o := by
  refine step_value hi hg fun a w hb hold hd => ?_
  obtain ⟨v, e, f⟩ := (hd s hs).eval
  obtain rfl := hv v w f
  obtain ⟨v2, e2, f2⟩ := (hd t ht).eval
  obtain rfl := hv' v2 w f2
  exact ⟨r, w, hr a w hb e e2, Below.refl _ _, dst_is hc (hF w)⟩
end
end Go.Proofs.Ytbcikkofbdfmaaa
