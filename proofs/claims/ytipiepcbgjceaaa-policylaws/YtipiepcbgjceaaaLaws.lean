/- The statement PolicyLawsSaid: for every three lists of steps, every state and every packet the law PolicyLaws returns true and leaves its arguments as they were; nothing is asked of the input. -/
import Derived.Test.YtipiepcbgjceaaaRow
import Derived.Test.YtipiepcbgjceaaaV5
import Derived.Test.YtipiepcbgjceaaaOZ
set_option linter.unusedVariables false
set_option linter.unusedSimpArgs false
namespace Go.Proofs.Ytipiepcbgjceaaa
open Go.ChangeShapes Go.WideShapes Go.ChangeAt Go.RowKit Go.ChangeMaps Go.Joins

set_option maxRecDepth 100000 in
theorem laws_contract (H : Type) (enc : TypeId × Value → H) (W : World) (base : Nat) (args : Array Value) (ds gs : List (DataW H)) (before : List MemPlace)
    (hval : ∀ (j : Nat) t v, Try.f5.params[j]? = some t → args[j]? = some v → Value.okWide Try.prog W .any base t v)
    (hW : DataW.Whole enc Try.prog Try.f5.params.toList Rows.policyLawsSpec.vars false W args.toList ds gs before) :
    Calls Try.prog 5 args W fun e W' => ∃ v, e = .returned v ∧ Rows.policyLawsSpec.post enc Try.prog Try.f5 false true false false W args v W' := by
  have hW' := hW
  obtain ⟨p, q, hA0, hV, rfl, hfz, hnd⟩ := hW
  have hA : DataW.TrodAll enc Try.prog W 0 (fun _ => true) true Try.f5.params.toList args.toList ds p := hA0
  have hA1 := hA
  rw [Try.params5] at hA hval
  obtain ⟨v0, vs0, d0, ds0, p0, q0, hargs, rfl, rfl, h0, r0⟩ := trodAll_cons hA
  obtain ⟨v1, vs1, d1, ds1, p1, q1, rfl, rfl, rfl, h1, r1⟩ := trodAll_cons r0
  obtain ⟨v2, vs2, d2, ds2, p2, q2, rfl, rfl, rfl, h2, r2⟩ := trodAll_cons r1
  obtain ⟨rfl, rfl, rfl⟩ := trodAll_nil r2
  obtain rfl : args = #[v0, v1, v2] := Array.toList_inj.1 hargs
  obtain ⟨rfl, rfl⟩ := trodVars_none hV
  obtain ⟨cs, rfl⟩ := okWide_array Try.underlying47 (hval 0 47 v0 rfl rfl)
  obtain ⟨s1, n1, sc1, rfl⟩ := okWide_slice Try.underlying23 (hval 1 23 v1 rfl rfl)
  obtain ⟨ps, rfl⟩ := okWide_array Try.underlying26 (hval 2 26 v2 rfl rfl)
  obtain ⟨m0, hm0⟩ := h0
  obtain ⟨m1, hm1⟩ := h1
  obtain ⟨m2, hm2⟩ := h2
  obtain ⟨w0, w1, w2, hcs, ⟨l0, a0, c0, rfl, k0, k1, k2⟩, ⟨l1, a1, c1, rfl, j0, j1, j2⟩, ⟨l2, a2, c2, rfl, g0, g1, g2⟩⟩ := steps3_of_trod hm0
  obtain ⟨st, rfl, i0, i1, i2⟩ := nums_of_trod (show DataW.trod enc Try.prog W 0 _ true m1 23 [.slice s1 n1 sc1] = some _ from hm1)
  obtain ⟨b0, b1, b2, b3, b4, b5, b6, b7, hps, hbd⟩ := packet_of_trod hm2
  have ecs : cs = #[.slice a0 l0.length c0, .slice a1 l1.length c1, .slice a2 l2.length c2] := by apply Array.toList_inj.1; exact hcs
  have eps := packet_is (cs := ps) hps
  subst ecs
  have walk : Calls Try.prog 5 #[.agg #[.slice a0 l0.length c0, .slice a1 l1.length c1, .slice a2 l2.length c2], .slice s1 st.length sc1, .agg ps] W fun e w' => e = .returned (.bool true) ∧ Below W.heap.size W w' := by
    rw [eps]
    exact laws_any l0 l1 l2 _ _ _ st _ ⟨b0, b1, b2, b3, b4, b5, b6, b7⟩ W k1 k0 k2 j1 j0 j2 g1 g0 g2 i1 i0 hbd
  refine walk.mono fun e W' ⟨he, bel⟩ => ?_
  subst he
  have hback := trodAll_below bel _ _ _ _ (by rw [Try.params5]; intro t ht; simp at ht; rcases ht with rfl | rfl | rfl <;> exact ⟨by kernel_rfl, of_decide_eq_true (by kernel_rfl)⟩) hA1
  exact ⟨_, rfl, _, _, _, [], _, [], hW', trodAll_mk1 (shut_bool Try.underlying4 _), hback, rfl, bel.frame _, fun h => by cases h⟩

set_option maxRecDepth 100000 in
theorem laws_lifted (os : Os) (started : os.Started) (H : Type) (enc : TypeId × Value → H) :
    ReturnsInHanded {} Try.checked os 5 .any (Rows.policyLawsSpec.pre6 enc Try.prog Try.f5 Rows.policyLawsRow.domain false) (Rows.policyLawsSpec.post enc Try.prog Try.f5 false true false false) := by
  refine returnsInHanded_of_change (C := Try.checked) own started (by kernel_rfl) Try.func5
    (ChangeSpec.witness6 (enc := enc) (C := Try.checked) false ⟨#[], #[.agg #[.slice none 0 0, .slice none 0 0, .slice none 0 0], .slice none 0 0, pk 0 0 0 0 0 0 0 0], []⟩ 8 (by kernel_rfl) (by kernel_rfl) (by kernel_rfl) (by kernel_rfl)) ?_
  intro W base args ds gs before hval hW _ _
  exact laws_contract H enc W base args ds gs before hval hW

theorem laws_holds : Rows.PolicyLawsSaid :=
  OpenClaim.holds_of_wide 5 Try.f5 rfl rfl rfl rfl rfl rfl rfl ⟨rfl, rfl, rfl, rfl, rfl⟩ rfl rfl rfl rfl rfl (by kernel_rfl) Try.func5 (by kernel_rfl)
    (of_decide_eq_true (by kernel_rfl)) (by unfold Func.isWrapper; first | (rw [if_pos (by decide +kernel)]; kernel_rfl) | (rw [if_neg (by decide +kernel)]; exact ⟨rfl, rfl⟩))
    (fun os started H enc _ => laws_lifted os started H enc)
end Go.Proofs.Ytipiepcbgjceaaa
