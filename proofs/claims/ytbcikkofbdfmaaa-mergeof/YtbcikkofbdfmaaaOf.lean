/- The statement MergeOfSaid: for every lists of rows, every tag and every packet the law MergeOf returns true and leaves its arguments as they were; nothing is asked of the input. -/
import Derived.Test.YtbcikkofbdfmaaaZI
import Derived.Test.YtbcikkofbdfmaaaZE
set_option linter.unusedVariables false
set_option linter.unusedSimpArgs false
namespace Go.Proofs.Ytbcikkofbdfmaaa
open Go.ChangeShapes Go.WideShapes Go.ChangeAt Go.RowKit Go.ChangeMaps Go.Joins

theorem packet_ismof {cs : Array Value} {a0 a1 a2 a3 a4 a5 a6 a7 : Int} (h : cs.toList = [.int .u16 a0, .int .u16 a1, .int .u16 a2, .int .u16 a3, .int .u16 a4, .int .u16 a5, .int .u16 a6, .int .u16 a7]) : Value.agg cs = (⟨a0, a1, a2, a3, a4, a5, a6, a7⟩ : P8).v := by
  have : cs = #[.int .u16 a0, .int .u16 a1, .int .u16 a2, .int .u16 a3, .int .u16 a4, .int .u16 a5, .int .u16 a6, .int .u16 a7] := by apply Array.toList_inj.1; exact h
  rw [this]

set_option maxRecDepth 100000 in
theorem mof_contract (H : Type) (enc : TypeId × Value → H) (W : World) (base : Nat) (args : Array Value) (ds gs : List (DataW H)) (before : List MemPlace)
    (hval : ∀ (j : Nat) t v, Try.f3.params[j]? = some t → args[j]? = some v → Value.okWide Try.prog W .any base t v)
    (hW : DataW.Whole enc Try.prog Try.f3.params.toList Rows.mergeOfSpec.vars false W args.toList ds gs before) :
    Calls Try.prog 3 args W fun e W' => ∃ v, e = .returned v ∧ Rows.mergeOfSpec.post enc Try.prog Try.f3 false true false false W args v W' := by
  have hW' := hW
  obtain ⟨p, q, hA0, hV, rfl, hfz, hnd⟩ := hW
  have hA : DataW.TrodAll enc Try.prog W 0 (fun _ => true) true Try.f3.params.toList args.toList ds p := hA0
  have hA1 := hA
  rw [Try.params3] at hA hval
  obtain ⟨v0, vs0, d0, ds0, p0, q0, hargs, rfl, rfl, h0, r0⟩ := trodAll_cons hA
  obtain ⟨v1, vs1, d1, ds1, p1, q1, rfl, rfl, rfl, h1, r1⟩ := trodAll_cons r0
  obtain ⟨v2, vs2, d2, ds2, p2, q2, rfl, rfl, rfl, h2, r2⟩ := trodAll_cons r1
  obtain ⟨rfl, rfl, rfl⟩ := trodAll_nil r2
  obtain rfl : args = #[v0, v1, v2] := Array.toList_inj.1 hargs
  obtain ⟨rfl, rfl⟩ := trodVars_none hV
  obtain ⟨s0, n0, sc0, rfl⟩ := okWide_slice Try.underlying22 (hval 0 22 v0 rfl rfl)
  obtain ⟨z1, rfl⟩ := okWide_int Try.underlying23 (hval 1 23 v1 rfl rfl)
  obtain ⟨ps, rfl⟩ := okWide_array Try.underlying25 (hval 2 25 v2 rfl rfl)
  obtain ⟨m0, hm0⟩ := h0
  obtain ⟨m1, hm1⟩ := h1
  obtain ⟨m2, hm2⟩ := h2
  obtain ⟨z1', e1, -, w1⟩ := DataW.trod_int Try.underlying23 (show DataW.trod enc Try.prog W 0 _ true m1 23 [.int .u16 z1] = some _ from hm1)
  obtain rfl : z1 = z1' := by simpa using e1
  obtain ⟨b0, b1, b2, b3, b4, b5, b6, b7, hps, -⟩ := packet_of_trod hm2
  have hz := bounds_u16' w1
  obtain ⟨k, rfl⟩ := Int.eq_ofNat_of_zero_le hz.1
  have eps := packet_ismof (cs := ps) hps
  obtain ⟨T, hT⟩ := lists_of_trod (show DataW.trod enc Try.prog W 0 _ true m0 22 [.slice s0 n0 sc0] = some _ from hm0)
  have walk : Calls Try.prog 3 #[.slice s0 n0 sc0, .int .u16 (k : Int), .agg ps] W fun e w' => e = .returned (.bool true) ∧ Below W.heap.size W w' := by
    rw [eps]
    exact mof_any _ T k (by omega) ⟨b0, b1, b2, b3, b4, b5, b6, b7⟩ W hT
  refine walk.mono fun e W' ⟨he, bel⟩ => ?_
  subst he
  have hback := trodAll_below bel _ _ _ _ (by rw [Try.params3]; intro t ht; simp at ht; rcases ht with rfl | rfl | rfl <;> exact ⟨by kernel_rfl, of_decide_eq_true (by kernel_rfl)⟩) hA1
  exact ⟨_, rfl, _, _, _, [], _, [], hW', trodAll_mk1 (shut_bool Try.underlying4 _), hback, rfl, bel.frame _, fun h => by cases h⟩

set_option maxRecDepth 100000 in
theorem mof_lifted (os : Os) (started : os.Started) (H : Type) (enc : TypeId × Value → H) :
    ReturnsInHanded {} Try.checked os 3 .any (Rows.mergeOfSpec.pre6 enc Try.prog Try.f3 Rows.mergeOfRow.domain false) (Rows.mergeOfSpec.post enc Try.prog Try.f3 false true false false) := by
  refine returnsInHanded_of_change (C := Try.checked) own started (by kernel_rfl) Try.func3
    (ChangeSpec.witness6 (enc := enc) (C := Try.checked) false ⟨#[], #[.slice none 0 0, .int .u16 0, pk 0 0 0 0 0 0 0 0], []⟩ 8 (by kernel_rfl) (by kernel_rfl) (by kernel_rfl) (by kernel_rfl)) ?_
  intro W base args ds gs before hval hW _ _
  exact mof_contract H enc W base args ds gs before hval hW

theorem mof_holds : Rows.MergeOfSaid :=
  OpenClaim.holds_of_wide 3 Try.f3 rfl rfl rfl rfl rfl rfl rfl ⟨rfl, rfl, rfl, rfl, rfl⟩ rfl rfl rfl rfl rfl (by kernel_rfl) Try.func3 (by kernel_rfl)
    (of_decide_eq_true (by kernel_rfl)) (by unfold Func.isWrapper; first | (rw [if_pos (by decide +kernel)]; kernel_rfl) | (rw [if_neg (by decide +kernel)]; exact ⟨rfl, rfl⟩))
    (fun os started H enc _ => mof_lifted os started H enc)
end Go.Proofs.Ytbcikkofbdfmaaa
