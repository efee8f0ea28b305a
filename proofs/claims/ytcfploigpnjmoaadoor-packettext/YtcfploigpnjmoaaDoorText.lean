/- The card PacketTextCardSaid: for every packet and text the law PacketText returns true and leaves its arguments as they were; the listed variables hold what the program's text lays; nothing else is asked. -/
import Derived.Test.YtcfploigpnjmoaaDoorRow
import Derived.Test.YtcfploigpnjmoaaDoorT7
import Derived.ChangeMaps5
set_option linter.unusedVariables false
set_option linter.unusedSimpArgs false
namespace Go.Proofs.YtcfploigpnjmoaaDoor
open Go.ChangeShapes Go.WideShapes Go.ChangeAt Go.RowKit Go.ChangeMaps

set_option maxRecDepth 100000 in
theorem text_contract (H : Type) (enc : TypeId × Value → H) (W : World) (base : Nat) (args : Array Value) (ds gs : List (DataW H)) (before : List MemPlace)
    (hval : ∀ (j : Nat) t v, Tryd.f4.params[j]? = some t → args[j]? = some v → Value.okWide Tryd.prog W .any base t v)
    (hW : DataW.Whole enc Tryd.prog Tryd.f4.params.toList Rows.packetTextSpec.vars false W args.toList ds gs before) (hL : laidMetH Tryd.prog laidList W) (hS : W.ShapedOpen Tryd.prog) :
    Calls Tryd.prog 4 args W fun e W' => ∃ v, e = .returned v ∧ Rows.packetTextSpec.post enc Tryd.prog Tryd.f4 false true false false W args v W' := by
  have hE := env_of hL hS
  have hW' := hW
  obtain ⟨p, q, hA0, hV, rfl, hfz, hnd⟩ := hW
  have hA : DataW.TrodAll enc Tryd.prog W 0 (fun _ => true) true Tryd.f4.params.toList args.toList ds p := hA0
  have hA1 := hA
  rw [Tryd.params4] at hA hval
  obtain ⟨v0, vs0, d0, ds0, p0, q0, hargs, rfl, rfl, h0, r0⟩ := trodAll_cons hA
  obtain ⟨v1, vs1, d1, ds1, p1, q1, rfl, rfl, rfl, h1, r1⟩ := trodAll_cons r0
  obtain ⟨rfl, rfl, rfl⟩ := trodAll_nil r1
  obtain rfl : args = #[v0, v1] := Array.toList_inj.1 hargs
  obtain ⟨rfl, rfl⟩ := trodVars_none hV
  obtain ⟨cs, rfl⟩ := okWide_array Tryd.underlying24 (hval 0 24 v0 rfl rfl)
  obtain ⟨st, rfl, _, _, _⟩ := open_string Tryd.underlying9 (hval 1 9 v1 rfl rfl) h1
  obtain ⟨m0, hm0⟩ := h0
  obtain ⟨a0, a1, a2, a3, a4, a5, a6, a7, hcs, hbd⟩ := packet_of_trod hm0
  have ecs : cs = #[.int .u16 a0, .int .u16 a1, .int .u16 a2, .int .u16 a3, .int .u16 a4, .int .u16 a5, .int .u16 a6, .int .u16 a7] := by
    apply Array.toList_inj.1; exact hcs
  subst ecs
  have hr : ∀ k, 0 ≤ [a0, a1, a2, a3, a4, a5, a6, a7].getD k 0 ∧ [a0, a1, a2, a3, a4, a5, a6, a7].getD k 0 ≤ 65535 := by
    intro k
    by_cases hk : k < [a0, a1, a2, a3, a4, a5, a6, a7].length
    · rw [List.getD_eq_getElem?_getD, List.getElem?_eq_getElem hk]
      exact hbd _ (List.getElem_mem hk)
    · rw [List.getD_eq_getElem?_getD, List.getElem?_eq_none (by omega)]
      exact ⟨by decide, by decide⟩
  have walk : Calls Tryd.prog 4 #[pk a0 a1 a2 a3 a4 a5 a6 a7, .string st] W fun e w' => e = .returned (.bool true) ∧ Below W.heap.size W w' := by
    rw [show st = ⟨st.data.toList.toArray⟩ by simp]
    by_cases h300 : 300 < st.data.toList.length
    · exact text_long a0 a1 a2 a3 a4 a5 a6 a7 _ W hE h300
    · exact text_short a0 a1 a2 a3 a4 a5 a6 a7 hr _ W hE (by omega)
  refine walk.mono fun e W' ⟨he, bel⟩ => ?_
  subst he
  have hback := trodAll_below bel _ _ _ _ (by rw [Tryd.params4]; intro t ht; simp at ht; rcases ht with rfl | rfl <;> exact ⟨by kernel_rfl, of_decide_eq_true (by kernel_rfl)⟩) hA1
  exact ⟨_, rfl, _, _, _, [], _, [], hW', trodAll_mk1 (shut_bool Tryd.underlying4 _), hback, rfl, bel.frame _, fun h => by cases h⟩

theorem text_reads (os : Os) {H : Type} (enc : TypeId × Value → H) : ∃ places, DataW.whole enc Tryd.prog ((World.doorLaid Tryd.prog 67 os).forCall (fun _ _ => 0) ⟨#[], #[pk 0 0 0 0 0 0 0 0, .string ⟨#[]⟩], []⟩).memory Tryd.f4.params.toList Rows.packetTextSpec.vars false #[pk 0 0 0 0 0 0 0 0, .string ⟨#[]⟩].toList 8 = some ([.agg [.lit (.int .u16 0), .lit (.int .u16 0), .lit (.int .u16 0), .lit (.int .u16 0), .lit (.int .u16 0), .lit (.int .u16 0), .lit (.int .u16 0), .lit (.int .u16 0)], .lit (.string [])], [], places) :=
  ⟨[], by kernel_rfl⟩

set_option maxRecDepth 100000 in
theorem text_lifted (os : Os) (started : os.Started) (H : Type) (enc : TypeId × Value → H) (F : Stop.Interp) :
    ReturnsInHanded {} Tryd.checked os 4 .any ((OpenSpec.ofChange Rows.packetTextSpec).preRow enc Tryd.prog Tryd.f4 Rows.packetTextRow.domain false Rows.packetTextRow.laid) (((OpenSpec.ofChange Rows.packetTextSpec).at F).post enc Tryd.prog Tryd.f4 false true false false) := by
  obtain ⟨places, hx⟩ := text_reads os enc
  refine returnsInHanded_of_row (C := Tryd.checked) (s := OpenSpec.ofChange Rows.packetTextSpec) own started (by kernel_rfl) Tryd.func4
    (witness_row_atRef (enc := enc) (C := Tryd.checked) false (World.doorLaid Tryd.prog 67 os) #[pk 0 0 0 0 0 0 0 0, .string ⟨#[]⟩] rfl (by kernel_rfl) (by kernel_rfl) (by kernel_rfl)
      (OpenSpec.preRow_of_cond 8 hx (by kernel_rfl) (fun k hk => by cases hk) (by kernel_rfl) (door_met os _))) ?_
  intro W base args ds gs before hval hW _ _ _ hL hS _
  exact text_contract H enc W base args ds gs before hval hW hL hS

theorem text_said : Rows.PacketTextSaid :=
  OpenClaim.holds_of_cond 4 Tryd.f4 rfl rfl rfl rfl rfl rfl rfl ⟨rfl, rfl, rfl, rfl, rfl⟩ rfl rfl rfl rfl rfl (by kernel_rfl) Tryd.func4 (by kernel_rfl)
    (of_decide_eq_true (by kernel_rfl)) (by unfold Func.isWrapper; first | (rw [if_pos (by decide +kernel)]; kernel_rfl) | (rw [if_neg (by decide +kernel)]; exact ⟨rfl, rfl⟩))
    (fun os started H enc _ F => by rw [OpenClaim.pre_eq_preRow]; exact text_lifted os started H enc F)

theorem text_plain (f : FuncId) (fn : Func) (hf : Tryd.pinned.checked.prog.funcNamed "pointsman/pointsmanlaw01.PacketText" = some f) (hfn : Tryd.pinned.checked.prog.funcs[f]? = some fn) :
    true = Tryd.pinned.checked.prog.looks [] ∧ ∀ (j : Nat) t, fn.params[j]? = some t → Tryd.pinned.checked.prog.wantsStandIn t = false := by
  obtain rfl : f = 4 := Option.some.inj ((show Tryd.prog.funcNamed "pointsman/pointsmanlaw01.PacketText" = some 4 by kernel_rfl).symm.trans hf) |>.symm
  obtain rfl : fn = Tryd.f4 := (Option.some.inj (Tryd.func4.symm.trans hfn)).symm
  refine ⟨by kernel_rfl, fun j t ht => ?_⟩
  rw [Tryd.params4] at ht
  have hm := Array.mem_of_getElem? ht
  simp at hm
  rcases hm with rfl | rfl
  · exact (show Tryd.prog.wantsStandIn 24 = false by kernel_rfl)
  · exact (show Tryd.prog.wantsStandIn 9 = false by kernel_rfl)

theorem packetText_card : Rows.PacketTextCardSaid :=
  Claim7.holds_tied_plain_at .later [] _ _ _ _ text_said (fun _ h => by cases h) (by kernel_rfl) (fun _ h => by cases h) packetText_row_tie rfl ⟨rfl, rfl⟩ (by kernel_rfl) rfl text_plain (by kernel_rfl)
end Go.Proofs.YtcfploigpnjmoaaDoor
