/- What frame.kindOf, packet.To, frame.placeless, frame.Bare, frame.Tagged, the document's Clean, frame.hasShape and frame.isFrame answer; no conditions but texts of up to 1000 bytes. -/
import Derived.Test.YtaplnbofglljdaaA2
set_option linter.unusedVariables false
set_option linter.unusedSimpArgs false
namespace Go.Proofs.Ytaplnbofglljdaa
open Go.RowKit Go.Joins

abbrev pkv (a0 a1 a2 a3 a4 a5 a6 a7 : Nat) : Value := .agg #[.int .u16 a0, .int .u16 a1, .int .u16 a2, .int .u16 a3, .int .u16 a4, .int .u16 a5, .int .u16 a6, .int .u16 a7]
abbrev frc (a0 a1 a2 a3 a4 a5 a6 a7 : Nat) (tg : Bool) (tag dg : Nat) : Array Value := #[.int .u16 a0, .int .u16 a1, .int .u16 a2, .int .u16 a3, .int .u16 a4, .int .u16 a5, .int .u16 a6, .int .u16 a7, .bool tg, .int .u16 tag, .int .u64 dg]
abbrev frv (a0 a1 a2 a3 a4 a5 a6 a7 : Nat) (tg : Bool) (tag dg : Nat) : Value := .agg (frc a0 a1 a2 a3 a4 a5 a6 a7 tg tag dg)

set_option maxHeartbeats 400000 in
theorem kindOf_any (a0 a1 a2 a3 a4 a5 a6 a7 : Nat) (tg : Bool) (tag dg : Nat) (w : World) :
    Calls Try.prog 14 #[frv a0 a1 a2 a3 a4 a5 a6 a7 tg tag dg] w fun e w' => e = .returned (.int .u8 ((kindB tg).toNat : Int)) ∧ w' = w.alloc (.cells (frc a0 a1 a2 a3 a4 a5 a6 a7 tg tag dg) 28) := by
  unfold frv frc
  cases tg
  all_goals
    go_enter Try.func14, Try.ntmps14
    go_wp2
    go_ret
    exact ⟨rfl, rfl⟩

abbrev pkc (a0 a1 a2 a3 a4 a5 a6 a7 : Nat) : Array Value := #[.int .u16 a0, .int .u16 a1, .int .u16 a2, .int .u16 a3, .int .u16 a4, .int .u16 a5, .int .u16 a6, .int .u16 a7]
set_option maxHeartbeats 400000 in
theorem to_any (a0 a1 a2 a3 a4 a5 a6 a7 s p : Nat) (w : World) :
    Calls Try.prog 24 #[pkv a0 a1 a2 a3 a4 a5 a6 a7, .agg #[.int .u16 s, .int .u16 p]] w fun e w' => e = .returned (pkv s p a2 a3 a4 a5 a6 a7) ∧ w' = ((w.alloc (.cells (pkc s p a2 a3 a4 a5 a6 a7) 24)).alloc (.cells #[.int .u16 s, .int .u16 p] 54)).alloc (.cells (pkc s p a2 a3 a4 a5 a6 a7) 24) := by
  unfold pkv pkc
  go_enter Try.func24, Try.ntmps24
  go_wp2
  exact bodyPost_ret (v := pkv s p a2 a3 a4 a5 a6 a7) (by simp [results, Try.results24, go_sem]) rfl ⟨rfl, rfl⟩
theorem to_zero (a0 a1 a2 a3 a4 a5 a6 a7 : Nat) (w : World) :
    Calls Try.prog 24 #[pkv a0 a1 a2 a3 a4 a5 a6 a7, .agg #[.int .u16 0, .int .u16 0]] w fun e w' => e = .returned (.agg #[.int .u16 0, .int .u16 0, .int .u16 a2, .int .u16 a3, .int .u16 a4, .int .u16 a5, .int .u16 a6, .int .u16 a7]) ∧ w' = ((w.alloc (.cells #[.int .u16 0, .int .u16 0, .int .u16 a2, .int .u16 a3, .int .u16 a4, .int .u16 a5, .int .u16 a6, .int .u16 a7] 24)).alloc (.cells #[.int .u16 0, .int .u16 0] 54)).alloc (.cells #[.int .u16 0, .int .u16 0, .int .u16 a2, .int .u16 a3, .int .u16 a4, .int .u16 a5, .int .u16 a6, .int .u16 a7] 24) :=
  to_any a0 a1 a2 a3 a4 a5 a6 a7 0 0 w

set_option maxHeartbeats 400000 in
theorem placeless_any (a0 a1 a2 a3 a4 a5 a6 a7 : Nat) (w : World) :
    Calls Try.prog 21 #[pkv a0 a1 a2 a3 a4 a5 a6 a7] w fun e w' => e = .returned (.agg #[.int .u16 0, .int .u16 0, .int .u16 a2, .int .u16 a3, .int .u16 a4, .int .u16 a5, .int .u16 a6, .int .u16 a7]) ∧ ∃ o1 o2 o3 o4 o5 : Obj, w' = ((((w.alloc o1).alloc o2).alloc o3).alloc o4).alloc o5 := by
  unfold pkv
  go_enter Try.func21, Try.ntmps21
  go_wp2_with (go_at_call 24; refine (to_zero _ _ _ _ _ _ _ _ _).mono ?_; rintro e w' ⟨rfl, rfl⟩)
  exact bodyPost_ret (v := .agg #[.int .u16 0, .int .u16 0, .int .u16 a2, .int .u16 a3, .int .u16 a4, .int .u16 a5, .int .u16 a6, .int .u16 a7]) (by simp [results, Try.results21, go_sem]) rfl ⟨rfl, _, _, _, _, _, rfl⟩
theorem below7 (w : World) (o1 o2 o3 o4 o5 o6 o7 : Obj) : Below w.heap.size w (((((((w.alloc o1).alloc o2).alloc o3).alloc o4).alloc o5).alloc o6).alloc o7) :=
  ((((((((Below.refl _ _).alloc (Nat.le_refl _) _).alloc (by simp) _).alloc (by simp; omega) _).alloc (by simp; omega) _).alloc (by simp; omega) _).alloc (by simp; omega) _).alloc (by simp; omega) _)

set_option maxHeartbeats 400000 in
theorem bare_any (a0 a1 a2 a3 a4 a5 a6 a7 : Nat) (w : World) :
    Calls Try.prog 11 #[pkv a0 a1 a2 a3 a4 a5 a6 a7] w fun e w' => e = .returned (frv 0 0 a2 a3 a4 a5 a6 a7 false 0 0) ∧ Below w.heap.size w w' := by
  unfold pkv frv frc
  go_enter Try.func11, Try.ntmps11
  go_wp2_with (go_at_call 21; refine (placeless_any _ _ _ _ _ _ _ _ _).mono ?_; rintro e w' ⟨rfl, o1, o2, o3, o4, o5, rfl⟩)
  exact bodyPost_ret (v := frv 0 0 a2 a3 a4 a5 a6 a7 false 0 0) (by simp [results, Try.results11, go_sem]) rfl ⟨rfl, below7 _ _ _ _ _ _ _ _⟩
set_option maxHeartbeats 400000 in
theorem tagged_any (a0 a1 a2 a3 a4 a5 a6 a7 tag dg : Nat) (w : World) :
    Calls Try.prog 12 #[pkv a0 a1 a2 a3 a4 a5 a6 a7, .int .u16 tag, .int .u64 dg] w fun e w' => e = .returned (frv 0 0 a2 a3 a4 a5 a6 a7 true tag dg) ∧ Below w.heap.size w w' := by
  unfold pkv frv frc
  go_enter Try.func12, Try.ntmps12
  go_wp2_with (go_at_call 21; refine (placeless_any _ _ _ _ _ _ _ _ _).mono ?_; rintro e w' ⟨rfl, o1, o2, o3, o4, o5, rfl⟩)
  exact bodyPost_ret (v := frv 0 0 a2 a3 a4 a5 a6 a7 true tag dg) (by simp [results, Try.results12, go_sem]) rfl ⟨rfl, below7 _ _ _ _ _ _ _ _⟩
set_option maxHeartbeats 400000 in
theorem clean_bare (a0 a1 a2 a3 a4 a5 a6 a7 tag dg : Nat) (w : World) :
    Calls Try.prog 10 #[frv a0 a1 a2 a3 a4 a5 a6 a7 false tag dg] w fun e w' => e = .returned (frv 0 0 a2 a3 a4 a5 a6 a7 false 0 0) ∧ Below w.heap.size w w' := by
  unfold frv frc
  go_enter Try.func10, Try.ntmps10
  go_wp2
  refine bodyPost_ret (v := frv 0 0 a2 a3 a4 a5 a6 a7 false 0 0) (by simp [results, Try.results10, go_sem]) rfl ⟨rfl, ?_⟩
  exact ((Below.refl _ _).alloc (Nat.le_refl _) _).alloc (by simp) _
set_option maxHeartbeats 400000 in
theorem clean_tagged (a0 a1 a2 a3 a4 a5 a6 a7 tag dg : Nat) (w : World) :
    Calls Try.prog 10 #[frv a0 a1 a2 a3 a4 a5 a6 a7 true tag dg] w fun e w' => e = .returned (frv 0 0 a2 a3 a4 a5 a6 a7 true tag dg) ∧ Below w.heap.size w w' := by
  unfold frv frc
  go_enter Try.func10, Try.ntmps10
  go_wp2
  refine bodyPost_ret (v := frv 0 0 a2 a3 a4 a5 a6 a7 true tag dg) (by simp [results, Try.results10, go_sem]) rfl ⟨rfl, ?_⟩
  exact ((Below.refl _ _).alloc (Nat.le_refl _) _).alloc (by simp) _
end Go.Proofs.Ytaplnbofglljdaa
