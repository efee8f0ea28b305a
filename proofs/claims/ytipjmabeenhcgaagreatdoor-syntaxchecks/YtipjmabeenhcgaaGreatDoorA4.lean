/- What packet.Field answers of a text; the fields' names as they lie. -/
import Derived.Test.YtipjmabeenhcgaaGreatDoorA2
import Derived.Deep.QuietTactic
import Derived.BigQuiet
set_option linter.unusedVariables false
set_option linter.unusedSimpArgs false
namespace Go.Proofs.YtipjmabeenhcgaaGreatDoor
open Go.RowKit

structure NamesIs (w : World) : Prop where
  c0 : w.cell? ⟨4, 0, none⟩ = some (.string ⟨#[115, 119]⟩)
  c1 : w.cell? ⟨4, 1, none⟩ = some (.string ⟨#[112, 116]⟩)
  c2 : w.cell? ⟨4, 2, none⟩ = some (.string ⟨#[115, 114, 99]⟩)
  c3 : w.cell? ⟨4, 3, none⟩ = some (.string ⟨#[100, 115, 116]⟩)
  c4 : w.cell? ⟨4, 4, none⟩ = some (.string ⟨#[116, 121, 112]⟩)
  c5 : w.cell? ⟨4, 5, none⟩ = some (.string ⟨#[115, 118, 99]⟩)
  c6 : w.cell? ⟨4, 6, none⟩ = some (.string ⟨#[118, 105, 100]⟩)
  c7 : w.cell? ⟨4, 7, none⟩ = some (.string ⟨#[111, 112, 116]⟩)

/-- The fields' names, and the field of a name. -/
def nm8 : List (List UInt8) := [[115, 119], [112, 116], [115, 114, 99], [100, 115, 116], [116, 121, 112], [115, 118, 99], [118, 105, 100], [111, 112, 116]] 
def fieldOf (l : List UInt8) : Option Nat := nm8.findIdx? fun x => x == l
def fldI (l : List UInt8) : Int := ((fieldOf l).getD 0 : Nat)
def fldB (l : List UInt8) : Bool := (fieldOf l).isSome
theorem fieldOf_hit (l : List UInt8) (k : Nat) (h8 : k < 8) (hk : (nm8.getD k [] == l) = true) (hj : ∀ j, j < k → (nm8.getD j [] == l) = false) : fieldOf l = some k := by
  have h8' : k < nm8.length := h8
  unfold fieldOf
  rw [List.findIdx?_eq_some_iff_getElem]
  refine ⟨h8', ?_, fun j hjk => ?_⟩
  · simpa [List.getD_eq_getElem?_getD, List.getElem?_eq_getElem h8'] using hk
  · have := hj j hjk
    simpa [List.getD_eq_getElem?_getD, List.getElem?_eq_getElem (show j < nm8.length by omega)] using this
theorem fieldOf_miss (l : List UInt8) (hj : ∀ j, j < 8 → (nm8.getD j [] == l) = false) : fieldOf l = none := by
  unfold fieldOf
  rw [List.findIdx?_eq_none_iff]
  intro x hx
  obtain ⟨j, hlt, rfl⟩ := List.mem_iff_getElem.1 hx
  have := hj j hlt
  simpa [List.getD_eq_getElem?_getD, List.getElem?_eq_getElem hlt] using this
theorem more {P : Nat → Prop} {k : Nat} (h : ∀ j, j < k → P j) (hk : P k) : ∀ j, j < k + 1 → P j := by
  intro j hj
  by_cases e : j = k
  · subst e; exact hk
  · exact h j (by omega)
theorem ix0 (w : World) : (Instr.index 139 (.agg #[.string ⟨#[115, 119]⟩, .string ⟨#[112, 116]⟩, .string ⟨#[115, 114, 99]⟩, .string ⟨#[100, 115, 116]⟩, .string ⟨#[116, 121, 112]⟩, .string ⟨#[115, 118, 99]⟩, .string ⟨#[118, 105, 100]⟩, .string ⟨#[111, 112, 116]⟩]) (.int .i64 0)).run Tryz.prog w = .ok (.string ⟨#[115, 119]⟩) w := by kernel_rfl
theorem ix1 (w : World) : (Instr.index 139 (.agg #[.string ⟨#[115, 119]⟩, .string ⟨#[112, 116]⟩, .string ⟨#[115, 114, 99]⟩, .string ⟨#[100, 115, 116]⟩, .string ⟨#[116, 121, 112]⟩, .string ⟨#[115, 118, 99]⟩, .string ⟨#[118, 105, 100]⟩, .string ⟨#[111, 112, 116]⟩]) (.int .i64 1)).run Tryz.prog w = .ok (.string ⟨#[112, 116]⟩) w := by kernel_rfl
theorem ix2 (w : World) : (Instr.index 139 (.agg #[.string ⟨#[115, 119]⟩, .string ⟨#[112, 116]⟩, .string ⟨#[115, 114, 99]⟩, .string ⟨#[100, 115, 116]⟩, .string ⟨#[116, 121, 112]⟩, .string ⟨#[115, 118, 99]⟩, .string ⟨#[118, 105, 100]⟩, .string ⟨#[111, 112, 116]⟩]) (.int .i64 2)).run Tryz.prog w = .ok (.string ⟨#[115, 114, 99]⟩) w := by kernel_rfl
theorem ix3 (w : World) : (Instr.index 139 (.agg #[.string ⟨#[115, 119]⟩, .string ⟨#[112, 116]⟩, .string ⟨#[115, 114, 99]⟩, .string ⟨#[100, 115, 116]⟩, .string ⟨#[116, 121, 112]⟩, .string ⟨#[115, 118, 99]⟩, .string ⟨#[118, 105, 100]⟩, .string ⟨#[111, 112, 116]⟩]) (.int .i64 3)).run Tryz.prog w = .ok (.string ⟨#[100, 115, 116]⟩) w := by kernel_rfl
theorem ix4 (w : World) : (Instr.index 139 (.agg #[.string ⟨#[115, 119]⟩, .string ⟨#[112, 116]⟩, .string ⟨#[115, 114, 99]⟩, .string ⟨#[100, 115, 116]⟩, .string ⟨#[116, 121, 112]⟩, .string ⟨#[115, 118, 99]⟩, .string ⟨#[118, 105, 100]⟩, .string ⟨#[111, 112, 116]⟩]) (.int .i64 4)).run Tryz.prog w = .ok (.string ⟨#[116, 121, 112]⟩) w := by kernel_rfl
theorem ix5 (w : World) : (Instr.index 139 (.agg #[.string ⟨#[115, 119]⟩, .string ⟨#[112, 116]⟩, .string ⟨#[115, 114, 99]⟩, .string ⟨#[100, 115, 116]⟩, .string ⟨#[116, 121, 112]⟩, .string ⟨#[115, 118, 99]⟩, .string ⟨#[118, 105, 100]⟩, .string ⟨#[111, 112, 116]⟩]) (.int .i64 5)).run Tryz.prog w = .ok (.string ⟨#[115, 118, 99]⟩) w := by kernel_rfl
theorem ix6 (w : World) : (Instr.index 139 (.agg #[.string ⟨#[115, 119]⟩, .string ⟨#[112, 116]⟩, .string ⟨#[115, 114, 99]⟩, .string ⟨#[100, 115, 116]⟩, .string ⟨#[116, 121, 112]⟩, .string ⟨#[115, 118, 99]⟩, .string ⟨#[118, 105, 100]⟩, .string ⟨#[111, 112, 116]⟩]) (.int .i64 6)).run Tryz.prog w = .ok (.string ⟨#[118, 105, 100]⟩) w := by kernel_rfl
theorem ix7 (w : World) : (Instr.index 139 (.agg #[.string ⟨#[115, 119]⟩, .string ⟨#[112, 116]⟩, .string ⟨#[115, 114, 99]⟩, .string ⟨#[100, 115, 116]⟩, .string ⟨#[116, 121, 112]⟩, .string ⟨#[115, 118, 99]⟩, .string ⟨#[118, 105, 100]⟩, .string ⟨#[111, 112, 116]⟩]) (.int .i64 7)).run Tryz.prog w = .ok (.string ⟨#[111, 112, 116]⟩) w := by kernel_rfl

set_option maxRecDepth 100000 in
set_option maxHeartbeats 1000000 in
theorem field_any (s : ByteArray) (w : World) (h : NamesIs w) : Calls Tryz.prog 80 #[.string s] w fun e w' => e = .returned (.tuple #[.int .i64 (fldI s.toList), .bool (fldB s.toList)]) ∧ w' = w := by
  obtain ⟨c0, c1, c2, c3, c4, c5, c6, c7⟩ := h
  have i0 := ix0; have i1 := ix1; have i2 := ix2; have i3 := ix3; have i4 := ix4; have i5 := ix5; have i6 := ix6; have i7 := ix7
  have hit : Hid (∀ k : Nat, k < 8 → (nm8.getD k [] == s.toList) = true → (∀ j, j < k → (nm8.getD j [] == s.toList) = false) → Ending.returned (.tuple #[.int .i64 (k : Int), .bool true]) = .returned (.tuple #[.int .i64 (fldI s.toList), .bool (fldB s.toList)])) := by
    intro k h8 hk hj
    simp [fldI, fldB, fieldOf_hit _ k h8 hk hj]
  have miss : Hid ((∀ j, j < 8 → (nm8.getD j [] == s.toList) = false) → Ending.returned (.tuple #[.int .i64 0, .bool false]) = .returned (.tuple #[.int .i64 (fldI s.toList), .bool (fldB s.toList)])) := by
    intro hj
    simp [fldI, fldB, fieldOf_miss _ hj]
  go_enter Tryz.func80, Tryz.ntmps80
  go_wp2
  go_loop [7] (fun i => ∃ k : Nat, k ≤ 8 ∧ i = .int .i64 k ∧ Hid (∀ j, j < k → (nm8.getD j [] == s.toList) = false)) (fun i => 8 - (intOf i).toNat)
  case atStart => exact ⟨0, Nat.zero_le _, rfl, fun j hj => by omega⟩
  case round =>
    clear c0 c1 c2 c3 c4 c5 c6 c7
    obtain ⟨k, hk, rfl, hj⟩ := hrel
    have hc : k = 0 ∨ k = 1 ∨ k = 2 ∨ k = 3 ∨ k = 4 ∨ k = 5 ∨ k = 6 ∨ k = 7 ∨ k = 8 := by omega
    clear hk
    rcases hc with rfl | rfl | rfl | rfl | rfl | rfl | rfl | rfl | rfl
    iterate 8
      · go_wp2
        · go_ret2
          exact ⟨hit.out _ (by decide) ‹_› hj.out, rfl⟩
        · exact ⟨⟨_, by decide, rfl, more hj.out ‹_›⟩, by simp [intOf]⟩
    · go_wp2
      go_ret2
      exact ⟨miss.out hj.out, rfl⟩
theorem NamesIs.below {w w' : World} (h : NamesIs w) (hb : Below w.heap.size w w') : NamesIs w' := by
  have h0 : 4 < w.heap.size := by have := block_lt_of_cell h.c0; simpa using this
  have q := fun o => hb.cell (p := ⟨4, o, none⟩) h0
  exact ⟨by rw [q]; exact h.c0, by rw [q]; exact h.c1, by rw [q]; exact h.c2, by rw [q]; exact h.c3, by rw [q]; exact h.c4, by rw [q]; exact h.c5, by rw [q]; exact h.c6, by rw [q]; exact h.c7⟩
theorem field_list (x : List UInt8) (w : World) (h : NamesIs w) : Calls Tryz.prog 80 #[str x] w fun e w' => e = .returned (.tuple #[.int .i64 (fldI x), .bool (fldB x)]) ∧ w' = w := by
  have := field_any ⟨x.toArray⟩ w h
  rw [Lib.toList_data] at this
  exact this
end Go.Proofs.YtipjmabeenhcgaaGreatDoor
