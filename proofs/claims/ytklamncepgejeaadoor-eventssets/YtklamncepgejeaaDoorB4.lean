/- What the document's Digits answers of a number from 0 to 99, and its Text of a set: the set's text; no conditions but the set's range. -/
import Derived.Test.YtklamncepgejeaaDoorB2
import Derived.Laws.BytesArg
set_option linter.unusedVariables false
set_option linter.unusedSimpArgs false
namespace Go.Proofs.YtklamncepgejeaaDoor
open Go.RowKit Go.Joins Go.Sort

theorem wr64 (z : Int) (h0 : 0 ≤ z) (h1 : z ≤ 9223372036854775807) : IntKind.i64.wrap z = z := by
  simp [IntKind.wrap, IntKind.signed, IntKind.bits]; omega
theorem wr8 (z : Int) (h0 : 0 ≤ z) (h1 : z ≤ 255) : IntKind.u8.wrap z = z := by
  simp [IntKind.wrap, IntKind.signed, IntKind.bits]; omega
theorem lt_alloc (w : World) (o : Obj) : w.heap.size < ((w.alloc o).drew).heap.size := by simp
theorem cat_one (X : List UInt8) (c : UInt8) : Ending.returned (.string ((⟨X.toArray⟩ : ByteArray) ++ ⟨#[c]⟩)) = .returned (.string ⟨(X ++ [c]).toArray⟩) := by
  have e : ((⟨X.toArray⟩ : ByteArray) ++ ⟨#[c]⟩) = ⟨(X ++ [c]).toArray⟩ := by
    apply ByteArray.ext
    rw [ByteArray.data_append]
    simp
  rw [e]
theorem cat_two (a b : List UInt8) : ((⟨a.toArray⟩ : ByteArray) ++ ⟨b.toArray⟩) = ⟨(a ++ b).toArray⟩ := by
  apply ByteArray.ext
  rw [ByteArray.data_append]
  simp
theorem conv_byte (W : World) (b : Nat) (z : Int) (h : W.cell? ⟨b, 0, none⟩ = some (.int .u8 z)) :
    (convert 43 9 (.slice (some ⟨b, 0, none⟩) 1 1)).run Tryd.prog W = .ok (.string ⟨#[UInt8.ofNat z.toNat]⟩) W := by
  have := run_convert_bytes_arg (P := Tryd.prog) W 43 5 Tryd.underlying43 Tryd.underlying5 b 0 1 1 [z] rfl (fun i hi => by
    obtain rfl : i = 0 := by omega
    simpa using h) 9 Tryd.underlying9
  rw [this]; rfl

set_option maxRecDepth 100000 in
set_option maxHeartbeats 400000 in
theorem digits_small (n : Nat) (h : n < 10) (w : World) : Calls Tryd.prog 36 #[.int .i64 n] w fun e w' => e = .returned (.string ⟨(Lib.decDigits n).toArray⟩) ∧ Below w.heap.size w w' := by
  have d : decide ((n : Int) < 10) = true := by simp; omega
  have hcv := fun W b => conv_byte W b (48 + (n : Int))
  have hd : Hid (Lib.decDigits n = [UInt8.ofNat (48 + (n : Int)).toNat]) := by
    show _ = _
    rw [Lib.decDigits_one h]
    congr 2
  generalize UInt8.ofNat (48 + (n : Int)).toNat = c at *
  go_enter Tryd.func36, Tryd.ntmps36
  go_wp2
  go_ret
  exact ⟨by rw [hd.out]; rfl, (Below.refl _ _).alloc (Nat.le_refl _) _⟩

set_option maxRecDepth 100000 in
set_option maxHeartbeats 1000000 in
theorem digits_step (n : Nat) (h : ¬ n < 10) (hn : n < 100) (w : World) (ih : Hid (∀ w : World, Calls Tryd.prog 36 #[.int .i64 ((n : Int) / 10)] w fun e w' => e = .returned (.string ⟨(Lib.decDigits (n / 10)).toArray⟩) ∧ Below w.heap.size w w')) :
    Calls Tryd.prog 36 #[.int .i64 n] w fun e w' => e = .returned (.string ⟨(Lib.decDigits n).toArray⟩) ∧ Below w.heap.size w w' := by
  have d : decide ((n : Int) < 10) = false := by simp; omega
  have hcv := fun W b => conv_byte W b (48 + (n : Int) % 10)
  have hd : Hid (Lib.decDigits n = Lib.decDigits (n / 10) ++ [UInt8.ofNat (48 + (n : Int) % 10).toNat]) := by
    show _ = _
    rw [Lib.decDigits, dif_neg h]
    congr 3
  have hlen : (Lib.decDigits (n / 10)).length ≤ 20 := by
    rw [dec_small (n / 10) (by omega)]; simp
  generalize UInt8.ofNat (48 + (n : Int) % 10).toNat = c at *
  generalize Lib.decDigits (n / 10) = X at *
  have e1 : (n : Int).tmod 10 = (n : Int) % 10 := Int.tmod_eq_emod_of_nonneg (by omega)
  have e2 : IntKind.i64.wrap ((n : Int) / 10) = (n : Int) / 10 := wr64 _ (by omega) (by omega)
  have e3 : IntKind.i64.wrap (48 + (n : Int) % 10) = 48 + (n : Int) % 10 := wr64 _ (by omega) (by omega)
  have e4 : IntKind.u8.wrap (48 + (n : Int) % 10) = 48 + (n : Int) % 10 := wr8 _ (by omega) (by omega)
  go_enter Tryd.func36, Tryd.ntmps36
  go_wp2
  go_region_with (go_at_call 36; refine (ih.out _).mono ?_; rintro e w1 ⟨rfl, hb1⟩; (first | (have hc1 := hb1.cell (p := ⟨w.heap.size, 0, none⟩) (lt_alloc w _); simp at hc1) | skip))
  all_goals
    go_wp2
    go_ret
    refine ⟨by rw [hd.out]; exact cat_one X c, ?_⟩
  · have hb : Below w.heap.size w w1 := (Below.refl _ w).drew.trans hb1
    exact hb.alloc hb.size _
  · exact (((Below.refl _ w).alloc (Nat.le_refl _) _).drew).trans (hb1.mono (Nat.le_of_lt (lt_alloc w _)))
  · exact (((Below.refl _ w).alloc (Nat.le_refl _) _).drew).trans (hb1.mono (Nat.le_of_lt (lt_alloc w _)))

theorem digits_any (n : Nat) (hn : n < 64) (w : World) : Calls Tryd.prog 36 #[.int .i64 n] w fun e w' => e = .returned (.string ⟨(dig n).toArray⟩) ∧ Below w.heap.size w w' := by
  rw [← dig_dec n hn]
  by_cases h : n < 10
  · exact digits_small n h w
  · refine digits_step n h (by omega) w (fun w => ?_)
    rw [show ((n : Int) / 10) = ((n / 10 : Nat) : Int) from by omega]
    exact digits_small (n / 10) (by omega) w
end Go.Proofs.YtklamncepgejeaaDoor
