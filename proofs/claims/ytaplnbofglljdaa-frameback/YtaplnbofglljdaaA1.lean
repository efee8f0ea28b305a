/- What frame.number, frame.check and the document's number answer: the number that the bytes tell, and the check; texts of up to 8 and 1000 bytes. -/
import Derived.Test.YtaplnbofglljdaaProg
import Derived.Test.YtaplnbofglljdaaM2
import Derived.WalkKit
import Derived.WalkSpells
import Derived.WalkLawsBesides
import Derived.Deep.QuietTactic
import Derived.BigQuiet
set_option linter.unusedVariables false
set_option linter.unusedSimpArgs false
namespace Go.Proofs.Ytaplnbofglljdaa
open Go.RowKit

theorem size_mk (l : List UInt8) : (ByteArray.mk l.toArray).size = l.length := by simp [ByteArray.size]
theorem ret_int {k : IntKind} {a b : Int} (h : a = b) : Ending.returned (.int k a) = .returned (.int k b) := by rw [h]
theorem take_snoc (s : ByteArray) (k : Nat) (h : k < s.size) : s.data.toList.take (k + 1) = s.data.toList.take k ++ [s[k]] := by
  rw [List.take_succ_eq_append_getElem (by simpa using h)]; rfl
theorem or_byte (x c : Nat) (hx : x < 72057594037927936) (hc : c < 256) : bits BinOp.or IntKind.u64 (IntKind.u64.wrap ((x : Int) * 256)) (IntKind.u64.wrap (c : Int)) = ((x * 256 + c : Nat) : Int) := by
  have e1 : IntKind.u64.wrap ((x : Int) * 256) = ((x * 256 : Nat) : Int) := by rw [IntKind.wrap_u64]; omega
  have e2 : IntKind.u64.wrap (c : Int) = ((c : Nat) : Int) := by rw [IntKind.wrap_u64]; omega
  rw [e1, e2, bits_or_u64_nat _ _ (by omega) (by omega)]
  have := Nat.two_pow_add_eq_or_of_lt (i := 8) (b := c) (by omega) x
  rw [Nat.mul_comm x 256]
  rw [show (2 : Nat) ^ 8 = 256 from rfl] at this
  rw [this]

set_option maxHeartbeats 400000 in
theorem number_any (s : ByteArray) (w : World) (hs : s.size ≤ 8) :
    Calls Try.prog 18 #[.string s] w fun e w' => e = .returned (.int .u64 (num s.data.toList)) ∧ w' = w := by
  go_enter Try.func18, Try.ntmps18
  go_wp2
  go_loop [3, 7] (fun n i => ∃ k : Nat, k ≤ s.size ∧ i = .int .i64 k ∧ n = .int .u64 (num (s.data.toList.take k))) (fun _ i => s.size - (intOf i).toNat)
  case atStart => exact ⟨0, Nat.zero_le _, rfl, rfl⟩
  case round =>
    obtain ⟨k, hk, rfl, rfl⟩ := hrel
    by_cases hlt : k < s.size
    · have hb : Hid (num (s.data.toList.take k) < 72057594037927936) := by
        have h := num_lt (s.data.toList.take k)
        have : 256 ^ (s.data.toList.take k).length ≤ 256 ^ 7 := Nat.pow_le_pow_right (by decide) (by simp; omega)
        show _ < _
        omega
      go_wp2
      refine ⟨⟨k + 1, by omega, by go_num, ?_⟩, by simp [intOf]; omega⟩
      rw [or_byte _ _ hb.out s[k].toNat_lt, take_snoc s k hlt, num_snoc]
    · go_wp2
      go_ret
      exact ⟨ret_int (by rw [List.take_of_length_le (by simp; omega)]), rfl⟩
theorem number_list (l : List UInt8) (w : World) (hl : l.length ≤ 8) :
    Calls Try.prog 18 #[.string ⟨l.toArray⟩] w fun e w' => e = .returned (.int .u64 (num l)) ∧ w' = w := by
  have := number_any ⟨l.toArray⟩ w (by rw [size_mk]; exact hl)
  simpa using this

theorem ws_small (l : List UInt8) (h : l.length ≤ 1000) : ws 0 l ≤ 255000000 := by
  have h1 := ws_le l 0
  have h2 : (0 + l.length) * 255 * l.length ≤ 1000 * 255 * 1000 := Nat.mul_le_mul (Nat.mul_le_mul (by omega) (Nat.le_refl _)) h
  omega
theorem add_byte (x y k c : Nat) (hc : c < 256) (h : y = x + (k + 1) * c) (hy : y ≤ 255000000) (hk : k ≤ 1000) :
    IntKind.u64.wrap ((x : Int) + IntKind.u64.wrap (((k : Int) + 1) * IntKind.u64.wrap (c : Int))) = (y : Int) := by
  have e2 : IntKind.u64.wrap (c : Int) = (c : Int) := by rw [IntKind.wrap_u64]; omega
  rw [e2]
  have e3 : ((k : Int) + 1) * (c : Int) = (((k + 1) * c : Nat) : Int) := by simp
  rw [e3]
  generalize (k + 1) * c = z at *
  have e4 : IntKind.u64.wrap (z : Int) = (z : Int) := by rw [IntKind.wrap_u64]; omega
  rw [e4, IntKind.wrap_u64]; omega
set_option maxHeartbeats 400000 in
theorem check_any (s : ByteArray) (w : World) (hs : s.size ≤ 1000) :
    Calls Try.prog 16 #[.string s] w fun e w' => e = .returned (.int .u64 (chk s.data.toList)) ∧ w' = w := by
  go_enter Try.func16, Try.ntmps16
  go_wp2
  go_loop [3, 7] (fun n i => ∃ k : Nat, k ≤ s.size ∧ i = .int .i64 k ∧ n = .int .u64 (ws 0 (s.data.toList.take k))) (fun _ i => s.size - (intOf i).toNat)
  case atStart => exact ⟨0, Nat.zero_le _, rfl, rfl⟩
  case round =>
    obtain ⟨k, hk, rfl, rfl⟩ := hrel
    have hb := ws_small (s.data.toList.take k) (by simp; omega)
    by_cases hlt : k < s.size
    · have hsn : Hid (ws 0 (s.data.toList.take (k + 1)) = ws 0 (s.data.toList.take k) + (k + 1) * s[k].toNat) := by
        show _ = _
        rw [take_snoc s k hlt, ws_snoc]
        congr 3
        simp; omega
      have hb2 : Hid (ws 0 (s.data.toList.take (k + 1)) ≤ 255000000) := ws_small (s.data.toList.take (k + 1)) (by simp; omega)
      go_wp2
      refine ⟨⟨k + 1, by omega, by go_num, ?_⟩, by simp [intOf]; omega⟩
      rw [add_byte _ _ _ _ s[k].toNat_lt hsn.out hb2.out (by omega)]
    · go_wp2
      go_ret
      exact ⟨ret_int (by rw [List.take_of_length_le (by simp; omega)]; simp [chk]), rfl⟩
theorem check_list (l : List UInt8) (w : World) (hl : l.length ≤ 1000) :
    Calls Try.prog 16 #[.string ⟨l.toArray⟩] w fun e w' => e = .returned (.int .u64 (chk l)) ∧ w' = w := by
  have := check_any ⟨l.toArray⟩ w (by rw [size_mk]; exact hl)
  simpa using this

theorem pair_u16 (x y : Nat) (hx : x < 256) (hy : y < 256) : IntKind.u16.wrap (IntKind.u16.wrap (IntKind.u16.wrap (x : Int) * 256) + IntKind.u16.wrap (y : Int)) = ((x * 256 + y : Nat) : Int) := by
  simp only [IntKind.wrap_u16]; omega
set_option maxHeartbeats 400000 in
theorem rnumber_at (s : ByteArray) (i j : Nat) (w : World) (h0 : i < s.size) (hj : j < s.size) (hij : IntKind.i64.wrap ((i : Int) + 1) = (j : Int)) :
    Calls Try.prog 22 #[.string s, .int .i64 i] w fun e w' => e = .returned (.int .u16 (s[i].toNat * 256 + s[j].toNat : Nat)) ∧ ∃ n, w' = w.drewN n := by
  go_enter Try.func22, Try.ntmps22
  go_wp2
  go_quiet (fail)
  go_wp2
  go_ret
  exact ⟨ret_int (pair_u16 _ _ s[i].toNat_lt s[j].toNat_lt), _, rfl⟩
theorem two_at (l : List UInt8) (i : Nat) (h : i + 1 < l.length) : two l i = l[i].toNat * 256 + l[i + 1].toNat := by
  unfold two
  rw [List.drop_eq_getElem_cons (by omega : i < l.length), List.drop_eq_getElem_cons h]
  rw [List.take_succ_cons, List.take_succ_cons, List.take_zero]
  simp only [num, List.foldl_cons, List.foldl_nil]
  omega
theorem rnumber_list (l : List UInt8) (i : Nat) (w : World) (h : i + 1 < l.length) (hi : i ≤ 1000) :
    Calls Try.prog 22 #[.string ⟨l.toArray⟩, .int .i64 i] w fun e w' => e = .returned (.int .u16 (two l i)) ∧ ∃ n, w' = w.drewN n := by
  refine (rnumber_at ⟨l.toArray⟩ i (i + 1) w (by rw [size_mk]; omega) (by rw [size_mk]; exact h) (by rw [IntKind.wrap_i64]; omega)).mono fun e w' ⟨he, hw⟩ => ⟨?_, hw⟩
  rw [he, two_at l i h]
  rfl
end Go.Proofs.Ytaplnbofglljdaa
