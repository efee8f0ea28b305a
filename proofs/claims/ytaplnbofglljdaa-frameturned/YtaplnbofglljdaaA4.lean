/- What frame.hasShape and frame.isFrame answer: whether bytes are a frame's; texts of up to 1000 bytes. -/
import Derived.Test.YtaplnbofglljdaaA2
set_option linter.unusedVariables false
set_option linter.unusedSimpArgs false
namespace Go.Proofs.Ytaplnbofglljdaa
open Go.RowKit Go.Joins

/-- hasShape by the length and the first two bytes. -/
def sB (n c0 c1 : Nat) : Bool := decide (c0 = 78) && (if c1 = 0 then decide (n = 16) else if c1 = 1 then decide (n = 26) else false)
theorem u8_eq (x : UInt8) (n : Nat) (h : n < 256) : x = UInt8.ofNat n ↔ x.toNat = n := by
  rw [← UInt8.toNat_inj]; simp; rw [Nat.mod_eq_of_lt h]
theorem shapeB_sB (x y : UInt8) (r : List UInt8) : shapeB (x :: y :: r) = sB (r.length + 2) x.toNat y.toNat := by
  unfold sB
  by_cases hx : x = 78
  · subst hx
    have e0 : y = 0 ↔ y.toNat = 0 := u8_eq y 0 (by decide)
    have e1 : y = 1 ↔ y.toNat = 1 := u8_eq y 1 (by decide)
    simp only [shapeB, e0, e1]
    simp
  · have hx' : ¬ x.toNat = 78 := fun h => hx ((u8_eq x 78 (by decide)).2 h)
    simp only [hx', decide_false, Bool.false_and]
    unfold shapeB
    split
    · rename_i h; injection h with h1 _; exact absurd h1 hx
    · rfl
set_option maxHeartbeats 400000 in
theorem shape_short (s : ByteArray) (w : World) (hs : s.size < 2) :
    Calls Try.prog 23 #[.string s] w fun e w' => e = .returned (.bool false) ∧ w' = w := by
  have hd : decide ((s.size : Int) < 2) = true := by simp; omega
  go_enter Try.func23, Try.ntmps23
  go_wp2
  go_ret
  exact ⟨rfl, rfl⟩
set_option maxHeartbeats 400000 in
theorem shape_long (s : ByteArray) (w : World) (hs : 2 ≤ s.size) (hs9 : s.size ≤ 1000) (c0 c1 : Nat) (e0 : s[0].toNat = c0) (e1 : s[1].toNat = c1) :
    Calls Try.prog 23 #[.string s] w fun e w' => e = .returned (.bool (sB s.size c0 c1)) ∧ w' = w := by
  have hd : decide ((s.size : Int) < 2) = false := by simp; omega
  have hd0 : 0 < s.size := by omega
  have hd1 : 1 < s.size := by omega
  have hn : Hid (((s.size : Int) == 16) = decide (s.size = 16)) := by
    show _ = _
    rw [Bool.eq_iff_iff]; simp; omega
  have hn' : Hid (((s.size : Int) == 26) = decide (s.size = 26)) := by
    show _ = _
    rw [Bool.eq_iff_iff]; simp; omega
  by_cases h0 : c0 = 78
  · subst h0
    by_cases h1 : c1 = 0
    · subst h1
      go_enter Try.func23, Try.ntmps23
      go_wp2
      go_ret
      exact ⟨by simp only [sB]; exact congrArg (fun b => Ending.returned (.bool b)) (by rw [← hn.out]; simp), rfl⟩
    · have f1 : ((c1 : Int) == 0) = false := by simp; omega
      by_cases h2 : c1 = 1
      · subst h2
        go_enter Try.func23, Try.ntmps23
        go_wp2
        go_ret
        exact ⟨by simp only [sB]; exact congrArg (fun b => Ending.returned (.bool b)) (by rw [← hn'.out]; simp), rfl⟩
      · have f2 : ((c1 : Int) == 1) = false := by simp; omega
        go_enter Try.func23, Try.ntmps23
        go_wp2
        go_ret
        exact ⟨by simp only [sB, h1, h2]; simp, rfl⟩
  · have f0 : ((c0 : Int) != 78) = true := by simp; omega
    go_enter Try.func23, Try.ntmps23
    go_wp2
    go_ret
    exact ⟨by simp only [sB, h0]; simp, rfl⟩
theorem shape_any (l : List UInt8) (w : World) (hl : l.length ≤ 1000) :
    Calls Try.prog 23 #[.string ⟨l.toArray⟩] w fun e w' => e = .returned (.bool (shapeB l)) ∧ w' = w := by
  have hsz := size_mk l
  match l, hl, hsz with
  | [], _, hsz => exact shape_short _ w (by rw [hsz]; simp)
  | [x], _, hsz =>
    have : shapeB [x] = false := by unfold shapeB; split <;> simp_all
    rw [this]
    exact shape_short _ w (by rw [hsz]; simp)
  | x :: y :: r, hl, hsz =>
    refine (shape_long _ w (by rw [hsz]; simp) (by rw [hsz]; exact hl) x.toNat y.toNat rfl rfl).mono fun e w' ⟨he, hw⟩ => ⟨?_, hw⟩
    rw [he, hsz, shapeB_sB]; rfl

theorem extract_to (l : List UInt8) (n : Nat) : (ByteArray.mk l.toArray).extract 0 n = ⟨(l.take n).toArray⟩ := by
  rw [ByteArray.extract_mk]; simp
theorem extract_from (l : List UInt8) (n : Nat) : (ByteArray.mk l.toArray).extract n l.length = ⟨(l.drop n).toArray⟩ := by
  rw [ByteArray.extract_mk, List.take_of_length_le (by simp)]
theorem nat_beq (a b : Nat) : ((a : Int) == (b : Int)) = decide (a = b) := by rw [Bool.eq_iff_iff]; simp; omega
set_option maxHeartbeats 400000 in
theorem isFrame_any (l : List UInt8) (w : World) (hl : l.length ≤ 1000) :
    Calls Try.prog 17 #[.string ⟨l.toArray⟩] w fun e w' => e = .returned (.bool (isF l)) ∧ ∃ n, w' = w.drewN n := by
  cases hsh : shapeB l
  · have hr : Hid (isF l = false) := by show _ = _; simp [isF, hsh]
    go_enter Try.func17, Try.ntmps17
    go_wp2_with (go_at_call 23; refine (shape_any l _ hl).mono ?_; rintro e w' ⟨rfl, rfl⟩; rw [hsh])
    go_ret
    exact ⟨by rw [hr.out]; rfl, 0, rfl⟩
  · have hlen : Hid (2 ≤ l.length) := by
      show _ ≤ _
      rcases len_16_26 hsh with ⟨_, h⟩ | ⟨_, h⟩ <;> omega
    have hr : Hid (isF l = decide (num (l.drop (l.length - 2)) = chk (l.take (l.length - 2)))) := by show _ = _; simp [isF, hsh]
    obtain ⟨s, hs⟩ : ∃ s, (ByteArray.mk l.toArray) = s := ⟨_, rfl⟩
    have hsz : s.size = l.length := by rw [← hs, size_mk]
    have hl2 : 2 ≤ s.size := by rw [hsz]; exact hlen.out
    have hl9 : s.size ≤ 1000 := by rw [hsz]; exact hl
    have hx1 : Hid (s.extract (s.size - 2) s.size = ⟨(l.drop (l.length - 2)).toArray⟩) := by
      show _ = _; rw [hsz, ← hs, extract_from]
    have hx2 : Hid (s.extract 0 (s.size - 2) = ⟨(l.take (l.length - 2)).toArray⟩) := by
      show _ = _; rw [hsz, ← hs, extract_to]
    have HS : Hid (ByteArray.mk l.toArray = s) := hs
    rw [hs]
    clear hs hsz
    go_enter Try.func17, Try.ntmps17
    go_wp2_with (go_at_call 23; rw [← HS.out]; refine (shape_any l _ hl).mono ?_; rintro e w' ⟨rfl, rfl⟩; rw [HS.out, hsh])
    obtain ⟨m, hm⟩ : ∃ m, m = s.size - 2 := ⟨_, rfl⟩
    have hmi : (s.size : Int) - 2 = (m : Int) := by omega
    rw [hmi]
    rw [← hm] at hx1 hx2
    have hms : m ≤ s.size := by omega
    have hs1 : Hid ((s.extract m s.size).size ≤ 8) := by show _ ≤ _; rw [ByteArray.size_extract]; omega
    have hs2 : Hid ((s.extract 0 m).size ≤ 1000) := by show _ ≤ _; rw [ByteArray.size_extract]; omega
    have HM : Hid (m = s.size - 2) := hm
    clear hm hmi
    go_quiet (first | (go_at_call 18; exact Calls.quiet_of_same (number_any _ _ hs1.out)) | (go_at_call 16; exact Calls.quiet_of_same (check_any _ _ hs2.out)))
    go_wp2
    go_ret
    refine ⟨?_, _, rfl⟩
    have hm := HM.out
    have hs := HS.out
    subst hs
    rw [size_mk] at hm
    subst hm
    refine congrArg (fun b => Ending.returned (.bool b)) ?_
    rw [hr.out, ← nat_beq, size_mk, List.take_of_length_le (by simp)]
end Go.Proofs.Ytaplnbofglljdaa
