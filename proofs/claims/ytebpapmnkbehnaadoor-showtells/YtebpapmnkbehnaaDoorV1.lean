/- What show's number, field and part, and packet's Name, answer; numbers of 16 bits. -/
import Derived.Test.YtebpapmnkbehnaaDoorV0
import Derived.Test.YtebpapmnkbehnaaDoorA5
import Derived.Shelf.GgClosure.Gives
set_option linter.unusedVariables false
set_option linter.unusedSimpArgs false
namespace Go.Proofs.YtebpapmnkbehnaaDoor
open Go.RowKit Go.Joins Go.Lib

/-- What show reads of the listed variables. -/
structure Es (w : World) : Prop where
  pow : Lib.TabIs Tryd.prog w "internal/strconv.uint64pow10" .u64 Lib.pow10Tab
  names : NamesIs w
theorem Es.below {w w' : World} (h : Es w) (hb : Below w.heap.size w w') : Es w' := ⟨tab_stays gPow h.pow hb (Nat.le_refl _), h.names.below hb⟩
theorem sh_cat (a b : List UInt8) : (⟨a.toArray⟩ : ByteArray) ++ ⟨b.toArray⟩ = ⟨(a ++ b).toArray⟩ := by
  apply ByteArray.ext
  rw [ByteArray.data_append]
  simp
theorem sh_itoa (n : Nat) (hn : n ≤ 65535) (w : World) (h : Es w) : Calls Tryd.prog 37 #[.int .i64 (n : Int)] w fun e w' => e = .returned (.string ⟨(decDigits n).toArray⟩) ∧ Below w.heap.size w w' := by
  refine (Tryd.strconv_Itoa (n : Int) (by omega) (by omega) w h.pow).mono ?_
  rintro e w' ⟨he, k, os, hw⟩
  refine ⟨?_, by rw [hw]; exact below_grown w k os⟩
  rw [he]
  unfold Lib.itoa
  rw [if_neg (by omega), Int.toNat_natCast]
set_option maxHeartbeats 1000000 in
theorem sh_num (n : Nat) (hn : n ≤ 65535) (w : World) (h : Es w) : Calls Tryd.prog 19 #[.int .u16 (n : Int)] w fun e w' => e = .returned (.string ⟨(decDigits n).toArray⟩) ∧ Below w.heap.size w w' := by
  have c := sh_itoa n hn w h
  have ew : wrap64 (n : Int) = (n : Int) := by unfold wrap64; omega
  clear h
  go_enter Tryd.func19, Tryd.ntmps19
  go_wp2_with fail
  refine c.mono ?_
  rintro e w1 ⟨rfl, hb⟩
  go_wp2
  go_ret
  exact ⟨rfl, hb⟩
set_option maxHeartbeats 1000000 in
theorem sh_isField (f : Int) (w : World) (h0 : 0 ≤ f) (h8 : f < 8) : Calls Tryd.prog 50 #[.int .i64 f] w fun e w' => e = .returned (.bool true) ∧ w' = w := by
  go_enter Tryd.func50, Tryd.ntmps50
  go_wp2
  go_ret
  exact ⟨by simp [h0, h8], rfl⟩
set_option maxHeartbeats 4000000 in
theorem sh_name (f : Int) (w : World) (h : NamesIs w) (h0 : 0 ≤ f) (h8 : f < 8) : Calls Tryd.prog 41 #[.int .i64 f] w fun e w' => e = .returned (.string ⟨(nmB f).toArray⟩) ∧ w' = w := by
  obtain ⟨c0, c1, c2, c3, c4, c5, c6, c7⟩ := h
  have hc : f = 0 ∨ f = 1 ∨ f = 2 ∨ f = 3 ∨ f = 4 ∨ f = 5 ∨ f = 6 ∨ f = 7 := by omega
  rcases hc with rfl | rfl | rfl | rfl | rfl | rfl | rfl | rfl
  all_goals
    go_enter Tryd.func41, Tryd.ntmps41
    go_wp2_with (go_at_call 50; refine (sh_isField _ _ (by omega) (by omega)).mono ?_; rintro e w' ⟨rfl, rfl⟩)
    go_ret
    exact ⟨rfl, rfl⟩
set_option maxHeartbeats 1000000 in
theorem field_text (f : Int) (s : List UInt8) (n : Nat) (w : World) (h : Es w) (h0 : 0 ≤ f) (h8 : f < 8) (hn : n ≤ 65535) (hs : s.length ≤ 3) :
    Calls Tryd.prog 27 #[.int .i64 f, .string ⟨s.toArray⟩, .int .u16 (n : Int)] w fun e w' => e = .returned (.string ⟨(nmB f ++ (s ++ decDigits n)).toArray⟩) ∧ Below w.heap.size w w' := by
  have cN := sh_name f w h.names h0 h8
  have hl1 := nmB_len f
  have hl2 := digits_len5 n hn
  have cM := sh_num n hn w h
  clear h
  go_enter Tryd.func27, Tryd.ntmps27
  go_wp2_with fail
  refine cN.mono ?_
  rintro e w1 ⟨rfl, hw1⟩
  subst w1
  go_wp2_with fail
  refine cM.mono ?_
  rintro e w2 ⟨rfl, hb⟩
  go_wp2
  go_ret
  exact ⟨by simp only [sh_cat, List.append_assoc]; rfl, hb⟩
set_option maxHeartbeats 1000000 in
theorem part_text (f : Nat) (s : List UInt8) (n : Nat) (w : World) (h : Es w) (hf : f ≤ 65535) (hn : n ≤ 65535) (hs : s.length ≤ 3) :
    Calls Tryd.prog 28 #[.int .i64 (f : Int), .string ⟨s.toArray⟩, .int .u16 (n : Int)] w fun e w' => e = .returned (.string ⟨(64 :: (decDigits f ++ (s ++ decDigits n))).toArray⟩) ∧ Below w.heap.size w w' := by
  have cN := sh_itoa f hf w h
  have hl1 := digits_len5 f hf
  have hl2 := digits_len5 n hn
  have cM : Hid (∀ W, Below w.heap.size w W → Calls Tryd.prog 19 #[.int .u16 (n : Int)] W fun e w' => e = .returned (.string ⟨(decDigits n).toArray⟩) ∧ Below W.heap.size W w') := fun W hW => sh_num n hn W (h.below hW)
  clear h
  go_enter Tryd.func28, Tryd.ntmps28
  go_wp2_with fail
  refine cN.mono ?_
  rintro e w1 ⟨rfl, hb1⟩
  go_wp2_with fail
  refine (cM.out w1 hb1).mono ?_
  rintro e w2 ⟨rfl, hb⟩
  go_wp2
  go_ret
  exact ⟨by rw [show (64 :: (decDigits f ++ (s ++ decDigits n))) = [64] ++ decDigits f ++ s ++ decDigits n by simp, ← sh_cat, ← sh_cat, ← sh_cat]; rfl, hb1.trans (hb.mono hb1.size)⟩
end Go.Proofs.YtebpapmnkbehnaaDoor
