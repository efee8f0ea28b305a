/- What events.readEvent answers: the event whose digits the text is, and true; 0 and false of other texts; for texts of at most 1000 bytes, where the listed variables hold what the row lists. -/
import Derived.Test.YtklamncepgejeaaDoorA4
import Derived.Test.YtklamncepgejeaaDoorM2
set_option linter.unusedVariables false
set_option linter.unusedSimpArgs false
namespace Go.Proofs.YtklamncepgejeaaDoor
open Go.RowKit Go.Joins Go.Sort

theorem below_grown {w : World} (k : Nat) (os : Array Obj) : Below w.heap.size w (grow (w.drewN k) os) :=
  ⟨rfl, rfl, rfl, by simp [grow], fun j hj => by simp [grow, Array.getElem?_append_left hj]⟩

theorem atoi_ok (d : List UInt8) (hd : d.length ≤ 1000) (v : Int) (hv : Lib.atoiAll d = .ok v) (w : World) :
    Calls Tryd.prog 42 #[.string ⟨d.toArray⟩] w fun e w' => e = .returned (.tuple #[.int .i64 v, .nilIface]) ∧ Below w.heap.size w w' := by
  refine (Tryd.strconv_Atoi_ok ⟨d.toArray⟩ (by simp [ByteArray.size]; omega) v hv w).mono fun e w' ⟨he, hw⟩ => ⟨he, ?_⟩
  rcases hw with rfl | ⟨t, rfl⟩
  · exact Below.refl _ _
  · exact below_bytesWorld _ w 5 t (Nat.le_refl _)
theorem atoi_fails (d : List UInt8) (hd : d.length ≤ 1000) (hn : ∀ v, Lib.atoiAll d ≠ .ok v) (w : World) (h : Env w) :
    Calls Tryd.prog 42 #[.string ⟨d.toArray⟩] w fun e w' => ∃ n N, e = .returned (.tuple #[.int .i64 n, .iface 76 (.pointer (some ⟨N, 0, none⟩))]) ∧ Below w.heap.size w w' := by
  cases hp : Lib.atoiAll d
  · exact absurd hp (hn _)
  · obtain ⟨tp, p, hv⟩ := h.syn
    refine (Any.strconv_Atoi_syntax_var Tryd.laysC172 ⟨d.toArray⟩ (by simp [ByteArray.size]; omega) hp tp p w hv).mono ?_
    rintro e w' ⟨N, he, _, _, hb⟩
    exact ⟨_, N, he, hb⟩
  · obtain ⟨tp, p, hv⟩ := h.rng
    refine (Any.strconv_Atoi_range_var Tryd.laysC172 ⟨d.toArray⟩ (by simp [ByteArray.size]; omega) hp tp p w hv).mono ?_
    rintro e w' ⟨N, he, _, _, hb⟩
    exact ⟨_, N, he, hb⟩
theorem itoa_any (v : Int) (h0 : -9223372036854775808 ≤ v) (h1 : v ≤ 9223372036854775807) (w : World) (h : Env w) :
    Calls Tryd.prog 30 #[.int .i64 v] w fun e w' => e = .returned (.string ⟨(Lib.itoa v).toArray⟩) ∧ Below w.heap.size w w' := by
  refine (Tryd.strconv_Itoa v h0 h1 w h.pow).mono ?_
  rintro e w' ⟨he, k, os, rfl⟩
  exact ⟨he, below_grown k os⟩

def rvN (d : List UInt8) : Int := ((revent d).getD 0 : Nat)
def rvB (d : List UInt8) : Bool := (revent d).isSome

theorem rv_fail (d : List UInt8) (hn : ∀ v, Lib.atoiAll d ≠ .ok v) : revent d = none :=
  revent_none d fun e he hd => hn e (by rw [← hd]; exact dig_atoi e he)
theorem rv_other (d : List UInt8) (v : Int) (hv : Lib.atoiAll d = .ok v) (hne : Lib.itoa v ≠ d) : revent d = none :=
  revent_none d fun e he hd => by
    have h1 := dig_atoi e he
    rw [hd, hv] at h1
    injection h1 with h1
    apply hne
    rw [h1, dig_itoa e he, hd]
theorem rv_out (d : List UInt8) (v : Int) (hv : Lib.atoiAll d = .ok v) (ho : v < 0 ∨ 64 ≤ v) : revent d = none :=
  revent_none d fun e he hd => by
    have h1 := dig_atoi e he
    rw [hd, hv] at h1
    injection h1 with h1
    omega
theorem rv_in (d : List UInt8) (v : Int) (he : Lib.itoa v = d) (h0 : 0 ≤ v) (h1 : v < 64) : revent d = some v.toNat := by
  have h2 : Lib.itoa v = dig v.toNat := by
    have := dig_itoa v.toNat (by omega)
    rwa [show ((v.toNat : Nat) : Int) = v by omega] at this
  rw [← he, h2]
  exact revent_dig _ (by omega)
theorem bitOf_ne (v : Int) (h0 : 0 ≤ v) (h1 : v < 64) : (((bitOf v : Nat) : Int) == 0) = false := by
  rw [nat_eq0, bitOf_in v h0 h1]
  have := Nat.two_pow_pos v.toNat
  simp
set_option maxRecDepth 100000 in
set_option maxHeartbeats 1000000 in
theorem readEvent_any (d : List UInt8) (hd : d.length ≤ 1000) (w : World) (h : Env w) :
    Calls Tryd.prog 35 #[.string ⟨d.toArray⟩] w fun e w' => e = .returned (.tuple #[.int .i64 (rvN d), .bool (rvB d)]) ∧ Below w.heap.size w w' := by
  by_cases hok : ∃ v, Lib.atoiAll d = .ok v
  · obtain ⟨v, hv⟩ := hok
    obtain ⟨b0, b1⟩ := Lib.atoiAll_bounds hv
    have hat := atoi_ok d hd v hv w
    by_cases hne : Lib.itoa v = d
    · by_cases ho : v < 0 ∨ 64 ≤ v
      · have hr := rv_out d v hv ho
        have hN : rvN d = 0 := by simp [rvN, hr]
        have hB : rvB d = false := by simp [rvB, hr]
        have hbz := bitOf_out v ho
        rw [hN, hB]
        go_enter Tryd.func35, Tryd.ntmps35
        go_wp2_with fail
        refine hat.mono ?_
        rintro e w1 ⟨rfl, hb1⟩
        have hE1 := h.below hb1
        go_wp2_with fail
        refine (itoa_any v b0 b1 w1 hE1).mono ?_
        rintro e w2 ⟨rfl, hb2⟩
        rw [hne]
        have hbit := bit_any v
        rw [hbz] at hbit
        go_wp2_with (go_at_call 27; refine (hbit _).mono ?_; rintro r wX ⟨rfl, hwX⟩; subst wX)
        exact bodyPost_ret (v := .tuple #[.int .i64 0, .bool false]) (by simp [results, Tryd.results35, go_sem]) rfl ⟨rfl, hb1.trans (hb2.mono hb1.size)⟩
      · have hr := rv_in d v hne (by omega) (by omega)
        have hN : rvN d = v := by simp [rvN, hr]; omega
        have hB : rvB d = true := by simp [rvB, hr]
        have hbz := bitOf_ne v (by omega) (by omega)
        rw [hN, hB]
        go_enter Tryd.func35, Tryd.ntmps35
        go_wp2_with fail
        refine hat.mono ?_
        rintro e w1 ⟨rfl, hb1⟩
        have hE1 := h.below hb1
        go_wp2_with fail
        refine (itoa_any v b0 b1 w1 hE1).mono ?_
        rintro e w2 ⟨rfl, hb2⟩
        rw [hne]
        have hbit := bit_any v
        generalize bitOf v = Z at *
        go_wp2_with (go_at_call 27; refine (hbit _).mono ?_; rintro r wX ⟨rfl, hwX⟩; subst wX)
        exact bodyPost_ret (v := .tuple #[.int .i64 v, .bool true]) (by simp [results, Tryd.results35, go_sem]) rfl ⟨rfl, hb1.trans (hb2.mono hb1.size)⟩
    · have hr := rv_other d v hv hne
      have hN : rvN d = 0 := by simp [rvN, hr]
      have hB : rvB d = false := by simp [rvB, hr]
      rw [hN, hB]
      generalize hI : Lib.itoa v = I at *
      have hit := itoa_any v b0 b1
      rw [hI] at hit
      go_enter Tryd.func35, Tryd.ntmps35
      go_wp2_with fail
      refine hat.mono ?_
      rintro e w1 ⟨rfl, hb1⟩
      have hE1 := h.below hb1
      go_wp2_with fail
      refine (hit w1 hE1).mono ?_
      rintro e w2 ⟨rfl, hb2⟩
      go_wp2
      exact bodyPost_ret (v := .tuple #[.int .i64 0, .bool false]) (by simp [results, Tryd.results35, go_sem]) rfl ⟨rfl, hb1.trans (hb2.mono hb1.size)⟩
  · have hn : ∀ v, Lib.atoiAll d ≠ .ok v := fun v hv => hok ⟨v, hv⟩
    have hr := rv_fail d hn
    have hN : rvN d = 0 := by simp [rvN, hr]
    have hB : rvB d = false := by simp [rvB, hr]
    rw [hN, hB]
    have hat := atoi_fails d hd hn w h
    go_enter Tryd.func35, Tryd.ntmps35
    go_wp2_with fail
    refine hat.mono ?_
    rintro e w1 ⟨n, N, rfl, hb1⟩
    go_wp2
    exact bodyPost_ret (v := .tuple #[.int .i64 0, .bool false]) (by simp [results, Tryd.results35, go_sem]) rfl ⟨rfl, hb1⟩
end Go.Proofs.YtklamncepgejeaaDoor
