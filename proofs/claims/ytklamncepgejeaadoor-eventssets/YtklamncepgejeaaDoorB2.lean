/- What events.Read answers: the set of a text and true, 0 and false of what is none; for texts of at most 1000 bytes, where the listed variables hold what the row lists. -/
import Derived.Test.YtklamncepgejeaaDoorB1
set_option linter.unusedVariables false
set_option linter.unusedSimpArgs false
namespace Go.Proofs.YtklamncepgejeaaDoor
open Go.RowKit Go.Joins Go.Sort

/-- What is left to read. -/
def leftV (b m : Value) : Nat := match m, b with | .bool true, .string s => s.size + 1 | _, _ => 0
theorem cut_small (l sep : List UInt8) : (Lib.cut l sep).1.length ≤ l.length ∧ (Lib.cut l sep).2.1.length ≤ l.length := by
  unfold Lib.cut; split <;> simp <;> omega
theorem cut_less (l : List UInt8) (h : (Lib.cut l [44]).2.2 = true) : (Lib.cut l [44]).2.1.length < l.length := by
  rcases part 44 l with hp | ⟨a, b, rfl, hp⟩
  · rw [cut_none 44 l hp] at h; cases h
  · rw [cut_at 44 a b hp]; simp; omega
def rdN (t : List UInt8) : Nat := (readOf t).getD 0
def rdB (t : List UInt8) : Bool := (readOf t).isSome
theorem rv_cases (d : List UInt8) : (revent d = none ∧ rvN d = 0 ∧ rvB d = false) ∨ ∃ e : Nat, e < 64 ∧ revent d = some e ∧ rvN d = (e : Int) ∧ rvB d = true := by
  cases h : revent d with
  | none => exact .inl ⟨rfl, by simp [rvN, h], by simp [rvB, h]⟩
  | some e => exact .inr ⟨e, (revent_some d e h).1, rfl, by simp [rvN, h], by simp [rvB, h]⟩

set_option maxRecDepth 100000 in
set_option maxHeartbeats 1000000 in
theorem read_any (t : List UInt8) (ht : t.length ≤ 1000) (w : World) (h : Env w) :
    Calls Tryd.prog 22 #[.string ⟨t.toArray⟩] w fun e w' => e = .returned (.tuple #[sv (rdN t), .bool (rdB t)]) ∧ Below w.heap.size w w' := by
  have hp := Tryd.strings_CutPrefix ⟨t.toArray⟩ ⟨#[123]⟩ w
  rw [show (⟨t.toArray⟩ : ByteArray).data.toList = t from rfl, show (⟨#[123]⟩ : ByteArray).data.toList = [123] from rfl] at hp
  have hR : Hid (readOf t = if Lib.hasPrefix t [123] = true ∧ Lib.hasSuffix (Lib.trimPrefix t [123]) [125] = true then
    (if Lib.trimSuffix (Lib.trimPrefix t [123]) [125] = [] then some 0 else rdE ((Lib.trimSuffix (Lib.trimPrefix t [123]) [125]).length + 1) (Lib.trimSuffix (Lib.trimPrefix t [123]) [125]) (-1) 0)
    else none) := rfl
  have hu : (Lib.trimPrefix t [123]).length ≤ 1000 := by
    unfold Lib.trimPrefix; split
    · rw [List.length_drop]; omega
    · exact ht
  generalize Lib.trimPrefix t [123] = u at *
  have hs := Tryd.strings_CutSuffix ⟨u.toArray⟩ ⟨#[125]⟩ w (by simp [ByteArray.size]; omega)
  rw [show (⟨u.toArray⟩ : ByteArray).data.toList = u from rfl, show (⟨#[125]⟩ : ByteArray).data.toList = [125] from rfl] at hs
  have hb : (Lib.trimSuffix u [125]).length ≤ 1000 := by
    unfold Lib.trimSuffix; split
    · rw [List.length_take]; omega
    · exact hu
  generalize Lib.trimSuffix u [125] = b0 at *
  generalize Lib.hasPrefix t [123] = o at *
  generalize Lib.hasSuffix u [125] = c at *
  cases o
  · have hr : readOf t = none := by rw [hR.out]; simp
    have hN : rdN t = 0 := by simp [rdN, hr]
    have hB : rdB t = false := by simp [rdB, hr]
    rw [hN, hB]
    go_enter Tryd.func22, Tryd.ntmps22
    go_wp2_with (first
      | (go_at_call 32; refine hp.mono ?_; rintro r wX ⟨rfl, hwX⟩; subst wX)
      | (go_at_call 33; refine hs.mono ?_; rintro r wX ⟨rfl, hwX⟩; subst wX))
    exact bodyPost_ret (v := .tuple #[sv 0, .bool false]) (by simp [results, Tryd.results22, go_sem]) rfl ⟨rfl, Below.refl _ _⟩
  · cases c
    · have hr : readOf t = none := by rw [hR.out]; simp
      have hN : rdN t = 0 := by simp [rdN, hr]
      have hB : rdB t = false := by simp [rdB, hr]
      rw [hN, hB]
      go_enter Tryd.func22, Tryd.ntmps22
      go_wp2_with (first
        | (go_at_call 32; refine hp.mono ?_; rintro r wX ⟨rfl, hwX⟩; subst wX)
        | (go_at_call 33; refine hs.mono ?_; rintro r wX ⟨rfl, hwX⟩; subst wX))
      exact bodyPost_ret (v := .tuple #[sv 0, .bool false]) (by simp [results, Tryd.results22, go_sem]) rfl ⟨rfl, Below.refl _ _⟩
    · by_cases hb0 : b0 = []
      · subst hb0
        have hr : readOf t = some 0 := by rw [hR.out]; simp
        have hN : rdN t = 0 := by simp [rdN, hr]
        have hB : rdB t = true := by simp [rdB, hr]
        rw [hN, hB]
        go_enter Tryd.func22, Tryd.ntmps22
        go_wp2_with (first
          | (go_at_call 32; refine hp.mono ?_; rintro r wX ⟨rfl, hwX⟩; subst wX)
          | (go_at_call 33; refine hs.mono ?_; rintro r wX ⟨rfl, hwX⟩; subst wX))
        exact bodyPost_ret (v := .tuple #[sv 0, .bool true]) (by simp [results, Tryd.results22, go_sem]) rfl ⟨rfl, Below.refl _ _⟩
      · have hR1 : Hid (readOf t = rdE (b0.length + 1) b0 (-1) 0) := by
          show _ = _
          rw [hR.out]; simp [hb0]
        clear hR
        have hie : b0.isEmpty = false := by cases b0 <;> simp_all
        go_enter Tryd.func22, Tryd.ntmps22
        go_wp2_with (first
          | (go_at_call 32; refine hp.mono ?_; rintro r wX ⟨rfl, hwX⟩; subst wX)
          | (go_at_call 33; refine hs.mono ?_; rintro r wX ⟨rfl, hwX⟩; subst wX))
        clear hp hs
        go_loopw [4, 7, 8, 9] (fun bv sl lv mv wr => ∃ (n : Nat) (b : List UInt8) (l : Int) (acc : Nat) (m : Bool), bv = .string ⟨b.toArray⟩ ∧ sl = sv acc ∧ lv = .int .i64 l ∧ mv = .bool m ∧ b.length < n ∧ b.length ≤ 1000 ∧ acc < 18446744073709551616 ∧ Hid (readOf t = if m = true then rdE n b l acc else some acc) ∧ Below w.heap.size w wr) (fun bv _ _ mv _ => leftV bv mv)
        case atStart => exact ⟨b0.length + 1, b0, -1, 0, true, rfl, rfl, rfl, rfl, Nat.lt_succ_self _, hb, by decide, hR1, Below.refl _ _⟩
        case round =>
          obtain ⟨n, b, l, acc, m, rfl, rfl, rfl, rfl, hn, hbl, hacc, hR, hbw⟩ := hrel
          clear hb hb0 hie hR1
          have hE := h.below hbw
          cases m
          · have hr : readOf t = some acc := by rw [hR.out]; simp
            have hN : rdN t = acc := by simp [rdN, hr]
            have hB : rdB t = true := by simp [rdB, hr]
            clear hR hE hr
            go_wp2
            exact bodyPost_ret (v := .tuple #[sv acc, .bool true]) (by simp [results, Tryd.results22, go_sem]) rfl ⟨by rw [hN, hB], hbw⟩
          · obtain ⟨k, rfl⟩ : ∃ k, n = k + 1 := ⟨n - 1, by omega⟩
            have hR2 : Hid (readOf t = match revent (Lib.cut b [44]).1 with
              | none => none
              | some e => if (e : Int) ≤ l then none else if (Lib.cut b [44]).2.2 = true then rdE k (Lib.cut b [44]).2.1 e (acc ||| bitOf e) else some (acc ||| bitOf e)) := by
              show _ = _
              rw [hR.out, if_pos rfl, rdE]
              cases revent (Lib.cut b [44]).1 <;> rfl
            clear hR
            have hc1 := cut_small b [44]
            have hc2 := cut_less b
            have hcut := Tryd.strings_Cut_shaped ⟨b.toArray⟩ ⟨#[44]⟩ wr hE.shape (by simp [ByteArray.size]; omega)
            rw [show (⟨b.toArray⟩ : ByteArray).data.toList = b from rfl, show (⟨#[44]⟩ : ByteArray).data.toList = [44] from rfl] at hcut
            generalize (Lib.cut b [44]).1 = x at *
            generalize (Lib.cut b [44]).2.1 = y at *
            generalize (Lib.cut b [44]).2.2 = z at *
            go_wp2_with fail
            refine hcut.mono ?_
            rintro e w1 ⟨rfl, n1, rfl⟩
            have hbw1 : Below w.heap.size w (wr.drewN n1) := below_drewN hbw _
            have hE1 : Env (wr.drewN n1) := h.below hbw1
            generalize wr.drewN n1 = w1 at *
            clear hcut hbw hE
            go_wp2_with fail
            refine (readEvent_any x (by omega) w1 hE1).mono ?_
            rintro e w2 ⟨rfl, hb2⟩
            have hbw2 : Below w.heap.size w w2 := hbw1.trans (hb2.mono hbw1.size)
            clear hb2 hbw1 hE1
            rcases rv_cases x with ⟨hv, hN, hB⟩ | ⟨e, he, hv, hN, hB⟩
            · have hr : readOf t = none := by rw [hR2.out, hv]
              have hN' : rdN t = 0 := by simp [rdN, hr]
              have hB' : rdB t = false := by simp [rdB, hr]
              rw [hN, hB]
              clear hR2 hr
              go_wp2
              exact bodyPost_ret (v := .tuple #[sv 0, .bool false]) (by simp [results, Tryd.results22, go_sem]) rfl ⟨by rw [hN', hB'], hbw2⟩
            · rw [hN, hB]
              by_cases hle : (e : Int) ≤ l
              · have hr : readOf t = none := by rw [hR2.out, hv]; simp [hle]
                have hN' : rdN t = 0 := by simp [rdN, hr]
                have hB' : rdB t = false := by simp [rdB, hr]
                clear hR2 hr
                go_wp2
                exact bodyPost_ret (v := .tuple #[sv 0, .bool false]) (by simp [results, Tryd.results22, go_sem]) rfl ⟨by rw [hN', hB'], hbw2⟩
              · have hR3 : Hid (readOf t = if z = true then rdE k y e (acc ||| bitOf e) else some (acc ||| bitOf e)) := by
                  show _ = _
                  rw [hR2.out, hv]; simp [hle]
                have hw := with_any acc (e : Int) hacc
                have hacc2 := or_lt acc (bitOf e) hacc (bitOf_lt e)
                clear hR2 hv hacc
                generalize acc ||| bitOf (e : Int) = acc2 at *
                go_wp2_with (go_at_call 14; refine (hw _).mono ?_; rintro r wX ⟨rfl, hwX⟩; subst wX)
                cases z
                · exact ⟨⟨y.length + 1, y, e, acc2, false, rfl, rfl, rfl, rfl, Nat.lt_succ_self _, by omega, hacc2, hR3, hbw2⟩, by simp [leftV]⟩
                · have hyb := hc2 rfl
                  exact ⟨⟨k, y, e, acc2, true, rfl, rfl, rfl, rfl, by omega, by omega, hacc2, hR3, hbw2⟩, by simp [leftV, ByteArray.size]; omega⟩
end Go.Proofs.YtklamncepgejeaaDoor
