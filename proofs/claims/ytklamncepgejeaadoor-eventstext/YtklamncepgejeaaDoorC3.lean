/- What the law EventsText answers: true, of any set and any text, wherever the listed variables hold what the row lists. -/
import Derived.Test.YtklamncepgejeaaDoorC1
set_option linter.unusedVariables false
set_option linter.unusedSimpArgs false
namespace Go.Proofs.YtklamncepgejeaaDoor
open Go.RowKit Go.Joins Go.Sort

theorem textOf_len (s : Nat) : (textOf s).length ≤ 200 := by
  have h1 := (joinD_len (evs s)).2
  have h2 := evs_len s
  unfold textOf
  simp; omega
set_option maxRecDepth 100000 in
set_option maxHeartbeats 1000000 in
theorem text_long (s : Nat) (t : List UInt8) (hn : 200 < t.length) (hmax : t.length ≤ 9223372036854775807) (w : World) (h : Env w) :
    Calls Tryd.prog 5 #[sv s, .string ⟨t.toArray⟩] w fun e w' => e = .returned (.bool true) ∧ Below w.heap.size w w' := by
  have haw := awake_any w h
  have hd : decide ((200 : Int) < (t.length : Int)) = true := by simp; omega
  go_enter Tryd.func5, Tryd.ntmps5
  go_wp2_with fail
  refine haw.mono ?_
  rintro e w1 ⟨rfl, hb1⟩
  clear haw
  go_wp2
  go_ret
  exact ⟨rfl, hb1⟩
set_option maxRecDepth 100000 in
set_option maxHeartbeats 2000000 in
theorem text_short (s : Nat) (hs : s < 18446744073709551616) (t : List UInt8) (hn : t.length ≤ 200) (w : World) (h : Env w) :
    Calls Tryd.prog 5 #[sv s, .string ⟨t.toArray⟩] w fun e w' => e = .returned (.bool true) ∧ Below w.heap.size w w' := by
  have haw := awake_any w h
  have hd : decide ((200 : Int) < (t.length : Int)) = false := by simp; omega
  have hnl : ¬ ((200 : Int) < (t.length : Int)) := by omega
  have hul := textOf_len s
  have hrd : ∀ W, Env W → Calls Tryd.prog 22 #[.string ⟨(textOf s).toArray⟩] W fun e w' => e = .returned (.tuple #[sv s, .bool true]) ∧ Below W.heap.size W w' := by
    intro W hW
    have := read_any (textOf s) (by omega) W hW
    rw [rdN, rdB, read_text s hs] at this
    exact this
  have hrt := read_any t (by omega)
  have htx := text_any s hs
  have hrx := rtext_any s hs
  have hcase : (rdN t = 0 ∧ rdB t = false) ∨ (rdB t = true ∧ textOf (rdN t) = t ∧ rdN t < 18446744073709551616) := by
    cases hr : readOf t with
    | none => exact .inl ⟨by simp [rdN, hr], by simp [rdB, hr]⟩
    | some z =>
      have := text_read t z hr
      exact .inr ⟨by simp [rdB, hr], by simp only [rdN, hr, Option.getD_some]; exact this.1, by simp only [rdN, hr, Option.getD_some]; exact this.2⟩
  generalize textOf s = u at *
  go_enter Tryd.func5, Tryd.ntmps5
  go_wp2_with fail
  refine haw.mono ?_
  rintro e w1 ⟨rfl, hb1⟩
  have hE1 := h.below hb1
  clear haw
  go_wp2_with fail
  refine (htx _ hE1).mono ?_
  rintro e w2 ⟨rfl, hb2⟩
  have hB2 := hb1.trans (hb2.mono hb1.size)
  have hE2 := h.below hB2
  clear hb1 hb2 hE1
  go_wp2_with fail
  refine (hrd _ hE2).mono ?_
  rintro e w3 ⟨rfl, hb3⟩
  have hB3 := hB2.trans (hb3.mono hB2.size)
  have hE3 := h.below hB3
  clear hB2 hb3 hE2
  go_wp2_with fail
  refine (hrt _ hE3).mono ?_
  rintro e w4 ⟨rfl, hb4⟩
  have hB4 := hB3.trans (hb4.mono hB3.size)
  clear hB3 hb4 hE3
  go_wp2_with fail
  refine (hrx _).mono ?_
  rintro e w5 ⟨rfl, hb5⟩
  have hB5 := hB4.trans (hb5.mono hB4.size)
  clear hB4 hb5
  rcases hcase with ⟨hN, hB⟩ | ⟨hB, hN, hlt⟩
  · rw [hN, hB]
    clear hrd hrt htx hrx
    go_wp2
    go_ret
    exact ⟨rfl, hB5⟩
  · rw [hB]
    have hfin := rtext_any (rdN t) hlt
    rw [hN] at hfin
    clear hrd hrt htx hrx hN
    generalize rdN t = z at *
    go_wp2_with fail
    refine (hfin _).mono ?_
    rintro e w6 ⟨rfl, hb6⟩
    go_wp2
    go_ret
    exact ⟨rfl, hB5.trans (hb6.mono hB5.size)⟩
end Go.Proofs.YtklamncepgejeaaDoor
