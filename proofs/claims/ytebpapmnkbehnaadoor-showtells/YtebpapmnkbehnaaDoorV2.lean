/- What show's isWrapped, kidText, kidsText and polText answer: a policy's text; policies that are well formed, numbers of 16 bits. -/
import Derived.Test.YtebpapmnkbehnaaDoorV1
import Derived.Test.YtebpapmnkbehnaaDoorP10
import Derived.Test.YtebpapmnkbehnaaDoorK2
set_option linter.unusedVariables false
set_option linter.unusedSimpArgs false
namespace Go.Proofs.YtebpapmnkbehnaaDoor
open Go.RowKit Go.Joins Go.Lib

theorem info9s : (Tryd.prog.info? 9).map (fun i => (i.zero, i.size, i.bytes)) = some (some (.string ⟨#[]⟩), 1, 16) := by kernel_rfl
theorem par_str (t : List UInt8) : (⟨#[40]⟩ : ByteArray) ++ ⟨t.toArray⟩ ++ ⟨#[41]⟩ = ⟨(40 :: (t ++ [41])).toArray⟩ := by
  rw [show (⟨#[40]⟩ : ByteArray) = ⟨[40].toArray⟩ from rfl, show (⟨#[41]⟩ : ByteArray) = ⟨[41].toArray⟩ from rfl, sh_cat, sh_cat]
  simp
theorem not_str (t : List UInt8) : (⟨#[33]⟩ : ByteArray) ++ ⟨t.toArray⟩ = ⟨(33 :: t).toArray⟩ := by
  rw [show (⟨#[33]⟩ : ByteArray) = ⟨[33].toArray⟩ from rfl, sh_cat]
  simp

set_option maxHeartbeats 1000000 in
theorem wrapped_any (xo xf xn : Int) (s1 : Option Addr) (n1 c1 : Nat) (yo yf yn : Int) (s2 : Option Addr) (n2 c2 : Nat) (w : World) :
    Calls Tryd.prog 42 #[nv ⟨xo, xf, xn, .slice s1 n1 c1⟩, nv ⟨yo, yf, yn, .slice s2 n2 c2⟩] w fun e w' => e = .returned (.bool (decide (yo = 7) || (decide (yo = 6) && !decide (xo = 7)))) ∧ Below w.heap.size w w' := by
  by_cases h7 : yo = 7
  · subst h7
    go_enter Tryd.func42, Tryd.ntmps42
    go_wp2
    go_ret
    exact ⟨rfl, ((Below.refl _ w).alloc (Nat.le_refl _) _).alloc (by simp) _⟩
  · have d7 : (yo == 7) = false := by simpa using h7
    have e7 : decide (yo = 7) = false := by simpa using h7
    rw [e7]
    by_cases h6 : yo = 6
    · subst h6
      by_cases hx : xo = 7
      · subst hx
        go_enter Tryd.func42, Tryd.ntmps42
        go_wp2
        go_ret
        exact ⟨rfl, ((Below.refl _ w).alloc (Nat.le_refl _) _).alloc (by simp) _⟩
      · have dx : (xo != 7) = true := by simpa using hx
        have ex : decide (xo = 7) = false := by simpa using hx
        rw [ex]
        go_enter Tryd.func42, Tryd.ntmps42
        go_wp2
        go_ret
        exact ⟨rfl, ((Below.refl _ w).alloc (Nat.le_refl _) _).alloc (by simp) _⟩
    · have d6 : (yo == 6) = false := by simpa using h6
      have e6 : decide (yo = 6) = false := by simpa using h6
      rw [e6]
      go_enter Tryd.func42, Tryd.ntmps42
      go_wp2
      go_ret
      exact ⟨rfl, ((Below.refl _ w).alloc (Nat.le_refl _) _).alloc (by simp) _⟩

theorem heap_new2 (w : World) (a b : Obj) : ((w.alloc a).alloc b).heap[w.heap.size + 1]? = some b := by
  have := heap_alloc_new (w.alloc a) b
  rw [show (w.alloc a).heap.size = w.heap.size + 1 by simp] at this
  exact this
set_option maxHeartbeats 1000000 in
theorem kid_text (xo xf xn : Int) (s1 : Option Addr) (n1 c1 : Nat) (yo yf yn : Int) (s2 : Option Addr) (n2 c2 : Nat) (K : Pl) (hop : yo = K.op) (hl : (textP K).length ≤ 100000) (w : World)
    (c : ∀ W, Below w.heap.size w W → Calls Tryd.prog 15 #[nv ⟨yo, yf, yn, .slice s2 n2 c2⟩] W fun e w' => e = .returned (.string ⟨(textP K).toArray⟩) ∧ Below W.heap.size W w') :
    Calls Tryd.prog 29 #[nv ⟨xo, xf, xn, .slice s1 n1 c1⟩, nv ⟨yo, yf, yn, .slice s2 n2 c2⟩] w fun e w' => e = .returned (.string ⟨(wrapB (opW xo K) (textP K)).toArray⟩) ∧ Below w.heap.size w w' := by
  have C : Hid _ := c
  have HB0 : Hid (Below w.heap.size w ((w.alloc (pobj ⟨xo, xf, xn, .slice s1 n1 c1⟩)).alloc (pobj ⟨yo, yf, yn, .slice s2 n2 c2⟩))) := ((Below.refl _ w).alloc (Nat.le_refl _) _).alloc (by simp) _
  have hy0 : Hid (((w.alloc (pobj ⟨xo, xf, xn, .slice s1 n1 c1⟩)).alloc (pobj ⟨yo, yf, yn, .slice s2 n2 c2⟩)).heap[w.heap.size + 1]? = some (pobj ⟨yo, yf, yn, .slice s2 n2 c2⟩)) := heap_new2 _ _ _
  have hW : Hid (opW xo K = (decide (yo = 7) || (decide (yo = 6) && !decide (xo = 7)))) := by show _ = _; unfold opW; rw [hop]
  have cW := wrapped_any xo xf xn s1 n1 c1 yo yf yn s2 n2 c2 ((w.alloc (pobj ⟨xo, xf, xn, .slice s1 n1 c1⟩)).alloc (pobj ⟨yo, yf, yn, .slice s2 n2 c2⟩))
  rw [← hW.out] at cW
  clear c hop hW
  cases hb : opW xo K with
  | true =>
    rw [hb] at cW
    clear hb
    go_enter Tryd.func29, Tryd.ntmps29
    go_wp2_with fail
    refine cW.mono ?_
    rintro e w1 ⟨rfl, hb1⟩
    obtain ⟨q0, q1, q2, q3⟩ := row4 ((hb1.block _ (heap_lt hy0.out)).trans hy0.out)
    have HB1 : Hid (Below w.heap.size w w1) := HB0.out.trans (hb1.mono HB0.out.size)
    clear hb1 cW hy0 HB0
    go_wp2_with fail
    refine (C.out w1 HB1.out).mono ?_
    rintro e w2 ⟨rfl, hb2⟩
    have HB2 : Hid (Below w.heap.size w w2) := HB1.out.trans (hb2.mono HB1.out.size)
    clear hb2 q0 q1 q2 q3
    go_wp2
    go_ret
    exact ⟨by rw [par_str]; rfl, HB2.out⟩
  | false =>
    rw [hb] at cW
    clear hb
    go_enter Tryd.func29, Tryd.ntmps29
    go_wp2_with fail
    refine cW.mono ?_
    rintro e w1 ⟨rfl, hb1⟩
    obtain ⟨q0, q1, q2, q3⟩ := row4 ((hb1.block _ (heap_lt hy0.out)).trans hy0.out)
    have HB1 : Hid (Below w.heap.size w w1) := HB0.out.trans (hb1.mono HB0.out.size)
    clear hb1 cW hy0 HB0
    go_wp2_with fail
    refine (C.out w1 HB1.out).mono ?_
    rintro e w2 ⟨rfl, hb2⟩
    have HB2 : Hid (Below w.heap.size w w2) := HB1.out.trans (hb2.mono HB1.out.size)
    clear hb2 q0 q1 q2 q3
    go_wp2
    go_ret
    exact ⟨rfl, HB2.out⟩
end Go.Proofs.YtebpapmnkbehnaaDoor
