/- Whether two lists of rows are the same: table.Same; any rows. -/
import Derived.Test.YtbcikkofbdfmaaaXC
import Derived.Test.YtbcikkofbdfmaaaX9
set_option linter.unusedVariables false
set_option linter.unusedSimpArgs false
namespace Go.Proofs.Ytbcikkofbdfmaaa
open Go.RowKit Go.Joins Go.Sort

def key (r : Rx) : Prs × List Prs := (r.m, r.a)
def likeB (r s : Rx) : Bool := decide (key r = key s)
def sameB (A B : List Rx) : Bool := decide (A.map key = B.map key)
theorem sameB_no {A B : List Rx} {k : Nat} (h1 : k < A.length) (h2 : k < B.length) (h : key A[k] ≠ key B[k]) : sameB A B = false :=
  decide_eq_false (ne_at (k := k) (by simpa using h1) (by simpa using h2) (by simpa using h))
theorem sameB_yes {A B : List Rx} (hl : A.length = B.length) (h : ∀ j (h1 : j < A.length) (h2 : j < B.length), key A[j] = key B[j]) : sameB A B = true :=
  decide_eq_true (eq_all (by simpa using hl) fun j h1 h2 => by simpa using h j (by simpa using h1) (by simpa using h2))
theorem sameB_len {A B : List Rx} (hl : A.length ≠ B.length) : sameB A B = false := decide_eq_false fun e => hl (by simpa using congrArg List.length e)
theorem like68 (v v' : Value) (A B : Prs) (w : World) (h : PairsAny w v A) (h' : PairsAny w v' B) : Calls Try.prog 52 #[v, v'] w fun e w' => e = .returned (.bool (decide (A = B))) ∧ Below w.heap.size w w' := by
  have cE := hid (eq69 v v' A B w h h')
  go_enter Try.func52, Try.ntmps52
  go_wp2_with fail
  refine cE.out.mono ?_
  rintro e w' ⟨rfl, hb⟩
  go_wp2
  go_ret
  exact ⟨rfl, hb⟩
set_option maxRecDepth 100000 in
set_option maxHeartbeats 4000000 in
theorem eqf71 (v v' : Value) (A B : List Prs) (w : World) (h : ActsAt w v A) (h' : ActsAt w v' B) : Calls Try.prog 55 #[v, v', .func (.func 52) #[] #[]] w fun e w' => e = .returned (.bool (decide (A = B))) ∧ Below w.heap.size w w' := by
  obtain ⟨sa, sc, rfl, hl, hc⟩ := h
  obtain ⟨sb, sd, rfl, hl', hd⟩ := h'
  have HC := hid hc
  have HD := hid hd
  clear hc hd
  obtain ⟨R, hR⟩ : ∃ R, A.length = R := ⟨_, rfl⟩
  obtain ⟨S, hS⟩ : ∃ S, B.length = S := ⟨_, rfl⟩
  have HR := hid hR
  have HS := hid hS
  rw [hR] at hl ⊢
  rw [hS] at hl' ⊢
  by_cases hRS : R = S
  · subst hRS
    clear hR hS
    have dn : ((R : Int) != (R : Int)) = false := by simp
    go_enter Try.func55, Try.ntmps55
    go_wp2
    go_loopw [17] (fun i wr => ∃ (k : Nat), k ≤ R ∧ i = .int .i64 (k : Int) ∧ Hid (∀ j (h1 : j < A.length) (h2 : j < B.length), j < k → A[j] = B[j]) ∧ Hid (Below w.heap.size w wr)) (fun i _ => R - (intOf i).toNat)
    case atStart => exact ⟨0, Nat.zero_le _, rfl, fun j _ _ hj => absurd hj (by omega), Below.refl _ _⟩
    case round =>
      obtain ⟨k, hk, rfl, HN, HB⟩ := hrel
      by_cases hlt : k < R
      · have hlt' : k < A.length := by rw [HR.out]; exact hlt
        have hlt2 : k < B.length := by rw [HS.out]; exact hlt
        have dk : decide ((k : Int) < (R : Int)) = true := by simp; omega
        have hk1 : (k : Int) < (R : Int) := by omega
        obtain ⟨b, off, rfl, hb, x, hx, hpx⟩ := HC.out k hlt'
        obtain ⟨b', off', rfl, hb', y, hy, hpy⟩ := HD.out k hlt2
        have a0 := (HB.out.cell (p := ⟨b, off + k, none⟩) hb).trans hx
        have c0 := (HB.out.cell (p := ⟨b', off' + k, none⟩) hb').trans hy
        have cL := hid (like68 x y A[k] B[k] wr (hpx.below HB.out) (hpy.below HB.out))
        clear hx hy hpx hpy
        have HNE : Hid (A[k] ≠ B[k] → A ≠ B) := fun e => ne_at hlt' hlt2 e
        have HN2 : Hid (A[k] = B[k] → ∀ j (h1 : j < A.length) (h2 : j < B.length), j < k + 1 → A[j] = B[j]) := fun e j h1 h2 hj => by
          by_cases e2 : j = k
          · subst e2; exact e
          · exact HN.out j h1 h2 (by omega)
        by_cases hF : A[k] = B[k]
        · have HN3 := hid (HN2.out hF)
          rw [decide_eq_true hF] at cL
          clear hF
          go_wp2_with fail
          refine cL.out.mono ?_
          rintro e w2 ⟨rfl, hb2⟩
          have HBq : Hid (Below w.heap.size w w2) := HB.out.trans (hb2.mono HB.out.size)
          clear hb2 cL a0 c0
          go_wp2
          go_roundw
          case rel => exact ⟨k + 1, by omega, by go_num, HN3, HBq⟩
          case measure => simp [intOf]; omega
        · have HE : Hid (A ≠ B) := HNE.out hF
          rw [decide_eq_false hF] at cL
          clear hF
          go_wp2_with fail
          refine cL.out.mono ?_
          rintro e w2 ⟨rfl, hb2⟩
          have HBq : Hid (Below w.heap.size w w2) := HB.out.trans (hb2.mono HB.out.size)
          clear hb2 cL a0 c0
          go_wp2
          go_ret
          exact ⟨by rw [decide_eq_false HE.out]; rfl, HBq.out⟩
      · obtain rfl : k = R := by omega
        have dk : decide ((k : Int) < (k : Int)) = false := by simp
        have HE : Hid (A = B) := eq_all (HR.out.trans HS.out.symm) fun j h1 h2 => HN.out j h1 h2 (by rw [HR.out] at h1; exact h1)
        go_wp2
        go_ret
        exact ⟨by rw [decide_eq_true HE.out]; rfl, HB.out⟩
  · have HE : Hid (A ≠ B) := fun e => hRS (by rw [← hR, ← hS, e])
    have dn : ((R : Int) != (S : Int)) = true := by simp; omega
    clear hR hS
    go_enter Try.func55, Try.ntmps55
    go_wp2
    go_ret
    exact ⟨by rw [decide_eq_false HE.out]; rfl, Below.refl _ _⟩
set_option maxRecDepth 100000 in
set_option maxHeartbeats 4000000 in
theorem like41 (x y x' y' : Value) (r s : Rx) (w : World) (h : RowAt w x y r) (h' : RowAt w x' y' s) : Calls Try.prog 44 #[.agg #[x, y], .agg #[x', y']] w fun e w' => e = .returned (.bool (likeB r s)) ∧ Below w.heap.size w w' := by
  have hb0 : Below w.heap.size w ((w.alloc (rob x y)).alloc (rob x' y')) := ((Below.refl _ _).alloc (Nat.le_refl _) _).alloc (by simp) _
  have HB0 := hid hb0
  have cM := hid (eq70 x x' r.m s.m _ (h.1.below hb0) (h'.1.below hb0))
  have HA : Hid (∀ W, Below w.heap.size w W → ActsAt W y r.a ∧ ActsAt W y' s.a) := fun W hW => ⟨h.2.below hW, h'.2.below hW⟩
  have HX0 := hid ((Below.heap_alloc (w.alloc (rob x y)) (rob x' y') w.heap.size (by simp)).trans (heap_alloc_new w (rob x y)))
  have HY0 := hid (heap_alloc2_new w (rob x y) (rob x' y'))
  obtain ⟨xa, xc, hxe, -⟩ := h.1.form
  obtain ⟨ya, yc, hye⟩ := h.2.form
  obtain ⟨xa', xc', hxe', -⟩ := h'.1.form
  obtain ⟨ya', yc', hye'⟩ := h'.2.form
  generalize r.m.length = n1 at *
  generalize r.a.length = n2 at *
  generalize s.m.length = n3 at *
  generalize s.a.length = n4 at *
  subst hxe hye hxe' hye'
  obtain ⟨e0, e1⟩ := row2 HX0.out
  obtain ⟨e2, e3⟩ := row2 HY0.out
  clear h h' hb0
  go_enter Try.func44, Try.ntmps44
  go_wp2_with fail
  refine cM.out.mono ?_
  rintro e w1 ⟨rfl, hb1⟩
  have HB1 := hid (HB0.out.trans (hb1.mono HB0.out.size))
  have HX1 := hid ((hb1.block _ (heap_lt HX0.out)).trans HX0.out)
  have HY1 := hid ((hb1.block _ (heap_lt HY0.out)).trans HY0.out)
  clear hb1 e0 e1 e2 e3 cM
  obtain ⟨e0, e1⟩ := row2 HX1.out
  obtain ⟨e2, e3⟩ := row2 HY1.out
  by_cases hm : r.m = s.m
  · have HE : Hid (likeB r s = decide (r.a = s.a)) := by
      show _ = _
      unfold likeB key
      rw [hm]
      simp
    rw [decide_eq_true hm]
    clear hm
    have cA := hid (eqf71 _ _ r.a s.a w1 (HA.out w1 HB1.out).1 (HA.out w1 HB1.out).2)
    go_wp2_with fail
    refine cA.out.mono ?_
    rintro e w2 ⟨rfl, hb2⟩
    have HB2 := hid (HB1.out.trans (hb2.mono HB1.out.size))
    clear hb2 cA
    go_wp2
    go_ret
    exact ⟨by rw [HE.out]; rfl, HB2.out⟩
  · have HE : Hid (likeB r s = false) := decide_eq_false fun e => hm (congrArg Prod.fst e)
    rw [decide_eq_false hm]
    clear hm
    go_wp2
    go_ret
    exact ⟨by rw [HE.out]; rfl, HB1.out⟩
set_option maxRecDepth 100000 in
set_option maxHeartbeats 4000000 in
theorem eqf40 (v v' : Value) (A B : List Rx) (w : World) (h : RowsAt w v A) (h' : RowsAt w v' B) : Calls Try.prog 43 #[v, v', .func (.func 44) #[] #[]] w fun e w' => e = .returned (.bool (sameB A B)) ∧ Below w.heap.size w w' := by
  obtain ⟨sa, sc, rfl, hl, -, hc⟩ := h
  obtain ⟨sb, sd, rfl, hl', -, hd⟩ := h'
  have HC := hid hc
  have HD := hid hd
  clear hc hd
  obtain ⟨R, hR⟩ : ∃ R, A.length = R := ⟨_, rfl⟩
  obtain ⟨S, hS⟩ : ∃ S, B.length = S := ⟨_, rfl⟩
  have HR := hid hR
  have HS := hid hS
  rw [hR] at hl ⊢
  rw [hS] at hl' ⊢
  by_cases hRS : R = S
  · subst hRS
    clear hR hS
    have dn : ((R : Int) != (R : Int)) = false := by simp
    go_enter Try.func43, Try.ntmps43
    go_wp2
    go_loopw [17] (fun i wr => ∃ (k : Nat), k ≤ R ∧ i = .int .i64 (k : Int) ∧ Hid (∀ j (h1 : j < A.length) (h2 : j < B.length), j < k → key A[j] = key B[j]) ∧ Hid (Below w.heap.size w wr)) (fun i _ => R - (intOf i).toNat)
    case atStart => exact ⟨0, Nat.zero_le _, rfl, fun j _ _ hj => absurd hj (by omega), Below.refl _ _⟩
    case round =>
      obtain ⟨k, hk, rfl, HN, HB⟩ := hrel
      by_cases hlt : k < R
      · have hlt' : k < A.length := by rw [HR.out]; exact hlt
        have hlt2 : k < B.length := by rw [HS.out]; exact hlt
        have dk : decide ((k : Int) < (R : Int)) = true := by simp; omega
        have hk1 : (k : Int) < (R : Int) := by omega
        obtain ⟨b, off, rfl, hb, x, y, hx, hy, hpx⟩ := HC.out k hlt'
        obtain ⟨b', off', rfl, hb', x', y', hx', hy', hpy⟩ := HD.out k hlt2
        have a0 := (HB.out.cell (p := ⟨b, off + k * 2, none⟩) hb).trans hx
        have a1 := (HB.out.cell (p := ⟨b, off + k * 2 + 1, none⟩) hb).trans hy
        have hb1 : Below wr.heap.size wr ((wr.alloc (rob x y)).alloc (rob x' y')) := ((Below.refl _ _).alloc (Nat.le_refl _) _).alloc (by simp) _
        have hb0 : Below wr.heap.size wr (wr.alloc (rob x y)) := (Below.refl _ _).alloc (Nat.le_refl _) _
        have c0 := ((HB.out.trans (hb0.mono HB.out.size)).cell (p := ⟨b', off' + k * 2, none⟩) hb').trans hx'
        have c1 := ((HB.out.trans (hb0.mono HB.out.size)).cell (p := ⟨b', off' + k * 2 + 1, none⟩) hb').trans hy'
        have HB1 : Hid (Below w.heap.size w ((wr.alloc (rob x y)).alloc (rob x' y'))) := HB.out.trans (hb1.mono HB.out.size)
        have cL := hid (like41 x y x' y' A[k] B[k] ((wr.alloc (rob x y)).alloc (rob x' y')) (hpx.below HB1.out) (hpy.below HB1.out))
        obtain ⟨e0, e1⟩ := row2 ((Below.heap_alloc (wr.alloc (rob x y)) (rob x' y') wr.heap.size (by simp)).trans (heap_alloc_new wr (rob x y)))
        obtain ⟨e2, e3⟩ := row2 (heap_alloc2_new wr (rob x y) (rob x' y'))
        obtain ⟨xa, xc, hxe, -⟩ := hpx.1.form
        obtain ⟨ya, yc, hye⟩ := hpx.2.form
        obtain ⟨xa', xc', hxe', -⟩ := hpy.1.form
        obtain ⟨ya', yc', hye'⟩ := hpy.2.form
        generalize (A[k]).m.length = n1 at *
        generalize (A[k]).a.length = n2 at *
        generalize (B[k]).m.length = n3 at *
        generalize (B[k]).a.length = n4 at *
        subst hxe hye hxe' hye'
        clear hx hy hx' hy' hpx hpy hb0 hb1
        have HNE : Hid (key A[k] ≠ key B[k] → sameB A B = false) := fun e => sameB_no hlt' hlt2 e
        have HN2 : Hid (key A[k] = key B[k] → ∀ j (h1 : j < A.length) (h2 : j < B.length), j < k + 1 → key A[j] = key B[j]) := fun e j h1 h2 hj => by
          by_cases e2 : j = k
          · subst e2; exact e
          · exact HN.out j h1 h2 (by omega)
        by_cases hF : key A[k] = key B[k]
        · have HN3 := hid (HN2.out hF)
          rw [show likeB A[k] B[k] = true from decide_eq_true hF] at cL
          clear hF
          go_wp2_with fail
          refine cL.out.mono ?_
          rintro e w2 ⟨rfl, hb2⟩
          have HBq : Hid (Below w.heap.size w w2) := HB1.out.trans (hb2.mono HB1.out.size)
          clear hb2 cL a0 c0 a1 c1 e0 e1 e2 e3
          go_wp2
          go_roundw
          case rel => exact ⟨k + 1, by omega, by go_num, HN3, HBq⟩
          case measure => simp [intOf]; omega
        · have HE : Hid (sameB A B = false) := HNE.out hF
          rw [show likeB A[k] B[k] = false from decide_eq_false hF] at cL
          clear hF
          go_wp2_with fail
          refine cL.out.mono ?_
          rintro e w2 ⟨rfl, hb2⟩
          have HBq : Hid (Below w.heap.size w w2) := HB1.out.trans (hb2.mono HB1.out.size)
          clear hb2 cL a0 c0 a1 c1 e0 e1 e2 e3
          go_wp2
          go_ret
          exact ⟨by rw [HE.out]; rfl, HBq.out⟩
      · obtain rfl : k = R := by omega
        have dk : decide ((k : Int) < (k : Int)) = false := by simp
        have HE : Hid (sameB A B = true) := sameB_yes (HR.out.trans HS.out.symm) fun j h1 h2 => HN.out j h1 h2 (by rw [HR.out] at h1; exact h1)
        go_wp2
        go_ret
        exact ⟨by rw [HE.out]; rfl, HB.out⟩
  · have HE : Hid (sameB A B = false) := sameB_len fun e => hRS (by rw [← hR, ← hS, e])
    have dn : ((R : Int) != (S : Int)) = true := by simp; omega
    clear hR hS
    go_enter Try.func43, Try.ntmps43
    go_wp2
    go_ret
    exact ⟨by rw [HE.out]; rfl, Below.refl _ _⟩
theorem same_any (v v' : Value) (A B : List Rx) (w : World) (h : RowsAt w v A) (h' : RowsAt w v' B) : Calls Try.prog 32 #[v, v'] w fun e w' => e = .returned (.bool (sameB A B)) ∧ Below w.heap.size w w' := by
  have cE := hid (eqf40 v v' A B w h h')
  go_enter Try.func32, Try.ntmps32
  go_wp2_with fail
  refine cE.out.mono ?_
  rintro e w' ⟨rfl, hb⟩
  go_wp2
  go_ret
  exact ⟨rfl, hb⟩
end Go.Proofs.Ytbcikkofbdfmaaa
