/- The list of a tag: merge.listOf; how many rows there are: merge.Rows; whether numbers are the same: slices.Equal; any tables. -/
import Derived.Test.YtbcikkofbdfmaaaZ9
set_option linter.unusedVariables false
set_option linter.unusedSimpArgs false
namespace Go.Proofs.Ytbcikkofbdfmaaa
open Go.RowKit Go.Joins Go.Sort

def listM (t : Tab) (k : Nat) : Option Lst := match t.n[k]? with | some i => if okI t i then some (atI t i) else none | none => none
def ListIs (w : World) (o : Option Lst) (e : Ending) : Prop := match o with
  | some X => ∃ u, e = .returned (.tuple #[u, .bool true]) ∧ RowsAt w u X
  | none => e = .returned (.tuple #[.slice none 0 0, .bool false])
set_option maxRecDepth 100000 in
set_option maxHeartbeats 4000000 in
theorem list_any (x y : Value) (t : Tab) (k : Nat) (hk63 : k ≤ 9223372036854775807) (w0 w : World) (h : TabAt w0 x y t) (hB0 : Below w0.heap.size w0 w) : Calls Try.prog 26 #[tv x y, .int .i64 (k : Int)] w fun e w' => ListIs w0 (listM t k) e ∧ Below w.heap.size w w' := by
  obtain ⟨⟨sa, sc, rfl, hl, hc⟩, ⟨ta, tc, rfl, hm, hd⟩⟩ := h
  have HB : Hid (∀ o, Below w.heap.size w (w.alloc o)) := fun o => (Below.refl _ _).alloc (Nat.le_refl _) o
  have HB00 := hid hB0
  clear hB0
  obtain ⟨R, hR⟩ : ∃ R, t.n.length = R := ⟨_, rfl⟩
  obtain ⟨S, hS⟩ : ∃ R, t.l.length = R := ⟨_, rfl⟩
  have HR := hid hR
  have HS := hid hS
  rw [hR] at hl ⊢
  rw [hS] at hm ⊢
  have HC := hid hc
  have HD := hid hd
  clear hc hd hR hS
  by_cases hlt : k < R
  · have dk : decide ((R : Int) ≤ (k : Int)) = false := by simp; omega
    have hk1 : (k : Int) < (R : Int) := by omega
    have hkL : k < t.n.length := by rw [HR.out]; exact hlt
    obtain ⟨b, off, rfl, hb, hu0⟩ := HC.out k hkL
    have hu := (HB00.out.cell (p := ⟨b, off + k, none⟩) hb).trans hu0
    have hbw : b < w.heap.size := Nat.lt_of_lt_of_le hb HB00.out.size
    clear hu0 hb
    have HLM : Hid (listM t k = if okI t t.n[k] then some (atI t t.n[k]) else none) := by
      show _ = _
      unfold listM
      rw [List.getElem?_eq_getElem hkL]
    generalize t.n[k] = n at *
    by_cases h0 : n < 0
    · have d0 : decide (n < 0) = true := by simp; omega
      have HE : Hid (listM t k = none) := by show _ = _; rw [HLM.out]; unfold okI; rw [decide_eq_false (by omega)]; simp
      go_enter Try.func26, Try.ntmps26
      go_wp2
      refine bodyPost_ret (v := .tuple #[.slice none 0 0, .bool false]) (by simp [results, Try.results26, go_sem]) rfl ⟨by rw [HE.out]; rfl, HB.out _⟩
    · have d0 : decide (n < 0) = false := by simp; omega
      obtain ⟨j, rfl⟩ := Int.eq_ofNat_of_zero_le (show 0 ≤ n by omega)
      by_cases h1 : S ≤ j
      · have d1 : decide ((S : Int) ≤ (j : Int)) = true := by simp; omega
        have HE : Hid (listM t k = none) := by show _ = _; rw [HLM.out]; unfold okI; rw [HS.out, decide_eq_false (show ¬ (j : Int) < (S : Int) by omega), Bool.and_false]; rfl
        go_enter Try.func26, Try.ntmps26
        go_wp2
        refine bodyPost_ret (v := .tuple #[.slice none 0 0, .bool false]) (by simp [results, Try.results26, go_sem]) rfl ⟨by rw [HE.out]; rfl, HB.out _⟩
      · have d1 : decide ((S : Int) ≤ (j : Int)) = false := by simp; omega
        have hj2 : (j : Int) < (S : Int) := by omega
        have hj3 : j < S := by omega
        have hjT : j < t.l.length := by rw [HS.out]; omega
        have HE : Hid (listM t k = some t.l[j]) := by
          show _ = _
          rw [HLM.out]
          unfold okI atI
          rw [HS.out, decide_eq_true hj2, decide_eq_true (by omega), Int.toNat_natCast, List.getD_eq_getElem?_getD, List.getElem?_eq_getElem hjT]; rfl
        obtain ⟨b', off', rfl, hb', u, hu0', hp⟩ := HD.out j hjT
        have hu' := (HB00.out.cell (p := ⟨b', off' + j, none⟩) hb').trans hu0'
        have hbw' : b' < w.heap.size := Nat.lt_of_lt_of_le hb' HB00.out.size
        clear hu0' hb'
        generalize t.l[j] = X at *
        obtain ⟨ua, uc, hue, -⟩ := hp.form
        obtain ⟨xl, hxl⟩ : ∃ xl, X.length = xl := ⟨_, rfl⟩
        rw [hxl] at hue
        have HP := hid hp
        clear hp hxl
        subst hue
        go_enter Try.func26, Try.ntmps26
        go_wp2
        refine bodyPost_ret (v := .tuple #[.slice ua xl uc, .bool true]) (by simp [results, Try.results26, go_sem]) rfl ⟨by rw [HE.out]; exact ⟨_, rfl, HP.out⟩, HB.out _⟩
  · have dk : decide ((R : Int) ≤ (k : Int)) = true := by simp; omega
    have HE : Hid (listM t k = none) := by show _ = _; unfold listM; rw [List.getElem?_eq_none (by rw [HR.out]; omega)]
    go_enter Try.func26, Try.ntmps26
    go_wp2
    refine bodyPost_ret (v := .tuple #[.slice none 0 0, .bool false]) (by simp [results, Try.results26, go_sem]) rfl ⟨by rw [HE.out]; rfl, HB.out _⟩
set_option maxRecDepth 100000 in
set_option maxHeartbeats 4000000 in
theorem rows_any (x y : Value) (t : Tab) (w : World) (h : TabAt w x y t) (hs : ∀ k, rowsM (t.l.take k) ≤ 9223372036854775807) : Calls Try.prog 15 #[tv x y] w fun e w' => e = .returned (.int .i64 (rowsM t.l : Int)) ∧ Below w.heap.size w w' := by
  obtain ⟨⟨sa, sc, rfl, hl, -⟩, ⟨ta, tc, rfl, hm, hd⟩⟩ := h
  have HB : Hid (∀ o, Below w.heap.size w (w.alloc o)) := fun o => (Below.refl _ _).alloc (Nat.le_refl _) o
  generalize t.n.length = n1 at *
  generalize t.l = T at *
  have HC := hid hd
  have HS := hid hs
  obtain ⟨R, hR⟩ : ∃ R, T.length = R := ⟨_, rfl⟩
  have HR := hid hR
  rw [hR] at hm ⊢
  clear hd hR hs
  go_enter Try.func15, Try.ntmps15
  go_wp2
  go_loopw [3, 9] (fun s i wr => ∃ (k S : Nat), k ≤ R ∧ i = .int .i64 (k : Int) ∧ s = .int .i64 (S : Int) ∧ Hid (rowsM (T.take k) = S) ∧ Hid (Below w.heap.size w wr)) (fun _ i _ => R - (intOf i).toNat)
  case atStart => exact ⟨0, 0, Nat.zero_le _, rfl, rfl, rfl, HB.out _⟩
  case round =>
    obtain ⟨k, S, hk, rfl, rfl, HN, HB⟩ := hrel
    by_cases hlt : k < R
    · have hlt' : k < T.length := by rw [HR.out]; exact hlt
      have dk : decide ((k : Int) < (R : Int)) = true := by simp; omega
      have hk1 : (k : Int) < (R : Int) := by omega
      obtain ⟨b, off, rfl, hb, u, hu, hp⟩ := HC.out k hlt'
      have hu2 := (HB.out.cell (p := ⟨b, off + k, none⟩) hb).trans hu
      obtain ⟨ua, uc, hue, -⟩ := hp.form
      have hsum := rowsM_take T k hlt'
      have hbd := HS.out (k + 1)
      generalize (T[k]).length = un at *
      subst hue
      rw [HN.out] at hsum
      have HN2 : Hid (rowsM (T.take (k + 1)) = S + un) := hsum
      rw [hsum] at hbd
      clear hsum hp hu
      go_wp2
      go_roundw
      case rel => exact ⟨k + 1, S + un, by omega, by go_num, by go_num, HN2, HB⟩
      case measure => simp [intOf]; omega
    · obtain rfl : k = R := by omega
      have dk : decide ((k : Int) < (k : Int)) = false := by simp
      have HE : Hid (rowsM T = S) := by
        have := HN.out
        rwa [List.take_of_length_le (by rw [HR.out]; exact Nat.le_refl _)] at this
      go_wp2
      go_ret
      exact ⟨by rw [HE.out]; rfl, HB.out⟩
set_option maxRecDepth 100000 in
set_option maxHeartbeats 4000000 in
theorem eq28 (v v' : Value) (A B : List Int) (w : World) (h : NumsAt w v A) (h' : NumsAt w v' B) : Calls Try.prog 28 #[v, v'] w fun e w' => e = .returned (.bool (decide (A = B))) ∧ Below w.heap.size w w' := by
  obtain ⟨sa, sc, rfl, hl, hc⟩ := h
  obtain ⟨sb, sd, rfl, hl', hd⟩ := h'
  have HC := hid hc
  have HD := hid hd
  clear hc hd
  obtain ⟨R, hR⟩ : ∃ R, A.length = R := ⟨_, rfl⟩
  obtain ⟨S, hS⟩ : ∃ S, B.length = S := ⟨_, rfl⟩
  have HR := hid hR
  have HS := hid hS
  rw [hR] at hl ⊢
  rw [hS] at hl' ⊢
  by_cases hRS : R = S
  · subst hRS
    clear hR hS
    have dn : ((R : Int) != (R : Int)) = false := by simp
    go_enter Try.func28, Try.ntmps28
    go_wp2
    go_loopw [13] (fun i wr => ∃ (k : Nat), k ≤ R ∧ i = .int .i64 (k : Int) ∧ Hid (∀ j (h1 : j < A.length) (h2 : j < B.length), j < k → A[j] = B[j]) ∧ Hid (Below w.heap.size w wr)) (fun i _ => R - (intOf i).toNat)
    case atStart => exact ⟨0, Nat.zero_le _, rfl, fun j _ _ hj => absurd hj (by omega), Below.refl _ _⟩
    case round =>
      obtain ⟨k, hk, rfl, HN, HB⟩ := hrel
      by_cases hlt : k < R
      · have hlt' : k < A.length := by rw [HR.out]; exact hlt
        have hlt2 : k < B.length := by rw [HS.out]; exact hlt
        have dk : decide ((k : Int) < (R : Int)) = true := by simp; omega
        have hk1 : (k : Int) < (R : Int) := by omega
        obtain ⟨b, off, rfl, hb, hx⟩ := HC.out k hlt'
        obtain ⟨b', off', rfl, hb', hx'⟩ := HD.out k hlt2
        have a0 := (HB.out.cell (p := ⟨b, off + k, none⟩) hb).trans hx
        have c0 := (HB.out.cell (p := ⟨b', off' + k, none⟩) hb').trans hx'
        have HNE : Hid (A[k] ≠ B[k] → A ≠ B) := fun e => ne_at hlt' hlt2 e
        have HN2 : Hid (A[k] = B[k] → ∀ j (h1 : j < A.length) (h2 : j < B.length), j < k + 1 → A[j] = B[j]) := fun e j h1 h2 hj => by
          by_cases e2 : j = k
          · subst e2; exact e
          · exact HN.out j h1 h2 (by omega)
        generalize A[k] = F at *
        generalize B[k] = G at *
        clear hx hx'
        by_cases hF : F = G
        · subst hF
          have dF : (F != F) = false := by simp
          have HN3 := hid (HN2.out rfl)
          go_wp2_with fail
          go_quiet (fail)
          have HBq : Hid (Below w.heap.size w (wr.drewN nq)) := below_drewN HB.out nq
          clear a0 c0 HB
          go_wp2
          go_roundw
          case rel => exact ⟨k + 1, by omega, by go_num, HN3, HBq⟩
          case measure => simp [intOf]; omega
        · have dF : (F != G) = true := by simp [hF]
          have HE : Hid (A ≠ B) := HNE.out hF
          go_wp2_with fail
          go_quiet (fail)
          have HBq : Hid (Below w.heap.size w (wr.drewN nq)) := below_drewN HB.out nq
          clear a0 c0 HB
          go_wp2
          go_ret
          exact ⟨by rw [decide_eq_false HE.out]; rfl, HBq.out⟩
      · obtain rfl : k = R := by omega
        have dk : decide ((k : Int) < (k : Int)) = false := by simp
        have HE : Hid (A = B) := eq_all (HR.out.trans HS.out.symm) fun j h1 h2 => HN.out j h1 h2 (by rw [HR.out] at h1; exact h1)
        go_wp2
        go_ret
        exact ⟨by rw [decide_eq_true HE.out]; rfl, HB.out⟩
  · have HE : Hid (A ≠ B) := fun e => hRS (by rw [← hR, ← hS, e])
    have dn : ((R : Int) != (S : Int)) = true := by simp; omega
    clear hR hS
    go_enter Try.func28, Try.ntmps28
    go_wp2
    go_ret
    exact ⟨by rw [decide_eq_false HE.out]; rfl, Below.refl _ _⟩
end Go.Proofs.Ytbcikkofbdfmaaa
