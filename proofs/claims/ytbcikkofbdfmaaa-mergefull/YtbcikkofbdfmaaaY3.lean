/- Whether two tables are the same, as the document has it: pointsmanref10.Same; any tables. -/
import Derived.Test.YtbcikkofbdfmaaaY2
import Derived.Lib.QuietBelow
import Derived.BigQuiet
set_option linter.unusedVariables false
set_option linter.unusedSimpArgs false
namespace Go.Proofs.Ytbcikkofbdfmaaa
open Go.RowKit Go.Joins Go.Sort

/-- Numbers lie behind a slice. -/
def NumsAt (w : World) (v : Value) (N : List Int) : Prop :=
  ∃ sa sc, v = .slice sa N.length sc ∧ N.length ≤ 9223372036854775807 ∧ ∀ k (hk : k < N.length), ∃ b off, sa = some ⟨b, off, none⟩ ∧ b < w.heap.size ∧ w.cell? ⟨b, off + k, none⟩ = some (.int .i64 N[k])
theorem NumsAt.below {w w' : World} {v : Value} {T : List Int} (h : NumsAt w v T) (hb : Below w.heap.size w w') : NumsAt w' v T := by
  obtain ⟨sa, sc, e, hl, hc⟩ := h
  refine ⟨sa, sc, e, hl, fun k hk => ?_⟩
  obtain ⟨b, off, e1, h1, h2⟩ := hc k hk
  exact ⟨b, off, e1, Nat.lt_of_lt_of_le h1 hb.size, (hb.cell (p := ⟨b, off + k, none⟩) h1).trans h2⟩
structure Tab where
  n : List Int
  l : List Lst
abbrev tv (x y : Value) : Value := .agg #[x, y]
def tob (x y : Value) : Obj := .cells #[x, y] 30
def TabAt (w : World) (x y : Value) (t : Tab) : Prop := NumsAt w x t.n ∧ ListsAt w y t.l
def sameAll : List Lst → List Lst → Bool
  | [], [] => true
  | a :: A, b :: B => sameB a b && sameAll A B
  | _, _ => false
def sameT (a b : Tab) : Bool := decide (a.n = b.n) && sameAll a.l b.l
theorem sameAll_len : ∀ {A B : List Lst}, A.length ≠ B.length → sameAll A B = false
  | [], [], h => absurd rfl h
  | [], _ :: _, _ => rfl
  | _ :: _, [], _ => rfl
  | a :: A, b :: B, h => by unfold sameAll; rw [sameAll_len (fun e => h (by simp [e])), Bool.and_false]
theorem sameAll_no : ∀ {A B : List Lst} {k : Nat} (h1 : k < A.length) (h2 : k < B.length), sameB A[k] B[k] = false → sameAll A B = false
  | a :: A, b :: B, 0, _, _, e => by unfold sameAll; rw [show sameB a b = false from e, Bool.false_and]
  | a :: A, b :: B, k + 1, h1, h2, e => by unfold sameAll; rw [sameAll_no (k := k) (Nat.lt_of_succ_lt_succ h1) (Nat.lt_of_succ_lt_succ h2) e, Bool.and_false]
theorem sameAll_yes : ∀ {A B : List Lst}, A.length = B.length → (∀ j (h1 : j < A.length) (h2 : j < B.length), sameB A[j] B[j] = true) → sameAll A B = true
  | [], [], _, _ => rfl
  | [], _ :: _, h, _ => absurd h (by simp)
  | _ :: _, [], h, _ => absurd h (by simp)
  | a :: A, b :: B, h, g => by
    unfold sameAll
    rw [show sameB a b = true from g 0 (by simp) (by simp), sameAll_yes (Nat.succ.inj h) (fun j h1 h2 => g (j + 1) (Nat.succ_lt_succ h1) (Nat.succ_lt_succ h2)), Bool.and_true]

theorem alloc_size (w : World) (o : Obj) : (w.alloc o).heap.size = w.heap.size + 1 := by
  show (w.heap.push o).size = _
  exact Array.size_push _
theorem two_box (w : World) (x y x' y' : Value) : ((w.alloc (tob x y)).alloc (tob x' y')).cell? ⟨w.heap.size, 0, none⟩ = some x ∧ ((w.alloc (tob x y)).alloc (tob x' y')).cell? ⟨w.heap.size, 1, none⟩ = some y ∧ ((w.alloc (tob x y)).alloc (tob x' y')).cell? ⟨w.heap.size + 1, 0, none⟩ = some x' ∧ ((w.alloc (tob x y)).alloc (tob x' y')).cell? ⟨w.heap.size + 1, 1, none⟩ = some y' := by
  obtain ⟨h1, h2⟩ := row2 (heap_alloc_new w (tob x y))
  have hb : Below (w.alloc (tob x y)).heap.size (w.alloc (tob x y)) ((w.alloc (tob x y)).alloc (tob x' y')) := (Below.refl _ _).alloc (Nat.le_refl _) _
  have hlt : w.heap.size < (w.alloc (tob x y)).heap.size := by rw [alloc_size]; exact Nat.lt_succ_self _
  obtain ⟨h3, h4⟩ := row2 (heap_alloc_new (w.alloc (tob x y)) (tob x' y'))
  rw [alloc_size] at h3 h4
  exact ⟨(hb.cell (p := ⟨w.heap.size, 0, none⟩) hlt).trans h1, (hb.cell (p := ⟨w.heap.size, 1, none⟩) hlt).trans h2, h3, h4⟩
theorem two_below (w : World) (o o' : Obj) : Below w.heap.size w ((w.alloc o).alloc o') :=
  ((Below.refl _ _).alloc (Nat.le_refl _) o).alloc (by rw [alloc_size]; exact Nat.le_succ _) o'

set_option maxRecDepth 100000 in
set_option maxHeartbeats 8000000 in
theorem rsameT_any (x y x' y' : Value) (A B : Tab) (w : World) (h : TabAt w x y A) (h' : TabAt w x' y' B) : Calls Try.prog 10 #[tv x y, tv x' y'] w fun e w' => e = .returned (.bool (sameT A B)) ∧ Below w.heap.size w w' := by
  obtain ⟨⟨sa, sc, rfl, hl, hc⟩, ⟨ta, tc, rfl, hm, hd⟩⟩ := h
  obtain ⟨⟨sa', sc', rfl, hl', hc'⟩, ⟨ta', tc', rfl, hm', hd'⟩⟩ := h'
  have HC := hid hc
  have HD := hid hd
  have HC' := hid hc'
  have HD' := hid hd'
  clear hc hd hc' hd'
  obtain ⟨R, hR⟩ : ∃ R, A.n.length = R := ⟨_, rfl⟩
  obtain ⟨R', hR'⟩ : ∃ R, B.n.length = R := ⟨_, rfl⟩
  obtain ⟨S, hS⟩ : ∃ R, A.l.length = R := ⟨_, rfl⟩
  obtain ⟨S', hS'⟩ : ∃ R, B.l.length = R := ⟨_, rfl⟩
  have HR := hid hR
  have HR' := hid hR'
  have HS := hid hS
  have HS' := hid hS'
  rw [hR] at hl ⊢
  rw [hR'] at hl' ⊢
  rw [hS] at hm ⊢
  rw [hS'] at hm' ⊢
  clear hR hR' hS hS'
  have HW := hid (two_below w (tob (.slice sa R sc) (.slice ta S tc)) (tob (.slice sa' R' sc') (.slice ta' S' tc')))
  have HX := hid (two_box w (.slice sa R sc) (.slice ta S tc) (.slice sa' R' sc') (.slice ta' S' tc'))
  by_cases hRR : R = R'
  · subst hRR
    have dR : ((R : Int) != (R : Int)) = false := by simp
    by_cases hSS : S = S'
    · subst hSS
      have dS : ((S : Int) != (S : Int)) = false := by simp
      go_enter Try.func10, Try.ntmps10
      go_wp2
      go_loopw [5] (fun i wr => ∃ (k : Nat), k ≤ R ∧ i = .int .i64 (k : Int) ∧ Hid (∀ j (h1 : j < A.n.length) (h2 : j < B.n.length), j < k → A.n[j] = B.n[j]) ∧ Hid (Below w.heap.size w wr) ∧ wr.cell? ⟨w.heap.size, 0, none⟩ = some (.slice sa R sc) ∧ wr.cell? ⟨w.heap.size, 1, none⟩ = some (.slice ta S tc) ∧ wr.cell? ⟨w.heap.size + 1, 0, none⟩ = some (.slice sa' R sc') ∧ wr.cell? ⟨w.heap.size + 1, 1, none⟩ = some (.slice ta' S tc')) (fun i _ => R - (intOf i).toNat)
      case atStart => exact ⟨0, Nat.zero_le _, rfl, fun j _ _ hj => absurd hj (by omega), HW, HX.out⟩
      case round =>
        obtain ⟨k, hk, rfl, HN, HB, b0, b1, b2, b3⟩ := hrel
        by_cases hlt : k < R
        · have hlt' : k < A.n.length := by rw [HR.out]; exact hlt
          have hlt2 : k < B.n.length := by rw [HR'.out]; exact hlt
          have dk : decide ((k : Int) < (R : Int)) = true := by simp; omega
          have hk1 : (k : Int) < (R : Int) := by omega
          obtain ⟨b, off, rfl, hb, hu⟩ := HC.out k hlt'
          obtain ⟨b', off', rfl, hb', hu'⟩ := HC'.out k hlt2
          have a0 := (HB.out.cell (p := ⟨b, off + k, none⟩) hb).trans hu
          have a1 := (HB.out.cell (p := ⟨b', off' + k, none⟩) hb').trans hu'
          have HNE : Hid (A.n[k] ≠ B.n[k] → A.n ≠ B.n) := fun e => ne_at hlt' hlt2 e
          have HN2 : Hid (A.n[k] = B.n[k] → ∀ j (h1 : j < A.n.length) (h2 : j < B.n.length), j < k + 1 → A.n[j] = B.n[j]) := fun e j h1 h2 hj => by
            by_cases e2 : j = k
            · subst e2; exact e
            · exact HN.out j h1 h2 (by omega)
          generalize A.n[k] = F at *
          generalize B.n[k] = G at *
          clear hu hu'
          by_cases hF : F = G
          · subst hF
            have dF : (F != F) = false := by simp
            have HN3 := hid (HN2.out rfl)
            go_wp2_with fail
            go_quiet (fail)
            have HBq : Hid (Below w.heap.size w (wr.drewN nq)) := below_drewN HB.out nq
            clear a0 a1 HB
            go_wp2
            go_roundw
            case rel => exact ⟨k + 1, by omega, by go_num, HN3, HBq, b0, b1, b2, b3⟩
            case measure => simp [intOf]; omega
          · have dF : (F != G) = true := by simp [hF]
            have HE : Hid (sameT A B = false) := by show _ = _; unfold sameT; rw [decide_eq_false (HNE.out hF), Bool.false_and]
            go_wp2_with fail
            go_quiet (fail)
            have HBq : Hid (Below w.heap.size w (wr.drewN nq)) := below_drewN HB.out nq
            clear a0 a1 HB
            go_wp2
            go_ret
            exact ⟨by rw [HE.out]; rfl, HBq.out⟩
        · obtain rfl : k = R := by omega
          have dk : decide ((k : Int) < (k : Int)) = false := by simp
          have HNN : Hid (A.n = B.n) := eq_all (HR.out.trans HR'.out.symm) fun j h1 h2 => HN.out j h1 h2 (by rw [HR.out] at h1; exact h1)
          clear HN
          go_wp2
          generalize hR0 : k = R0 at *
          go_loopw [6] (fun i wx => ∃ (m : Nat), m ≤ S ∧ i = .int .i64 (m : Int) ∧ Hid (∀ j (h1 : j < A.l.length) (h2 : j < B.l.length), j < m → sameB A.l[j] B.l[j] = true) ∧ Hid (Below w.heap.size w wx) ∧ wx.cell? ⟨w.heap.size, 1, none⟩ = some (.slice ta S tc) ∧ wx.cell? ⟨w.heap.size + 1, 1, none⟩ = some (.slice ta' S tc')) (fun i _ => S - (intOf i).toNat)
          case atStart => exact ⟨0, Nat.zero_le _, rfl, fun j _ _ hj => absurd hj (by omega), HB, b1, b3⟩
          case round =>
            clear HB b0 b1 b2 b3
            obtain ⟨m, hk, rfl, HN, HB, b1, b3⟩ := hrel
            by_cases hlt : m < S
            · have hlt' : m < A.l.length := by rw [HS.out]; exact hlt
              have hlt2 : m < B.l.length := by rw [HS'.out]; exact hlt
              have dm : decide ((m : Int) < (S : Int)) = true := by simp; omega
              have hm1 : (m : Int) < (S : Int) := by omega
              obtain ⟨b, off, rfl, hb, u, hu, hp⟩ := HD.out m hlt'
              obtain ⟨b', off', rfl, hb', u', hu', hp'⟩ := HD'.out m hlt2
              have a0 := (HB.out.cell (p := ⟨b, off + m, none⟩) hb).trans hu
              have a1 := (HB.out.cell (p := ⟨b', off' + m, none⟩) hb').trans hu'
              have s0 := cell_regrown a0
              have s1 := cell_regrown a1
              have s2 := cell_regrown b1
              have s3 := cell_regrown b3
              have hp2 := hp.below HB.out
              have hp3 := hp'.below HB.out
              have cM : Hid (∀ d os, Calls Try.prog 25 #[u, u'] (grow (redrawn wr d) os) fun e w'' => e = .returned (.bool (sameB A.l[m] B.l[m])) ∧ ∃ p : Regrown, w'' = grow (redrawn wr p.d) p.os) := fun d os => Calls.regrown_of (rsame_any u u' A.l[m] B.l[m] _ (hp2.below (below_regrown wr d os)) (hp3.below (below_regrown wr d os)))
              have HNE : Hid (sameB A.l[m] B.l[m] = false → sameT A B = false) := fun e => by unfold sameT; rw [sameAll_no hlt' hlt2 e, Bool.and_false]
              have HN2 : Hid (sameB A.l[m] B.l[m] = true → ∀ j (h1 : j < A.l.length) (h2 : j < B.l.length), j < m + 1 → sameB A.l[j] B.l[j] = true) := fun e j h1 h2 hj => by
                by_cases e2 : j = m
                · subst e2; exact e
                · exact HN.out j h1 h2 (by omega)
              clear hu hu' hp hp' hp2 hp3
              cases hq : sameB A.l[m] B.l[m] with
              | true =>
                rw [hq] at cM
                have HN3 := hid (HN2.out hq)
                clear hq
                go_wp2_with fail
                clear a0 a1 b1 b3
                refine wp_region_quiet_below (by kernel_rfl) (by kernel_rfl) ?_
                repeat (go_big_quiet_step (first | (go_at_call 25; exact cM.out _ _)))
                refine wpQuiet_nil ?_
                intro _ hw'
                obtain ⟨⟨dq, osq⟩, hw''⟩ := hw'
                subst hw''
                have HB2 : Hid (Below w.heap.size w (grow (redrawn wr dq) osq)) := HB.out.trans ((below_regrown wr dq osq).mono HB.out.size)
                have t1 := s2 dq osq
                have t3 := s3 dq osq
                generalize (grow (redrawn wr dq) osq) = W at *
                clear s0 s1 s2 s3 cM HB
                go_wp2
                go_roundw
                case rel => exact ⟨m + 1, by omega, by go_num, HN3, HB2, t1, t3⟩
                case measure => simp [intOf]; omega
              | false =>
                rw [hq] at cM
                have HE := hid (HNE.out hq)
                clear hq
                go_wp2_with fail
                clear a0 a1 b1 b3
                refine wp_region_quiet_below (by kernel_rfl) (by kernel_rfl) ?_
                repeat (go_big_quiet_step (first | (go_at_call 25; exact cM.out _ _)))
                refine wpQuiet_nil ?_
                intro _ hw'
                obtain ⟨⟨dq, osq⟩, hw''⟩ := hw'
                subst hw''
                have HB2 : Hid (Below w.heap.size w (grow (redrawn wr dq) osq)) := HB.out.trans ((below_regrown wr dq osq).mono HB.out.size)
                go_wp2
                go_ret
                exact ⟨by rw [HE.out]; rfl, HB2.out⟩
            · obtain rfl : m = S := by omega
              have dm : decide ((m : Int) < (m : Int)) = false := by simp
              have HE : Hid (sameT A B = true) := by
                show _ = _
                unfold sameT
                rw [decide_eq_true HNN.out, sameAll_yes (HS.out.trans HS'.out.symm) fun j h1 h2 => HN.out j h1 h2 (by rw [HS.out] at h1; exact h1)]
                rfl
              go_wp2
              go_ret
              exact ⟨by rw [HE.out]; rfl, HB.out⟩
    · have dS : ((S : Int) != (S' : Int)) = true := by simp; omega
      have HE : Hid (sameT A B = false) := by show _ = _; unfold sameT; rw [sameAll_len (by rw [HS.out, HS'.out]; exact hSS), Bool.and_false]
      go_enter Try.func10, Try.ntmps10
      go_wp2
      go_ret
      exact ⟨by rw [HE.out]; rfl, HW.out⟩
  · have dR : ((R : Int) != (R' : Int)) = true := by simp; omega
    have HE : Hid (sameT A B = false) := by show _ = _; unfold sameT; rw [decide_eq_false fun e => hRR (by rw [← HR.out, ← HR'.out, e]), Bool.false_and]
    go_enter Try.func10, Try.ntmps10
    go_wp2
    go_ret
    exact ⟨by rw [HE.out]; rfl, HW.out⟩
end Go.Proofs.Ytbcikkofbdfmaaa
