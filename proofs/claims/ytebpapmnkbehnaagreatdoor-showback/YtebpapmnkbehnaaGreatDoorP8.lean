/- What the reader's atom and unary answer, where sum answers as the model's; no conditions but that the reader stands. -/
import Derived.Test.YtebpapmnkbehnaaGreatDoorP6
set_option linter.unusedVariables false
set_option linter.unusedSimpArgs false
namespace Go.Proofs.YtebpapmnkbehnaaGreatDoor
open Go.RowKit Go.Joins

/-! ### The reader goes on, never back -/
/-- Not back, and within. -/
def Up (L : List Tk) (σ σ' : St) : Prop := σ.pos ≤ σ'.pos ∧ Ok L σ'
theorem Up.trans {L : List Tk} {a b c : St} (h : Up L a b) (k : Up L b c) : Up L a c := ⟨Nat.le_trans h.1 k.1, k.2⟩
theorem up_next {L : List Tk} {σ : St} (h : Ok L σ.next) : Up L σ σ.next := ⟨Nat.le_succ _, h⟩
theorem up_fail {L : List Tk} (hL : EndL L) {σ : St} (h : Ok L σ) : Up L σ (failM L σ) := ⟨by show σ.pos ≤ L.length - 1; have : σ.pos < L.length := h; omega, hL.fail σ⟩
theorem up_needs {L : List Tk} (hL : EndL L) {s : List UInt8} (hs : s ≠ []) {σ : St} (h : Ok L σ) : Up L σ (needsM L s σ) := by
  unfold needsM
  split
  · exact up_next (next_of_is hL h hs ‹_›)
  · exact up_fail hL h
theorem up_number {L : List Tk} (hL : EndL L) {σ : St} (h : Ok L σ) : Up L σ (numberM L σ).2 := by
  unfold numberM
  split
  · exact up_next (next_of_num hL h ‹_›)
  · exact up_fail hL h
theorem up_name {L : List Tk} (hL : EndL L) {σ : St} (h : Ok L σ) : Up L σ (nameM L σ).2 := by
  unfold nameM
  split
  · exact up_next (next_of_name hL h ‹_›)
  · exact up_fail hL h
theorem up_field {L : List Tk} (hL : EndL L) {σ : St} (h : Ok L σ) : Up L σ (fieldM L σ).2 := by
  unfold fieldM
  split
  · exact up_next (next_of_field hL h ‹_›)
  · exact up_fail hL h
theorem up_value {L : List Tk} (hL : EndL L) {σ : St} (h : Ok L σ) : Up L σ (valueM L σ).2 := by
  unfold valueM
  split
  · exact up_number hL h
  · exact up_name hL h
theorem up_part {L : List Tk} (hL : EndL L) {s : List UInt8} (hs : s ≠ []) {σ : St} (h : Ok L σ) : Up L σ (partM L s σ).2 := by
  have a := up_number hL h
  have b := up_needs hL hs a.2
  exact (a.trans b).trans (up_value hL b.2)

theorem takes_yes {M : Nat} {tvl : Value} {L : List Tk} {σ : St} (hL : EndL L) (s : List UInt8) (hs : s ≠ []) (hi : isNext L s σ = true) (w : World) (h : Rd M tvl L σ w) :
    Calls Tryz.prog 44 #[rp M, str s] w fun e w' => e = .returned (.bool true) ∧ Aft M tvl L w σ.next w' := by
  have := takes_any hL s hs w h
  rw [hi, show takesM L s σ = σ.next by unfold takesM; rw [if_pos hi]] at this
  exact this
theorem takes_no {M : Nat} {tvl : Value} {L : List Tk} {σ : St} (hL : EndL L) (s : List UInt8) (hs : s ≠ []) (hi : isNext L s σ = false) (w : World) (h : Rd M tvl L σ w) :
    Calls Tryz.prog 44 #[rp M, str s] w fun e w' => e = .returned (.bool false) ∧ Aft M tvl L w σ w' := by
  have := takes_any hL s hs w h
  rw [hi, show takesM L s σ = σ by unfold takesM; rw [if_neg (by rw [hi]; decide)]] at this
  exact this

/-- A function of the reader's that answers a policy answers as the model's. -/
def PolC (f : Nat) (L : List Tk) (r : St → Pl × St) (σ : St) : Prop :=
  Up L σ (r σ).2 ∧ ∀ (M : Nat) (tvl : Value) (w : World), Rd M tvl L σ w → Calls Tryz.prog f #[rp M] w fun e w' => ∃ x, e = .returned (nv x) ∧ PolAt (fun b => w.heap.size ≤ b) w' (r σ).1 x ∧ Aft M tvl L w (r σ).2 w'

/-- The end of a walk that writes a policy's cells into its first new block. -/
theorem aft_set4 {M : Nat} {tvl : Value} {L : List Tk} {σ : St} {w w1 : World} (h : Aft M tvl L w σ w1) (hw : M + 1 < w.heap.size) (y0 y1 y2 y3 : Value) :
    Aft M tvl L w σ ((((w1.setCell ⟨w.heap.size, 0, none⟩ y0).setCell ⟨w.heap.size, 1, none⟩ y1).setCell ⟨w.heap.size, 2, none⟩ y2).setCell ⟨w.heap.size, 3, none⟩ y3) :=
  (((h.setNew hw (Nat.le_refl _) _).setNew hw (Nat.le_refl _) _).setNew hw (Nat.le_refl _) _).setNew hw (Nat.le_refl _) _
theorem pol_set4 {P : Nat → Prop} {w w1 : World} {T : Pl} {x : Nd} (h : PolAt P w1 T x) (hP : ¬ P w.heap.size) (y0 y1 y2 y3 : Value) :
    PolAt P ((((w1.setCell ⟨w.heap.size, 0, none⟩ y0).setCell ⟨w.heap.size, 1, none⟩ y1).setCell ⟨w.heap.size, 2, none⟩ y2).setCell ⟨w.heap.size, 3, none⟩ y3) T x :=
  (((h.set hP _).set hP _).set hP _).set hP _

set_option maxRecDepth 100000 in
set_option maxHeartbeats 4000000 in
theorem atom_any {L : List Tk} {σ : St} {S : St → Pl × St} (hL : EndL L) (hSh : Short L) (hok : Ok L σ) (hS : isNext L [40] σ = true → PolC 47 L S σ.next) : PolC 105 L (atomM L S) σ := by
  have HL : Hid (EndL L) := hL
  have HSh : Hid (Short L) := hSh
  unfold PolC atomM
  cases h1 : isNext L [105, 100] σ with
  | true =>
    have HO := next_of_is hL hok (by decide) h1
    refine ⟨up_next HO, fun M tvl w h => ?_⟩
    have hlt := h.lt
    have HA0 : Hid (Aft M tvl L w σ (w.alloc nobj)) := h.aft ((Below.refl _ w).alloc (Nat.le_refl _) _)
    have hrow := heap_alloc_new w nobj
    have cT := takes_yes hL [105, 100] (by decide) h1 _ HA0.out.rd
    clear hS h hL hSh hok h1 HO
    go_enter Tryz.func105, Tryz.ntmps105
    go_wp2_with fail
    refine cT.mono ?_
    rintro e w1 ⟨rfl, ha⟩
    have HA1 : Hid (Aft M tvl L w σ.next w1) := HA0.out.trans ha
    have hrow1 := ha.row (by omega) hrow
    clear ha hrow cT HA0
    obtain ⟨q0, q1, q2, q3⟩ := row4 hrow1
    have hl3 := heap_lt hrow1
    obtain ⟨f0, f1, f2, f3⟩ := frz4 hrow1
    go_wp2
    refine bodyPost_ret (v := nv ⟨1, 0, 0, .slice none 0 0⟩) ?_ rfl ⟨_, rfl, PolAt.leaf _ _ _ _ _, aft_set4 HA1.out hlt _ _ _ _⟩
    obtain ⟨g0, g1, g2, g3⟩ := row4 (set4 (.int .i64 1) (.int .i64 0) (.int .u16 0) (.slice none 0 0) hrow1)
    simp [results, Tryz.results105, go_sem, g0, g1, g2, g3]
  | false =>
    cases h2 : isNext L [100, 114, 111, 112] σ with
    | true =>
      have h1 : Hid (isNext L [105, 100] σ = false) := h1
      have HO := next_of_is hL hok (by decide) h2
      refine ⟨up_next HO, fun M tvl w h => ?_⟩
      have hlt := h.lt
      have HA0 : Hid (Aft M tvl L w σ (w.alloc nobj)) := h.aft ((Below.refl _ w).alloc (Nat.le_refl _) _)
      have hrow0 := heap_alloc_new w nobj
      have cT := takes_no hL [105, 100] (by decide) h1.out _ HA0.out.rd
      have h2 : Hid (isNext L [100, 114, 111, 112] σ = true) := h2
      clear hS h hL hSh hok HO
      go_enter Tryz.func105, Tryz.ntmps105
      go_wp2_with fail
      refine cT.mono ?_
      rintro e w1 ⟨rfl, ha⟩
      have HA1 : Hid (Aft M tvl L w σ w1) := HA0.out.trans ha
      have hrow1 := ha.row (by omega) hrow0
      replace cT := takes_yes HL.out [100, 114, 111, 112] (by decide) h2.out w1 ha.rd
      clear ha hrow0 HA0
      go_wp2_with fail
      refine cT.mono ?_
      rintro e w2 ⟨rfl, ha⟩
      have HA2 : Hid (Aft M tvl L w σ.next w2) := HA1.out.trans ha
      have hrow2 := ha.row (by omega) hrow1
      clear ha hrow1 cT HA1
      obtain ⟨q0, q1, q2, q3⟩ := row4 hrow2
      have hl3 := heap_lt hrow2
      obtain ⟨f0, f1, f2, f3⟩ := frz4 hrow2
      go_wp2
      refine bodyPost_ret (v := nv ⟨0, 0, 0, .slice none 0 0⟩) ?_ rfl ⟨_, rfl, PolAt.leaf _ _ _ _ _, aft_set4 HA2.out hlt _ _ _ _⟩
      obtain ⟨g0, g1, g2, g3⟩ := row4 (set4 (.int .i64 0) (.int .i64 0) (.int .u16 0) (.slice none 0 0) hrow2)
      simp [results, Tryz.results105, go_sem, g0, g1, g2, g3]
    | false =>
      cases h3 : isNext L [40] σ with
      | true =>
        have h1 : Hid (isNext L [105, 100] σ = false) := h1
        have h2 : Hid (isNext L [100, 114, 111, 112] σ = false) := h2
        have HO := next_of_is hL hok (by decide) h3
        obtain ⟨hup, cS⟩ := hS h3
        obtain ⟨T, σ1, e1⟩ : ∃ T σ1, S σ.next = (T, σ1) := ⟨_, _, rfl⟩
        simp only [e1] at hup cS ⊢
        refine ⟨((up_next HO).trans hup).trans (up_needs hL (by decide) hup.2), fun M tvl w h => ?_⟩
        obtain ⟨σ2, e2⟩ : ∃ σ2, needsM L [41] σ1 = σ2 := ⟨_, rfl⟩
        simp only [Bool.false_eq_true, if_false, if_true, e2]
        have E2 : Hid (needsM L [41] σ1 = σ2) := e2
        have hlt := h.lt
        have HA0 : Hid (Aft M tvl L w σ (w.alloc nobj)) := h.aft ((Below.refl _ w).alloc (Nat.le_refl _) _)
        have hrow0 := heap_alloc_new w nobj
        have cT := takes_no hL [105, 100] (by decide) h1.out _ HA0.out.rd
        have h3 : Hid (isNext L [40] σ = true) := h3
        clear hS h hL hSh hok HO e1 hup e2
        go_enter Tryz.func105, Tryz.ntmps105
        go_wp2_with fail
        refine cT.mono ?_
        rintro e w1 ⟨rfl, ha⟩
        have HA1 : Hid (Aft M tvl L w σ w1) := HA0.out.trans ha
        have hrow1 := ha.row (by omega) hrow0
        replace cT := takes_no HL.out [100, 114, 111, 112] (by decide) h2.out w1 ha.rd
        clear ha hrow0 HA0
        go_wp2_with fail
        refine cT.mono ?_
        rintro e w2 ⟨rfl, ha⟩
        have HA2 : Hid (Aft M tvl L w σ w2) := HA1.out.trans ha
        have hrow2 := ha.row (by omega) hrow1
        replace cT := takes_yes HL.out [40] (by decide) h3.out w2 ha.rd
        clear ha hrow1 HA1
        go_wp2_with fail
        refine cT.mono ?_
        rintro e w3 ⟨rfl, ha⟩
        have HA3 : Hid (Aft M tvl L w σ.next w3) := HA2.out.trans ha
        have hrow3 := ha.row (by omega) hrow2
        replace cS := cS M tvl w3 ha.rd
        clear ha hrow2 cT HA2
        go_wp2_with fail
        refine cS.mono ?_
        rintro e w4 ⟨x, rfl, hp, ha⟩
        obtain ⟨-, -, -, sa, sc, hkv⟩ := hp.shape
        obtain ⟨xo, xf, xn, xk⟩ := x
        dsimp only at hkv
        subst hkv
        generalize T.kids.length = kn at *
        have hl3 := heap_lt hrow3
        have hl4 := ha.kp.size
        have HA4 : Hid (Aft M tvl L w σ1 (w4.alloc (pobj ⟨xo, xf, xn, .slice sa kn sc⟩))) := (HA3.out.trans ha).below ((Below.refl _ w4).alloc (Nat.le_refl _) _)
        have HP4 : Hid (PolAt (fun b => w3.heap.size ≤ b) (w4.alloc (pobj ⟨xo, xf, xn, .slice sa kn sc⟩)) T ⟨xo, xf, xn, .slice sa kn sc⟩) := hp.below ((Below.refl _ w4).alloc (Nat.le_refl _) _)
        have hrow4 := (Below.heap_alloc w4 (pobj ⟨xo, xf, xn, .slice sa kn sc⟩) _ (heap_lt (ha.row (by omega) hrow3))).trans (ha.row (by omega) hrow3)
        have hnew := heap_alloc_new w4 (pobj ⟨xo, xf, xn, .slice sa kn sc⟩)
        have cE := needs_any HL.out [41] (by decide) _ HA4.out.rd
        rw [E2.out] at cE
        have hM4 := HA4.out.rd.lt
        clear ha hp hrow3 cS HA3
        go_wp2_with fail
        refine cE.mono ?_
        rintro e w5 ⟨rfl, ha⟩
        have HA5 : Hid (Aft M tvl L w σ2 w5) := HA4.out.trans ha
        have HP5 : Hid (PolAt (fun b => w3.heap.size ≤ b) w5 T ⟨xo, xf, xn, .slice sa kn sc⟩) := HP4.out.kp ha.kp (fun b hb => by have hb : w3.heap.size ≤ b := hb; omega)
        have hrow5 := ha.row (by omega) hrow4
        obtain ⟨p0, p1, p2, p3⟩ := row4 (ha.row (by omega) hnew)
        clear ha hrow4 cE HA4 HP4 hnew
        obtain ⟨q0, q1, q2, q3⟩ := row4 hrow5
        have hl3 := heap_lt hrow5
        obtain ⟨f0, f1, f2, f3⟩ := frz4 hrow5
        go_wp2
        refine bodyPost_ret (v := nv ⟨xo, xf, xn, .slice sa kn sc⟩) ?_ rfl ⟨_, rfl, (pol_set4 HP5.out (by show ¬ w3.heap.size ≤ w.heap.size; omega) _ _ _ _).mono (fun b hb _ => by have hb : w3.heap.size ≤ b := hb; show w.heap.size ≤ b; omega), aft_set4 HA5.out hlt _ _ _ _⟩
        obtain ⟨g0, g1, g2, g3⟩ := row4 (set4 (.int .i64 xo) (.int .i64 xf) (.int .u16 xn) (.slice sa kn sc) hrow5)
        simp [results, Tryz.results105, go_sem, g0, g1, g2, g3]
      | false =>
        cases h4 : isNext L [64] σ with
        | true =>
          have h1 : Hid (isNext L [105, 100] σ = false) := h1
          have h2 : Hid (isNext L [100, 114, 111, 112] σ = false) := h2
          have h3 : Hid (isNext L [40] σ = false) := h3
          have HO := next_of_is hL hok (by decide) h4
          have hup := up_part hL (s := [61]) (by decide) HO
          obtain ⟨a, v, σ1, e1⟩ : ∃ a v σ1, partM L [61] σ.next = ((a, v), σ1) := ⟨_, _, _, rfl⟩
          simp only [e1] at hup ⊢
          refine ⟨(up_next HO).trans hup, fun M tvl w h => ?_⟩
          simp only [Bool.false_eq_true, if_false, if_true]
          have E1 : Hid (partM L [61] σ.next = ((a, v), σ1)) := e1
          have hlt := h.lt
          have HA0 : Hid (Aft M tvl L w σ (w.alloc nobj)) := h.aft ((Below.refl _ w).alloc (Nat.le_refl _) _)
          have hrow0 := heap_alloc_new w nobj
          have cT := takes_no hL [105, 100] (by decide) h1.out _ HA0.out.rd
          have h4 : Hid (isNext L [64] σ = true) := h4
          clear hS h hL hSh hok HO e1 hup
          go_enter Tryz.func105, Tryz.ntmps105
          go_wp2_with fail
          refine cT.mono ?_
          rintro e w1 ⟨rfl, ha⟩
          have HA1 : Hid (Aft M tvl L w σ w1) := HA0.out.trans ha
          have hrow1 := ha.row (by omega) hrow0
          replace cT := takes_no HL.out [100, 114, 111, 112] (by decide) h2.out w1 ha.rd
          clear ha hrow0 HA0
          go_wp2_with fail
          refine cT.mono ?_
          rintro e w2 ⟨rfl, ha⟩
          have HA2 : Hid (Aft M tvl L w σ w2) := HA1.out.trans ha
          have hrow2 := ha.row (by omega) hrow1
          replace cT := takes_no HL.out [40] (by decide) h3.out w2 ha.rd
          clear ha hrow1 HA1
          go_wp2_with fail
          refine cT.mono ?_
          rintro e w3 ⟨rfl, ha⟩
          have HA3 : Hid (Aft M tvl L w σ w3) := HA2.out.trans ha
          have hrow3 := ha.row (by omega) hrow2
          replace cT := takes_yes HL.out [64] (by decide) h4.out w3 ha.rd
          clear ha hrow2 HA2
          go_wp2_with fail
          refine cT.mono ?_
          rintro e w4 ⟨rfl, ha⟩
          have HA4 : Hid (Aft M tvl L w σ.next w4) := HA3.out.trans ha
          have hrow4 := ha.row (by omega) hrow3
          have cP := part_any HL.out HSh.out [61] (by decide) w4 ha.rd
          rw [E1.out] at cP
          clear ha hrow3 cT HA3
          go_wp2_with fail
          refine cP.mono ?_
          rintro e w5 ⟨rfl, ha⟩
          have HA5 : Hid (Aft M tvl L w σ1 w5) := HA4.out.trans ha
          have hrow5 := ha.row (by omega) hrow4
          clear ha hrow4 cP HA4
          obtain ⟨q0, q1, q2, q3⟩ := row4 hrow5
          have hl3 := heap_lt hrow5
          obtain ⟨f0, f1, f2, f3⟩ := frz4 hrow5
          go_wp2
          refine bodyPost_ret (v := nv ⟨3, a, (v : Int), .slice none 0 0⟩) ?_ rfl ⟨_, rfl, PolAt.leaf _ _ _ _ _, (aft_set4 HA5.out hlt _ _ _ _).below ((Below.refl _ _).alloc (Nat.le_refl _) _)⟩
          obtain ⟨g0, g1, g2, g3⟩ := row4 (set4 (.int .i64 3) (.int .i64 a) (.int .u16 (v : Int)) (.slice none 0 0) hrow5)
          simp [results, Tryz.results105, go_sem, g0, g1, g2, g3, hl3]
        | false =>
          have h1 : Hid (isNext L [105, 100] σ = false) := h1
          have h2 : Hid (isNext L [100, 114, 111, 112] σ = false) := h2
          have h3 : Hid (isNext L [40] σ = false) := h3
          have h4 : Hid (isNext L [64] σ = false) := h4
          have hupf := up_field hL hok
          obtain ⟨a, σ1, e1⟩ : ∃ a σ1, fieldM L σ = (a, σ1) := ⟨_, _, rfl⟩
          simp only [e1] at hupf ⊢
          have E1 : Hid (fieldM L σ = (a, σ1)) := e1
          cases h5 : isNext L [58, 61] σ1 with
          | true =>
            have HO := next_of_is hL hupf.2 (by decide) h5
            have hup := up_value hL HO
            obtain ⟨v, σ2, e2⟩ : ∃ v σ2, valueM L σ1.next = (v, σ2) := ⟨_, _, rfl⟩
            simp only [e2] at hup ⊢
            have E2 : Hid (valueM L σ1.next = (v, σ2)) := e2
            refine ⟨(hupf.trans (up_next HO)).trans hup, fun M tvl w h => ?_⟩
            simp only [Bool.false_eq_true, if_false, if_true]
            have hlt := h.lt
            have HA0 : Hid (Aft M tvl L w σ (w.alloc nobj)) := h.aft ((Below.refl _ w).alloc (Nat.le_refl _) _)
            have hrow0 := heap_alloc_new w nobj
            have cT := takes_no hL [105, 100] (by decide) h1.out _ HA0.out.rd
            have h5 : Hid (isNext L [58, 61] σ1 = true) := h5
            clear hS h hL hSh hok HO e1 e2 hup hupf
            go_enter Tryz.func105, Tryz.ntmps105
            go_wp2_with fail
            refine cT.mono ?_
            rintro e w1 ⟨rfl, ha⟩
            have HA1 : Hid (Aft M tvl L w σ w1) := HA0.out.trans ha
            have hrow1 := ha.row (by omega) hrow0
            replace cT := takes_no HL.out [100, 114, 111, 112] (by decide) h2.out w1 ha.rd
            clear ha hrow0 HA0
            go_wp2_with fail
            refine cT.mono ?_
            rintro e w2 ⟨rfl, ha⟩
            have HA2 : Hid (Aft M tvl L w σ w2) := HA1.out.trans ha
            have hrow2 := ha.row (by omega) hrow1
            replace cT := takes_no HL.out [40] (by decide) h3.out w2 ha.rd
            clear ha hrow1 HA1
            go_wp2_with fail
            refine cT.mono ?_
            rintro e w3 ⟨rfl, ha⟩
            have HA3 : Hid (Aft M tvl L w σ w3) := HA2.out.trans ha
            have hrow3 := ha.row (by omega) hrow2
            replace cT := takes_no HL.out [64] (by decide) h4.out w3 ha.rd
            clear ha hrow2 HA2
            go_wp2_with fail
            refine cT.mono ?_
            rintro e w4 ⟨rfl, ha⟩
            have HA4 : Hid (Aft M tvl L w σ w4) := HA3.out.trans ha
            have hrow4 := ha.row (by omega) hrow3
            have cF := field_any5 HL.out w4 ha.rd
            rw [E1.out] at cF
            clear ha hrow3 HA3
            go_wp2_with fail
            refine cF.mono ?_
            rintro e w5 ⟨rfl, ha⟩
            have HA5 : Hid (Aft M tvl L w σ1 w5) := HA4.out.trans ha
            have hrow5 := ha.row (by omega) hrow4
            replace cT := takes_yes HL.out [58, 61] (by decide) h5.out w5 ha.rd
            clear ha hrow4 cF HA4
            go_wp2_with fail
            refine cT.mono ?_
            rintro e w6 ⟨rfl, ha⟩
            have HA6 : Hid (Aft M tvl L w σ1.next w6) := HA5.out.trans ha
            have hrow6 := ha.row (by omega) hrow5
            have cV := value_any HL.out HSh.out w6 ha.rd
            rw [E2.out] at cV
            clear ha hrow5 cT HA5
            go_wp2_with fail
            refine cV.mono ?_
            rintro e w7 ⟨rfl, ha⟩
            have HA7 : Hid (Aft M tvl L w σ2 w7) := HA6.out.trans ha
            have hrow7 := ha.row (by omega) hrow6
            clear ha hrow6 cV HA6
            obtain ⟨q0, q1, q2, q3⟩ := row4 hrow7
            have hl3 := heap_lt hrow7
            obtain ⟨f0, f1, f2, f3⟩ := frz4 hrow7
            go_wp2
            refine bodyPost_ret (v := nv ⟨5, a, (v : Int), .slice none 0 0⟩) ?_ rfl ⟨_, rfl, PolAt.leaf _ _ _ _ _, aft_set4 HA7.out hlt _ _ _ _⟩
            obtain ⟨g0, g1, g2, g3⟩ := row4 (set4 (.int .i64 5) (.int .i64 a) (.int .u16 (v : Int)) (.slice none 0 0) hrow7)
            simp [results, Tryz.results105, go_sem, g0, g1, g2, g3]
          | false =>
            have hupn := up_needs hL (s := [61]) (by decide) hupf.2
            obtain ⟨σ2, e2⟩ : ∃ σ2, needsM L [61] σ1 = σ2 := ⟨_, rfl⟩
            rw [e2] at hupn
            have hup := up_value hL hupn.2
            obtain ⟨v, σ3, e3⟩ : ∃ v σ3, valueM L σ2 = (v, σ3) := ⟨_, _, rfl⟩
            simp only [e3] at hup
            simp only [e2, e3]
            have E2 : Hid (needsM L [61] σ1 = σ2) := e2
            have E3 : Hid (valueM L σ2 = (v, σ3)) := e3
            refine ⟨(hupf.trans hupn).trans hup, fun M tvl w h => ?_⟩
            simp only [Bool.false_eq_true, if_false, if_true]
            have hlt := h.lt
            have HA0 : Hid (Aft M tvl L w σ (w.alloc nobj)) := h.aft ((Below.refl _ w).alloc (Nat.le_refl _) _)
            have hrow0 := heap_alloc_new w nobj
            have cT := takes_no hL [105, 100] (by decide) h1.out _ HA0.out.rd
            have h5 : Hid (isNext L [58, 61] σ1 = false) := h5
            clear hS h hL hSh hok e1 e2 e3 hup hupf hupn
            go_enter Tryz.func105, Tryz.ntmps105
            go_wp2_with fail
            refine cT.mono ?_
            rintro e w1 ⟨rfl, ha⟩
            have HA1 : Hid (Aft M tvl L w σ w1) := HA0.out.trans ha
            have hrow1 := ha.row (by omega) hrow0
            replace cT := takes_no HL.out [100, 114, 111, 112] (by decide) h2.out w1 ha.rd
            clear ha hrow0 HA0
            go_wp2_with fail
            refine cT.mono ?_
            rintro e w2 ⟨rfl, ha⟩
            have HA2 : Hid (Aft M tvl L w σ w2) := HA1.out.trans ha
            have hrow2 := ha.row (by omega) hrow1
            replace cT := takes_no HL.out [40] (by decide) h3.out w2 ha.rd
            clear ha hrow1 HA1
            go_wp2_with fail
            refine cT.mono ?_
            rintro e w3 ⟨rfl, ha⟩
            have HA3 : Hid (Aft M tvl L w σ w3) := HA2.out.trans ha
            have hrow3 := ha.row (by omega) hrow2
            replace cT := takes_no HL.out [64] (by decide) h4.out w3 ha.rd
            clear ha hrow2 HA2
            go_wp2_with fail
            refine cT.mono ?_
            rintro e w4 ⟨rfl, ha⟩
            have HA4 : Hid (Aft M tvl L w σ w4) := HA3.out.trans ha
            have hrow4 := ha.row (by omega) hrow3
            have cF := field_any5 HL.out w4 ha.rd
            rw [E1.out] at cF
            clear ha hrow3 HA3
            go_wp2_with fail
            refine cF.mono ?_
            rintro e w5 ⟨rfl, ha⟩
            have HA5 : Hid (Aft M tvl L w σ1 w5) := HA4.out.trans ha
            have hrow5 := ha.row (by omega) hrow4
            replace cT := takes_no HL.out [58, 61] (by decide) h5.out w5 ha.rd
            clear ha hrow4 cF HA4
            go_wp2_with fail
            refine cT.mono ?_
            rintro e w6 ⟨rfl, ha⟩
            have HA6 : Hid (Aft M tvl L w σ1 w6) := HA5.out.trans ha
            have hrow6 := ha.row (by omega) hrow5
            have cE := needs_any HL.out [61] (by decide) w6 ha.rd
            rw [E2.out] at cE
            clear ha hrow5 cT HA5
            go_wp2_with fail
            refine cE.mono ?_
            rintro e w7 ⟨rfl, ha⟩
            have HA7 : Hid (Aft M tvl L w σ2 w7) := HA6.out.trans ha
            have hrow7 := ha.row (by omega) hrow6
            have cV := value_any HL.out HSh.out w7 ha.rd
            rw [E3.out] at cV
            clear ha hrow6 cE HA6
            go_wp2_with fail
            refine cV.mono ?_
            rintro e w8 ⟨rfl, ha⟩
            have HA8 : Hid (Aft M tvl L w σ3 w8) := HA7.out.trans ha
            have hrow8 := ha.row (by omega) hrow7
            clear ha hrow7 cV HA7
            obtain ⟨q0, q1, q2, q3⟩ := row4 hrow8
            have hl3 := heap_lt hrow8
            obtain ⟨f0, f1, f2, f3⟩ := frz4 hrow8
            go_wp2
            refine bodyPost_ret (v := nv ⟨2, a, (v : Int), .slice none 0 0⟩) ?_ rfl ⟨_, rfl, PolAt.leaf _ _ _ _ _, aft_set4 HA8.out hlt _ _ _ _⟩
            obtain ⟨g0, g1, g2, g3⟩ := row4 (set4 (.int .i64 2) (.int .i64 a) (.int .u16 (v : Int)) (.slice none 0 0) hrow8)
            simp [results, Tryz.results105, go_sem, g0, g1, g2, g3]
end Go.Proofs.YtebpapmnkbehnaaGreatDoor
