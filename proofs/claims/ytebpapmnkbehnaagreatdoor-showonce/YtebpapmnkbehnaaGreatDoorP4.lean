/- What isReserved, and the reader's name and field, answer; no conditions but that the reader stands. -/
import Derived.Test.YtebpapmnkbehnaaGreatDoorP3
import Derived.Maps.OwnOps
set_option linter.unusedVariables false
set_option linter.unusedSimpArgs false
namespace Go.Proofs.YtebpapmnkbehnaaGreatDoor
open Go.RowKit Go.Joins

set_option maxRecDepth 100000 in
set_option maxHeartbeats 1000000 in
theorem reserved_any (s : List UInt8) (w : World) (h : NamesIs w) : Calls Tryz.prog 83 #[str s] w fun e w' => e = .returned (.bool (resv s)) ∧ w' = w := by
  have cF := field_list s w h
  clear h
  by_cases h1 : s ∈ rsv
  · have hr : resv s = true := by unfold resv; rw [List.contains_iff_mem.2 h1]; rfl
    rw [hr]
    clear cF hr
    simp only [rsv, List.mem_cons, List.mem_nil_iff, or_false] at h1
    rcases h1 with rfl | rfl | rfl | rfl | rfl | rfl | rfl | rfl | rfl
    all_goals
      go_enter Tryz.func83, Tryz.ntmps83
      go_wp2
      go_ret
      exact ⟨rfl, rfl⟩
  · have hr : resv s = fldB s := by
      unfold resv
      have : rsv.contains s = false := by simpa using h1
      rw [this, Bool.false_or]
    rw [hr]
    clear hr
    simp only [rsv, List.mem_cons, List.mem_nil_iff, or_false, not_or] at h1
    obtain ⟨n1, n2, n3, n4, n5, n6, n7, n8, n9⟩ := h1
    have d1 : (s == [105, 110, 105, 116]) = false := by simpa using n1
    have d2 : (s == [108, 101, 116]) = false := by simpa using n2
    have d3 : (s == [112, 111, 108, 105, 99, 121]) = false := by simpa using n3
    have d4 : (s == [111, 110]) = false := by simpa using n4
    have d5 : (s == [105, 100]) = false := by simpa using n5
    have d6 : (s == [100, 114, 111, 112]) = false := by simpa using n6
    have d7 : (s == [115, 119, 105, 116, 99, 104]) = false := by simpa using n7
    have d8 : (s == [108, 105, 110, 107]) = false := by simpa using n8
    have d9 : (s == [104, 111, 115, 116]) = false := by simpa using n9
    clear n1 n2 n3 n4 n5 n6 n7 n8 n9
    go_enter Tryz.func83, Tryz.ntmps83
    go_wp2_with fail
    refine cF.mono ?_
    rintro e w1 ⟨rfl, hw⟩
    subst w1
    go_wp2
    go_ret
    exact ⟨rfl, rfl⟩

abbrev tobj (t : Tk) : Obj := .cells #[.int .i64 t.kind, .string ⟨t.s.toArray⟩, .int .u16 (t.n : Int)] 89
set_option maxRecDepth 100000 in
set_option maxHeartbeats 1000000 in
theorem name_any {M : Nat} {tvl : Value} {L : List Tk} {σ : St} (hL : EndL L) (w : World) (h : Rd M tvl L σ w) :
    Calls Tryz.prog 65 #[rp M] w fun e w' => e = .returned (str (nameM L σ).1) ∧ Aft M tvl L w (nameM L σ).2 w' := by
  have cT := token_any hL w h
  have cR := reserved_any (tokAt L σ).s
  have HR : Hid (Rd M tvl L σ w) := h
  have HL : Hid (EndL L) := hL
  cases hi : isName L σ with
  | true =>
    have HO : Hid (Ok L σ.next) := next_of_name hL h.ok hi
    rw [show nameM L σ = ((tokAt L σ).s, σ.next) by unfold nameM; rw [if_pos hi]]
    have hp : σ.pos < L.length := h.ok
    have hf := hL.few
    unfold isName at hi
    simp only [Bool.and_eq_true, decide_eq_true_eq, Bool.not_eq_true'] at hi
    obtain ⟨hk, hv⟩ := hi
    have d : ((tokAt L σ).kind != 1) = false := by rw [hk]; rfl
    rw [hv] at cR
    clear h hL hk hv
    generalize tokAt L σ = t at *
    go_enter Tryz.func65, Tryz.ntmps65
    go_wp2_with fail
    refine cT.mono ?_
    rintro e w1 ⟨rfl, hb1⟩
    replace cR := cR (w1.alloc (tobj t)) (((HR.out.below hb1).below ((Below.refl _ w1).alloc (Nat.le_refl _) _)).names)
    obtain ⟨c0, c1, c2, c3, c4, c5⟩ := (HR.out.below hb1).cells
    have f1 := (HR.out.below hb1).free 1
    have hlt := (HR.out.below hb1).lt
    have HA : Hid (Aft M tvl L w σ.next ((w1.setCell ⟨M + 1, 1, none⟩ (.int .i64 ((σ.pos + 1 : Nat) : Int))).alloc (tobj t))) := moved HR.out hb1 HO.out _
    have en : ((σ.pos + 1 : Nat) : Int) = (σ.pos : Int) + 1 := by omega
    rw [en] at HA
    clear hb1 en
    go_wp2_with fail
    refine cR.mono ?_
    rintro e w2 ⟨rfl, hw2⟩
    subst w2
    go_wp2
    go_ret
    exact ⟨rfl, HA.out⟩
  | false =>
    have hn : ¬ isName L σ = true := by rw [hi]; decide
    rw [show nameM L σ = ([], failM L σ) by unfold nameM; rw [if_neg hn]]
    clear h hL hn
    by_cases hk : (tokAt L σ).kind = 1
    · have hv : resv (tokAt L σ).s = true := by
        unfold isName at hi
        rw [decide_eq_true hk] at hi
        simpa using hi
      have d : ((tokAt L σ).kind != 1) = false := by rw [hk]; rfl
      rw [hv] at cR
      clear hk hv hi
      generalize tokAt L σ = t at *
      go_enter Tryz.func65, Tryz.ntmps65
      go_wp2_with fail
      refine cT.mono ?_
      rintro e w1 ⟨rfl, hb1⟩
      have HR1 : Hid (Aft M tvl L w σ (w1.alloc (tobj t))) := (HR.out.aft hb1).below ((Below.refl _ w1).alloc (Nat.le_refl _) _)
      replace cR := cR (w1.alloc (tobj t)) HR1.out.rd.names
      have cF := fail_any HL.out _ HR1.out.rd
      clear hb1
      go_wp2_with fail
      refine cR.mono ?_
      rintro e w2 ⟨rfl, hw2⟩
      subst w2
      go_wp2_with fail
      refine cF.mono ?_
      rintro e w2 ⟨rfl, ha⟩
      have HA2 : Hid (Aft M tvl L w (failM L σ) w2) := HR1.out.trans ha
      clear ha
      go_wp2
      go_ret
      exact ⟨rfl, HA2.out⟩
    · have d : ((tokAt L σ).kind != 1) = true := by simpa using hk
      clear hk hi cR
      generalize tokAt L σ = t at *
      go_enter Tryz.func65, Tryz.ntmps65
      go_wp2_with fail
      refine cT.mono ?_
      rintro e w1 ⟨rfl, hb1⟩
      have HR1 : Hid (Aft M tvl L w σ (w1.alloc (tobj t))) := (HR.out.aft hb1).below ((Below.refl _ w1).alloc (Nat.le_refl _) _)
      have cF := fail_any HL.out _ HR1.out.rd
      clear hb1
      go_wp2_with fail
      refine cF.mono ?_
      rintro e w2 ⟨rfl, ha⟩
      have HA2 : Hid (Aft M tvl L w (failM L σ) w2) := HR1.out.trans ha
      clear ha
      go_wp2
      go_ret
      exact ⟨rfl, HA2.out⟩

set_option maxRecDepth 100000 in
set_option maxHeartbeats 1000000 in
theorem field_any5 {M : Nat} {tvl : Value} {L : List Tk} {σ : St} (hL : EndL L) (w : World) (h : Rd M tvl L σ w) :
    Calls Tryz.prog 87 #[rp M] w fun e w' => e = .returned (.int .i64 (fieldM L σ).1) ∧ Aft M tvl L w (fieldM L σ).2 w' := by
  have cT := token_any hL w h
  have cR := field_list (tokAt L σ).s
  have HR : Hid (Rd M tvl L σ w) := h
  have HL : Hid (EndL L) := hL
  have F1 := fld1 (tokAt L σ)
  cases hi : isField L σ with
  | true =>
    have HO : Hid (Ok L σ.next) := next_of_field hL h.ok hi
    rw [show fieldM L σ = (fldI (tokAt L σ).s, σ.next) by unfold fieldM; rw [if_pos hi]]
    have hp : σ.pos < L.length := h.ok
    have hf := hL.few
    rw [show fldB (tokAt L σ).s = true from hi] at cR
    clear h hL hi
    generalize tokAt L σ = t at *
    go_enter Tryz.func87, Tryz.ntmps87
    go_wp2_with fail
    refine cT.mono ?_
    rintro e w1 ⟨rfl, hb1⟩
    replace cR := cR w1 (HR.out.below hb1).names
    obtain ⟨c0, c1, c2, c3, c4, c5⟩ := (HR.out.below hb1).cells
    have f1 := (HR.out.below hb1).free 1
    have HA : Hid (Aft M tvl L w σ.next (w1.setCell ⟨M + 1, 1, none⟩ (.int .i64 ((σ.pos + 1 : Nat) : Int)))) :=
      ⟨(HR.out.below hb1).put 1 _ (by rfl) rfl HO.out, (Kp.of_below hb1).set rfl _⟩
    have en : ((σ.pos + 1 : Nat) : Int) = (σ.pos : Int) + 1 := by omega
    rw [en] at HA
    clear hb1 en
    go_wp2_with fail
    refine cR.mono ?_
    rintro e w2 ⟨rfl, hw2⟩
    subst w2
    go_wp2
    go_ret
    exact ⟨rfl, HA.out⟩
  | false =>
    have hn : ¬ isField L σ = true := by rw [hi]; decide
    rw [show fieldM L σ = (0, failM L σ) by unfold fieldM; rw [if_neg hn]]
    rw [show fldB (tokAt L σ).s = false from hi] at cR
    clear h hL hn hi
    generalize tokAt L σ = t at *
    go_enter Tryz.func87, Tryz.ntmps87
    go_wp2_with fail
    refine cT.mono ?_
    rintro e w1 ⟨rfl, hb1⟩
    have HR1 : Hid (Aft M tvl L w σ w1) := HR.out.aft hb1
    replace cR := cR w1 HR1.out.rd.names
    have cF := fail_any HL.out _ HR1.out.rd
    clear hb1
    go_wp2_with fail
    refine cR.mono ?_
    rintro e w2 ⟨rfl, hw2⟩
    subst w2
    go_wp2_with fail
    refine cF.mono ?_
    rintro e w2 ⟨rfl, ha⟩
    have HA2 : Hid (Aft M tvl L w (failM L σ) w2) := HR1.out.trans ha
    clear ha
    go_wp2
    go_ret
    exact ⟨rfl, HA2.out⟩
end Go.Proofs.YtebpapmnkbehnaaGreatDoor
/- What the reader's value, part and let answer; no conditions but that the reader stands. -/
set_option linter.unusedVariables false
set_option linter.unusedSimpArgs false
namespace Go.Proofs.YtebpapmnkbehnaaGreatDoor
open Go.RowKit Go.Joins

theorem Rd.drewN {M : Nat} {tvl : Value} {L : List Tk} {σ : St} {w : World} (h : Rd M tvl L σ w) (n : Nat) : Rd M tvl L σ (w.drewN n) := h.below (below_drewN (Below.refl _ _) n)
/-- No text among the tokens is too long. -/
def Short (L : List Tk) : Prop := ∀ t ∈ L, t.s.length ≤ 100000 ∧ t.n ≤ 65535
theorem Short.at {L : List Tk} (h : Short L) (σ : St) : (tokAt L σ).s.length ≤ 100000 ∧ (tokAt L σ).n ≤ 65535 := by
  unfold tokAt
  rw [List.getD_eq_getElem?_getD]
  cases e : L[σ.pos]? with
  | none => simp [tkEnd]
  | some t => exact h t (List.mem_of_getElem? e)
theorem Short.name {L : List Tk} (h : Short L) (σ : St) : (nameM L σ).1.length ≤ 100000 := by
  unfold nameM
  split
  · exact (h.at σ).1
  · simp
theorem Short.num {L : List Tk} (h : Short L) (σ : St) : (numberM L σ).1 ≤ 65535 := by
  unfold numberM
  split
  · exact (h.at σ).2
  · simp

theorem mised {M : Nat} {tvl : Value} {L : List Tk} {σ : St} {w w2 : World} (h : Aft M tvl L w σ w2) : Aft M tvl L w (σ.misd true) (w2.setCell ⟨M + 1, 4, none⟩ (.bool true)) :=
  ⟨h.rd.put 4 _ (by unfold rcells St.misd; simp) rfl h.rd.ok, h.kp.set rfl _⟩

set_option maxRecDepth 100000 in
set_option maxHeartbeats 1000000 in
theorem value_any {M : Nat} {tvl : Value} {L : List Tk} {σ : St} (hL : EndL L) (hS : Short L) (w : World) (h : Rd M tvl L σ w) :
    Calls Tryz.prog 88 #[rp M] w fun e w' => e = .returned (.int .u16 ((valueM L σ).1 : Int)) ∧ Aft M tvl L w (valueM L σ).2 w' := by
  have cT := token_any hL w h
  have HR : Hid (Rd M tvl L σ w) := h
  have HL : Hid (EndL L) := hL
  have HS : Hid (Short L) := hS
  have F0 := fld0 (tokAt L σ)
  cases hi : isNum L σ with
  | true =>
    rw [show valueM L σ = numberM L σ by unfold valueM; rw [if_pos hi]]
    have d : ((tokAt L σ).kind == 2) = true := by have := of_decide_eq_true hi; rw [this]; rfl
    clear h hL hi hS
    generalize tokAt L σ = t at *
    go_enter Tryz.func88, Tryz.ntmps88
    go_wp2_with fail
    refine cT.mono ?_
    rintro e w1 ⟨rfl, hb1⟩
    have HR1 : Hid (Aft M tvl L w σ w1) := HR.out.aft hb1
    have cN := number_any5 HL.out _ HR1.out.rd
    clear hb1
    go_wp2_with fail
    refine cN.mono ?_
    rintro e w2 ⟨rfl, ha⟩
    have HA2 : Hid (Aft M tvl L w (numberM L σ).2 w2) := HR1.out.trans ha
    clear ha
    go_wp2
    go_ret
    exact ⟨rfl, HA2.out⟩
  | false =>
    have hn : ¬ isNum L σ = true := by rw [hi]; decide
    have d : ((tokAt L σ).kind == 2) = false := by have := of_decide_eq_false hi; simpa using this
    have hsl := hS.name σ
    have cN := fun W hW => name_any (M := M) (tvl := tvl) (σ := σ) HL.out W hW
    obtain ⟨s, σ1, hs1⟩ : ∃ s σ1, nameM L σ = (s, σ1) := ⟨_, _, rfl⟩
    have hV : valueM L σ = ((look σ1.lets s).getD 0, σ1.misd (look σ1.lets s).isNone) := by unfold valueM; rw [if_neg hn, hs1]
    rw [hV]
    rw [hs1] at hsl cN
    clear h hL hn hi hS hs1 hV
    generalize tokAt L σ = t at *
    go_enter Tryz.func88, Tryz.ntmps88
    go_wp2_with fail
    refine cT.mono ?_
    rintro e w1 ⟨rfl, hb1⟩
    have HR1 : Hid (Aft M tvl L w σ w1) := HR.out.aft hb1
    obtain ⟨c0, c1, c2, c3, c4, c5⟩ := HR1.out.rd.cells
    have HR1d : Hid (Aft M tvl L w σ w1.drew) := HR1.out.below (below_drewN (Below.refl _ _) 1)
    clear hb1 c0 c1 c3 c4 c5
    cases hq : look σ1.lets s with
    | some v =>
      have HV : Hid (σ1.misd (Option.some v).isNone = σ1) := by show _ = _; unfold St.misd; simp
      go_wp2_with fail
      go_region_with (go_at_call 65; refine (cN _ HR1d.out.rd).mono ?_; rintro e w2 ⟨rfl, ha⟩; have HA2 : Hid (Aft M tvl L w σ1 w2) := HR1d.out.trans ha; have q2 := ha.rd.cells.2.2.1; have hlk := ha.rd.lets.find s hsl; rw [hq] at hlk; clear ha)
      all_goals
        go_wp2
        go_ret
        exact ⟨by rw [hq]; rfl, by rw [hq, HV.out]; exact HA2.out⟩
    | none =>
      go_wp2_with fail
      go_region_with (go_at_call 65; refine (cN _ HR1d.out.rd).mono ?_; rintro e w2 ⟨rfl, ha⟩; have HA2 : Hid (Aft M tvl L w σ1 w2) := HR1d.out.trans ha; have q2 := ha.rd.cells.2.2.1; have f4 := ha.rd.free 4; have q4 := ha.rd.cells.2.2.2.2.1; have hlk := ha.rd.lets.find s hsl; rw [hq] at hlk; clear ha)
      all_goals
        go_wp2
        go_ret
        exact ⟨by rw [hq]; rfl, by rw [hq]; exact mised HA2.out⟩

theorem row2 {w : World} {g : Nat} {t : TypeId} {x0 x1 : Value} (hg : w.heap[g]? = some (.cells #[x0, x1] t)) :
    w.cell? ⟨g, 0, none⟩ = some x0 ∧ w.cell? ⟨g, 1, none⟩ = some x1 := by
  have c := fun j => cell_of_row w g j _ _ _ hg
  exact ⟨by simpa using c 0, by simpa using c 1⟩
theorem set2 {w : World} {g : Nat} {t : TypeId} {x0 x1 : Value} (y0 y1 : Value) (hg : w.heap[g]? = some (.cells #[x0, x1] t)) :
    ((w.setCell ⟨g, 0, none⟩ y0).setCell ⟨g, 1, none⟩ y1).heap[g]? = some (.cells #[y0, y1] t) := by
  have h0 := heap_setCell_same w g 0 _ t y0 hg
  have h1 := heap_setCell_same _ g 1 _ t y1 h0
  simpa using h1
theorem Kp.setNew {M : Nat} {a w : World} (h : Kp M a w) {p : Addr} (hp : a.heap.size ≤ p.block) (u : Value) : Kp M a (w.setCell p u) :=
  ⟨h.os, h.tape, h.output, by have := h.size; simpa [World.setCell] using this, fun k hk h1 h2 => (Below.heap_setCell _ _ _ _ (by omega)).trans (h.block k hk h1 h2)⟩
/-- All up to the reader's block stands: so does the reader. -/
theorem Rd.low {M : Nat} {tvl : Value} {L : List Tk} {σ : St} {w w' : World} (h : Rd M tvl L σ w) (hb : Below (M + 2) w w') : Rd M tvl L σ w' := by
  have hn := h.nlow
  exact ⟨(hb.block _ (by omega)).trans h.row, h.lets.same (hb.block _ (by omega)), tks_same h.toks hb.size fun b o e => hb.block b (by have := h.far b o e; omega), h.far, names_same h.names (hb.block 2 (by omega)), h.nlow, h.ok⟩
/-- A block that is new since w is written: the reader stands as it stood. -/
theorem Aft.setNew {M : Nat} {tvl : Value} {L : List Tk} {σ : St} {w w1 : World} (h : Aft M tvl L w σ w1) (hw : M + 1 < w.heap.size) {p : Addr} (hp : w.heap.size ≤ p.block) (u : Value) : Aft M tvl L w σ (w1.setCell p u) :=
  ⟨h.rd.low ((Below.refl _ _).setCell (by omega) u), h.kp.setNew hp u⟩
theorem Aft.row {M : Nat} {tvl : Value} {L : List Tk} {σ : St} {w w1 : World} {g : Nat} {o : Obj} (h : Aft M tvl L w σ w1) (hg : M + 2 ≤ g) (hr : w.heap[g]? = some o) : w1.heap[g]? = some o := h.kp.row hg hr

set_option maxRecDepth 100000 in
set_option maxHeartbeats 1000000 in
theorem part_any {M : Nat} {tvl : Value} {L : List Tk} {σ : St} (hL : EndL L) (hS : Short L) (s : List UInt8) (hs : s ≠ []) (w : World) (h : Rd M tvl L σ w) :
    Calls Tryz.prog 86 #[rp M, str s] w fun e w' => e = .returned (.agg #[.int .i64 (partM L s σ).1.1, .int .u16 ((partM L s σ).1.2 : Int)]) ∧ Aft M tvl L w (partM L s σ).2 w' := by
  have HL : Hid (EndL L) := hL
  have HS : Hid (Short L) := hS
  have HA0 : Hid (Aft M tvl L w σ (w.alloc (.cells #[.int .i64 0, .int .u16 0] 64))) := h.aft ((Below.refl _ w).alloc (Nat.le_refl _) _)
  have hrow := heap_alloc_new w (.cells #[.int .i64 0, .int .u16 0] 64)
  have hlt := h.lt
  have cN := number_any5 hL _ HA0.out.rd
  have ha5 := hS.num σ
  unfold partM
  obtain ⟨a, σ1, e1⟩ : ∃ a σ1, numberM L σ = (a, σ1) := ⟨_, _, rfl⟩
  rw [e1] at cN ha5 ⊢
  dsimp only at cN ha5 ⊢
  obtain ⟨σ2, e2⟩ : ∃ σ2, needsM L s σ1 = σ2 := ⟨_, rfl⟩
  rw [e2]
  obtain ⟨v, σ3, e3⟩ : ∃ v σ3, valueM L σ2 = (v, σ3) := ⟨_, _, rfl⟩
  rw [e3]
  have E2 : Hid (needsM L s σ1 = σ2) := e2
  have E3 : Hid (valueM L σ2 = (v, σ3)) := e3
  clear h hL hS e1 e2 e3
  go_enter Tryz.func86, Tryz.ntmps86
  go_wp2_with fail
  refine cN.mono ?_
  rintro e w1 ⟨rfl, ha⟩
  have HA1 : Hid (Aft M tvl L w σ1 w1) := HA0.out.trans ha
  have hrow1 := ha.row (by omega) hrow
  have cE := needs_any HL.out s hs w1 ha.rd
  rw [E2.out] at cE
  clear ha hrow cN HA0
  go_wp2_with fail
  refine cE.mono ?_
  rintro e w2 ⟨rfl, ha⟩
  have HA2 : Hid (Aft M tvl L w σ2 w2) := HA1.out.trans ha
  have hrow2 := ha.row (by omega) hrow1
  have cV := value_any HL.out HS.out w2 ha.rd
  rw [E3.out] at cV
  clear ha hrow1 cE HA1
  go_wp2_with fail
  refine cV.mono ?_
  rintro e w3 ⟨rfl, ha⟩
  have HA3 : Hid (Aft M tvl L w σ3 w3) := HA2.out.trans ha
  have hrow3 := ha.row (by omega) hrow2
  clear ha hrow2 cV HA2
  obtain ⟨q0, q1⟩ := row2 hrow3
  have hl3 := heap_lt hrow3
  have f0 := frozen_of_row w3 w.heap.size 0 _ _ hrow3
  have f1 := frozen_of_row w3 w.heap.size 1 _ _ hrow3
  go_wp2
  refine bodyPost_ret (v := .agg #[.int .i64 (a : Int), .int .u16 (v : Int)]) ?_ rfl ⟨rfl, (HA3.out.setNew hlt (Nat.le_refl _) _).setNew hlt (Nat.le_refl _) _⟩
  obtain ⟨g0, g1⟩ := row2 (set2 (.int .i64 (a : Int)) (.int .u16 (v : Int)) hrow3)
  simp [results, Tryz.results86, go_sem, g0, g1]
end Go.Proofs.YtebpapmnkbehnaaGreatDoor
