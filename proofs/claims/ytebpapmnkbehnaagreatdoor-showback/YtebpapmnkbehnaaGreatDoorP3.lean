/- What the reader's token, fail, takes, needs, number answer; no conditions but that the reader stands. -/
import Derived.Test.YtebpapmnkbehnaaGreatDoorP2
set_option linter.unusedVariables false
set_option linter.unusedSimpArgs false
namespace Go.Proofs.YtebpapmnkbehnaaGreatDoor
open Go.RowKit Go.Joins

/-- The reader's pointer. -/
abbrev rp (M : Nat) : Value := .pointer (some ⟨M + 1, 0, none⟩)
theorem row6 {w : World} {g : Nat} {t : TypeId} {x0 x1 x2 x3 x4 x5 : Value} (hg : w.heap[g]? = some (.cells #[x0, x1, x2, x3, x4, x5] t)) :
    w.cell? ⟨g, 0, none⟩ = some x0 ∧ w.cell? ⟨g, 1, none⟩ = some x1 ∧ w.cell? ⟨g, 2, none⟩ = some x2 ∧ w.cell? ⟨g, 3, none⟩ = some x3 ∧ w.cell? ⟨g, 4, none⟩ = some x4 ∧ w.cell? ⟨g, 5, none⟩ = some x5 := by
  have c := fun j => cell_of_row w g j _ _ _ hg
  exact ⟨by simpa using c 0, by simpa using c 1, by simpa using c 2, by simpa using c 3, by simpa using c 4, by simpa using c 5⟩
theorem Rd.cells {M : Nat} {tvl : Value} {L : List Tk} {σ : St} {w : World} (h : Rd M tvl L σ w) :
    w.cell? ⟨M + 1, 0, none⟩ = some tvl ∧ w.cell? ⟨M + 1, 1, none⟩ = some (.int .i64 (σ.pos : Int)) ∧ w.cell? ⟨M + 1, 2, none⟩ = some (.map (some M)) ∧ w.cell? ⟨M + 1, 3, none⟩ = some (.bool σ.bad) ∧ w.cell? ⟨M + 1, 4, none⟩ = some (.bool σ.mis) ∧ w.cell? ⟨M + 1, 5, none⟩ = some (.bool σ.dbl) :=
  row6 h.row
theorem Rd.free {M : Nat} {tvl : Value} {L : List Tk} {σ : St} {w : World} (h : Rd M tvl L σ w) (j : Nat) : w.frozen? ⟨M + 1, j, none⟩ = false := frozen_of_row w (M + 1) j _ _ h.row
/-- The token that comes next, in memory. -/
theorem Rd.tok {M : Nat} {tvl : Value} {L : List Tk} {σ : St} {w : World} (h : Rd M tvl L σ w) :
    ∃ b off sc, tvl = .slice (some ⟨b, off, none⟩) L.length sc ∧ b < w.heap.size ∧ At3 w b (off + σ.pos * 3) (tokAt L σ) := by
  obtain ⟨sa, sc, hv, hc⟩ := h.toks
  obtain ⟨b, off, e, hlt, ha⟩ := hc σ.pos h.ok
  exact ⟨b, off, sc, by rw [hv, e], hlt, by rw [tokAt_get h.ok]; exact ha⟩
/-- A cell of the reader is written. -/
theorem Rd.put {M : Nat} {tvl : Value} {L : List Tk} {σ σ' : St} {w : World} (h : Rd M tvl L σ w) (j : Nat) (u : Value) (hc : rcells tvl M σ' = (rcells tvl M σ).setIfInBounds j u) (hl : σ'.lets = σ.lets) (ho : Ok L σ') : Rd M tvl L σ' (w.setCell ⟨M + 1, j, none⟩ u) := by
  have hr := heap_setCell_same w (M + 1) j _ 71 u h.row
  rw [← hc] at hr
  exact h.turn ((Kp.refl M w).set rfl u) (Below.heap_setCell _ _ _ _ (by show M ≠ M + 1; omega)) hr hl ho
/-- What is known behind a step of the reader. -/
structure Aft (M : Nat) (tvl : Value) (L : List Tk) (w : World) (σ' : St) (w' : World) : Prop where
  rd : Rd M tvl L σ' w'
  kp : Kp M w w'
theorem Aft.trans {M : Nat} {tvl : Value} {L : List Tk} {a b c : World} {σ σ' : St} (h : Aft M tvl L a σ b) (k : Aft M tvl L b σ' c) : Aft M tvl L a σ' c := ⟨k.rd, h.kp.trans k.kp⟩
theorem Aft.below {M : Nat} {tvl : Value} {L : List Tk} {a b c : World} {σ : St} (h : Aft M tvl L a σ b) (k : Below b.heap.size b c) : Aft M tvl L a σ c := ⟨h.rd.below k, h.kp.trans (Kp.of_below k)⟩
theorem Rd.aft {M : Nat} {tvl : Value} {L : List Tk} {σ : St} {w w' : World} (h : Rd M tvl L σ w) (hb : Below w.heap.size w w') : Aft M tvl L w σ w' := ⟨h.below hb, Kp.of_below hb⟩

set_option maxRecDepth 100000 in
set_option maxHeartbeats 1000000 in
theorem token_any {M : Nat} {tvl : Value} {L : List Tk} {σ : St} (hL : EndL L) (w : World) (h : Rd M tvl L σ w) :
    Calls Tryz.prog 49 #[rp M] w fun e w' => e = .returned (tv (tokAt L σ)) ∧ Below w.heap.size w w' := by
  obtain ⟨c0, c1, -⟩ := h.cells
  obtain ⟨b, off, sc, rfl, hlt, a0, a1, a2⟩ := h.tok
  have hp : σ.pos < L.length := h.ok
  have hf := hL.few
  have hM := h.lt
  clear h hL
  generalize tokAt L σ = t at *
  generalize σ.pos = p at *
  generalize L.length = n at *
  go_enter Tryz.func49, Tryz.ntmps49
  go_wp2
  go_region
  go_wp2
  exact bodyPost_ret (v := tv t) (by simp [results, Tryz.results49, go_sem]) rfl ⟨rfl, ((Below.refl _ w).alloc (Nat.le_refl _) _).drew⟩

set_option maxRecDepth 100000 in
set_option maxHeartbeats 1000000 in
theorem fail_any {M : Nat} {tvl : Value} {L : List Tk} {σ : St} (hL : EndL L) (w : World) (h : Rd M tvl L σ w) :
    Calls Tryz.prog 50 #[rp M] w fun e w' => e = .returned (.tuple #[]) ∧ Aft M tvl L w (failM L σ) w' := by
  have HA : Hid (Aft M tvl L w (failM L σ) ((w.setCell ⟨M + 1, 3, none⟩ (.bool true)).setCell ⟨M + 1, 1, none⟩ (.int .i64 ((L.length - 1 : Nat) : Int)))) := by
    have h1 : Rd M tvl L { σ with bad := true } (w.setCell ⟨M + 1, 3, none⟩ (.bool true)) := h.put 3 _ (by rfl) rfl h.ok
    have h2 : Rd M tvl L (failM L σ) _ := h1.put 1 (.int .i64 ((L.length - 1 : Nat) : Int)) (by rfl) rfl (hL.fail σ)
    exact ⟨h2, ((Kp.refl M w).set rfl _).set rfl _⟩
  obtain ⟨c0, c1, c2, c3, c4, c5⟩ := h.cells
  obtain ⟨b, off, sc, rfl, hlt, -⟩ := h.tok
  have f1 := h.free 1
  have f3 := h.free 3
  have hf := hL.few
  have hp := hL.pos
  have hM := h.lt
  have en : ((L.length - 1 : Nat) : Int) = (L.length : Int) - 1 := by omega
  rw [en] at HA
  clear h hL en
  generalize L.length = n at *
  go_enter Tryz.func50, Tryz.ntmps50
  go_wp2
  go_end0
  exact ⟨rfl, HA.out⟩

/-- One token further, behind a call and ahead of a new block. -/
theorem moved {M : Nat} {tvl : Value} {L : List Tk} {σ : St} {w w1 : World} (h : Rd M tvl L σ w) (hb : Below w.heap.size w w1) (ho : Ok L σ.next) (o : Obj) : Aft M tvl L w σ.next ((w1.setCell ⟨M + 1, 1, none⟩ (.int .i64 ((σ.pos + 1 : Nat) : Int))).alloc o) :=
  Aft.below ⟨(h.below hb).put 1 _ (by rfl) rfl ho, (Kp.of_below hb).set rfl _⟩ ((Below.refl _ _).alloc (Nat.le_refl _) _)
theorem fld0 (t : Tk) (w : World) : (Instr.field 89 (tv t) 0).run Tryz.prog w = .ok (.int .i64 t.kind) w := by kernel_rfl
theorem fld1 (t : Tk) (w : World) : (Instr.field 89 (tv t) 1).run Tryz.prog w = .ok (str t.s) w := by kernel_rfl

set_option maxRecDepth 100000 in
set_option maxHeartbeats 1000000 in
theorem takes_any {M : Nat} {tvl : Value} {L : List Tk} {σ : St} (hL : EndL L) (s : List UInt8) (hs : s ≠ []) (w : World) (h : Rd M tvl L σ w) :
    Calls Tryz.prog 44 #[rp M, str s] w fun e w' => e = .returned (.bool (isNext L s σ)) ∧ Aft M tvl L w (takesM L s σ) w' := by
  have cT := token_any hL w h
  by_cases hn : (tokAt L σ).s = s
  · have hi : isNext L s σ = true := decide_eq_true hn
    have HO : Hid (Ok L σ.next) := next_of_is hL h.ok hs hi
    rw [show takesM L s σ = σ.next by unfold takesM; rw [if_pos hi], hi]
    have HR : Hid (Rd M tvl L σ w) := h
    have hp : σ.pos < L.length := h.ok
    have hf := hL.few
    clear h hL hi hs
    rw [← hn]
    clear hn
    generalize tokAt L σ = t at *
    have F1 := fld1 t
    go_enter Tryz.func44, Tryz.ntmps44
    go_wp2_with fail
    refine cT.mono ?_
    rintro e w1 ⟨rfl, hb1⟩
    have HR1 : Hid (Rd M tvl L σ w1) := HR.out.below hb1
    obtain ⟨c0, c1, c2, c3, c4, c5⟩ := HR1.out.cells
    have f1 := HR1.out.free 1
    have HA : Hid (Aft M tvl L w σ.next (w1.setCell ⟨M + 1, 1, none⟩ (.int .i64 ((σ.pos + 1 : Nat) : Int)))) :=
      ⟨HR1.out.put 1 _ (by rfl) rfl HO.out, (Kp.of_below hb1).set rfl _⟩
    have en : ((σ.pos + 1 : Nat) : Int) = (σ.pos : Int) + 1 := by omega
    rw [en] at HA
    clear hb1 en
    go_wp2
    go_ret
    exact ⟨rfl, HA.out⟩
  · have hi : isNext L s σ = false := decide_eq_false hn
    rw [show takesM L s σ = σ by unfold takesM; rw [if_neg (by rw [hi]; decide)], hi]
    have HR : Hid (Rd M tvl L σ w) := h
    have d : ((tokAt L σ).s == s) = false := by simpa using hn
    clear h hL hi hs hn
    generalize tokAt L σ = t at *
    have F1 := fld1 t
    go_enter Tryz.func44, Tryz.ntmps44
    go_wp2_with fail
    refine cT.mono ?_
    rintro e w1 ⟨rfl, hb1⟩
    have HR1 : Hid (Aft M tvl L w σ w1) := HR.out.aft hb1
    clear hb1
    go_wp2
    go_ret
    exact ⟨rfl, HR1.out⟩

set_option maxRecDepth 100000 in
set_option maxHeartbeats 1000000 in
theorem needs_any {M : Nat} {tvl : Value} {L : List Tk} {σ : St} (hL : EndL L) (s : List UInt8) (hs : s ≠ []) (w : World) (h : Rd M tvl L σ w) :
    Calls Tryz.prog 46 #[rp M, str s] w fun e w' => e = .returned (.tuple #[]) ∧ Aft M tvl L w (needsM L s σ) w' := by
  have cT := takes_any hL s hs w h
  cases hi : isNext L s σ with
  | true =>
    rw [hi, show takesM L s σ = σ.next by unfold takesM; rw [if_pos hi]] at cT
    rw [show needsM L s σ = σ.next by unfold needsM; rw [if_pos hi]]
    clear h hL hi hs
    go_enter Tryz.func46, Tryz.ntmps46
    go_wp2_with fail
    refine cT.mono ?_
    rintro e w1 ⟨rfl, ha⟩
    have HA : Hid (Aft M tvl L w σ.next w1) := ha
    clear ha
    go_wp2
    go_end0
    exact ⟨rfl, HA.out⟩
  | false =>
    have hn : ¬ isNext L s σ = true := by rw [hi]; decide
    rw [hi, show takesM L s σ = σ by unfold takesM; rw [if_neg hn]] at cT
    rw [show needsM L s σ = failM L σ by unfold needsM; rw [if_neg hn]]
    have HL : Hid (EndL L) := hL
    clear h hL hi hs hn
    go_enter Tryz.func46, Tryz.ntmps46
    go_wp2_with fail
    refine cT.mono ?_
    rintro e w1 ⟨rfl, ha⟩
    have HA : Hid (Aft M tvl L w σ w1) := ha
    have cF := fail_any HL.out w1 ha.rd
    clear ha
    go_wp2_with fail
    refine cF.mono ?_
    rintro e w2 ⟨rfl, ha⟩
    have HA2 : Hid (Aft M tvl L w (failM L σ) w2) := HA.out.trans ha
    clear ha
    go_wp2
    go_end0
    exact ⟨rfl, HA2.out⟩

set_option maxRecDepth 100000 in
set_option maxHeartbeats 1000000 in
theorem number_any5 {M : Nat} {tvl : Value} {L : List Tk} {σ : St} (hL : EndL L) (w : World) (h : Rd M tvl L σ w) :
    Calls Tryz.prog 64 #[rp M] w fun e w' => e = .returned (.int .u16 ((numberM L σ).1 : Int)) ∧ Aft M tvl L w (numberM L σ).2 w' := by
  have cT := token_any hL w h
  cases hi : isNum L σ with
  | true =>
    have HO : Hid (Ok L σ.next) := next_of_num hL h.ok hi
    rw [show numberM L σ = ((tokAt L σ).n, σ.next) by unfold numberM; rw [if_pos hi]]
    have HR : Hid (Rd M tvl L σ w) := h
    have hp : σ.pos < L.length := h.ok
    have hf := hL.few
    have d : ((tokAt L σ).kind != 2) = false := by have := of_decide_eq_true hi; rw [this]; rfl
    clear h hL hi
    generalize tokAt L σ = t at *
    go_enter Tryz.func64, Tryz.ntmps64
    go_wp2_with fail
    refine cT.mono ?_
    rintro e w1 ⟨rfl, hb1⟩
    obtain ⟨c0, c1, c2, c3, c4, c5⟩ := (HR.out.below hb1).cells
    have f1 := (HR.out.below hb1).free 1
    have hlt := (HR.out.below hb1).lt
    have HA : Hid (Aft M tvl L w σ.next ((w1.setCell ⟨M + 1, 1, none⟩ (.int .i64 ((σ.pos + 1 : Nat) : Int))).alloc (.cells #[.int .i64 t.kind, .string ⟨t.s.toArray⟩, .int .u16 (t.n : Int)] 89))) := moved HR.out hb1 HO.out _
    have en : ((σ.pos + 1 : Nat) : Int) = (σ.pos : Int) + 1 := by omega
    rw [en] at HA
    clear hb1 en
    go_wp2
    go_ret
    exact ⟨rfl, HA.out⟩
  | false =>
    have hn : ¬ isNum L σ = true := by rw [hi]; decide
    rw [show numberM L σ = (0, failM L σ) by unfold numberM; rw [if_neg hn]]
    have HR : Hid (Rd M tvl L σ w) := h
    have d : ((tokAt L σ).kind != 2) = true := by have := of_decide_eq_false hi; simpa using this
    have HL : Hid (EndL L) := hL
    clear h hL hi hn
    generalize tokAt L σ = t at *
    go_enter Tryz.func64, Tryz.ntmps64
    go_wp2_with fail
    refine cT.mono ?_
    rintro e w1 ⟨rfl, hb1⟩
    have HR1 : Hid (Aft M tvl L w σ (w1.alloc (.cells #[.int .i64 t.kind, .string ⟨t.s.toArray⟩, .int .u16 (t.n : Int)] 89))) := (HR.out.aft hb1).below ((Below.refl _ w1).alloc (Nat.le_refl _) _)
    have cF := fail_any HL.out _ HR1.out.rd
    clear hb1
    go_wp2_with fail
    refine cF.mono ?_
    rintro e w2 ⟨rfl, ha⟩
    have HA2 : Hid (Aft M tvl L w (failM L σ) w2) := HR1.out.trans ha
    clear ha
    go_wp2
    go_ret
    exact ⟨rfl, HA2.out⟩
end Go.Proofs.YtebpapmnkbehnaaGreatDoor
