/- What lex.isBlank, lex.isInLine and lex.isDigit answer of a code point, and what lex.span answers of a row of code points, whatever the test is; no conditions but a code point's range. -/
import Derived.Test.YtipjmabeenhcgaaGreatDoorProg
import Derived.Test.YtipjmabeenhcgaaGreatDoorM2
import Derived.WalkKit
import Derived.WalkSpells
import Derived.WalkLawsBesides
import Derived.Lib.OthersKept
set_option linter.unusedVariables false
set_option linter.unusedSimpArgs false
namespace Go.Proofs.YtipjmabeenhcgaaGreatDoor
open Go.RowKit

/-- A text as a value. -/
abbrev str (l : List UInt8) : Value := .string ⟨l.toArray⟩
theorem size_mk (l : List UInt8) : (ByteArray.mk l.toArray).size = l.length := by simp [ByteArray.size]

theorem bool_ret {a b : Bool} (h : a = b) : Ending.returned (.bool a) = .returned (.bool b) := by rw [h]

theorem blank_any (r : Nat) (w : World) : Calls Tryz.prog 31 #[.int .i32 (r : Int)] w fun e w' => e = .returned (.bool (bl r)) ∧ w' = w := by
  by_cases h1 : r = 32
  · subst h1
    go_enter Tryz.func31, Tryz.ntmps31
    go_wp2
    go_ret
    exact ⟨rfl, rfl⟩
  by_cases h2 : r = 9
  · subst h2
    go_enter Tryz.func31, Tryz.ntmps31
    go_wp2
    go_ret
    exact ⟨rfl, rfl⟩
  by_cases h3 : r = 10
  · subst h3
    go_enter Tryz.func31, Tryz.ntmps31
    go_wp2
    go_ret
    exact ⟨rfl, rfl⟩
  by_cases h4 : r = 13
  · subst h4
    go_enter Tryz.func31, Tryz.ntmps31
    go_wp2
    go_ret
    exact ⟨rfl, rfl⟩
  have e1 : ((r : Int) == (32 : Int)) = false := by simp; omega
  have e2 : ((r : Int) == (9 : Int)) = false := by simp; omega
  have e3 : ((r : Int) == (10 : Int)) = false := by simp; omega
  have e4 : ((r : Int) == (13 : Int)) = false := by simp; omega
  have e : bl r = false := by simp [bl, h1, h2, h3, h4]
  rw [e]
  clear h1 h2 h3 h4 e
  go_enter Tryz.func31, Tryz.ntmps31
  go_wp2
  go_ret
  exact ⟨rfl, rfl⟩

theorem inLine_any (r : Nat) (w : World) : Calls Tryz.prog 33 #[.int .i32 (r : Int)] w fun e w' => e = .returned (.bool (il r)) ∧ w' = w := by
  by_cases h1 : r = 10
  · subst h1
    go_enter Tryz.func33, Tryz.ntmps33
    go_wp2
    go_ret
    exact ⟨rfl, rfl⟩
  · have e1 : ((r : Int) != (10 : Int)) = true := by simp; omega
    have e : il r = true := by simp [il, h1]
    rw [e]
    clear h1 e
    go_enter Tryz.func33, Tryz.ntmps33
    go_wp2
    go_ret
    exact ⟨rfl, rfl⟩

theorem digit_any (r : Nat) (w : World) : Calls Tryz.prog 50 #[.int .i32 (r : Int)] w fun e w' => e = .returned (.bool (dg r)) ∧ w' = w := by
  by_cases h1 : 48 ≤ r
  · by_cases h2 : r ≤ 57
    · have e : dg r = true := by simp [dg, h1, h2]
      have e1 : decide ((48 : Int) ≤ (r : Int)) = true := by simp; omega
      have e2 : decide ((r : Int) ≤ (57 : Int)) = true := by simp; omega
      rw [e]
      clear h1 h2 e
      go_enter Tryz.func50, Tryz.ntmps50
      go_wp2
      go_ret
      exact ⟨rfl, rfl⟩
    · have e : dg r = false := by simp [dg, h2]
      have e1 : decide ((48 : Int) ≤ (r : Int)) = true := by simp; omega
      have e2 : decide ((r : Int) ≤ (57 : Int)) = false := by simp; omega
      rw [e]
      clear h1 h2 e
      go_enter Tryz.func50, Tryz.ntmps50
      go_wp2
      go_ret
      exact ⟨rfl, rfl⟩
  · have e : dg r = false := by simp [dg, h1]
    have e1 : decide ((48 : Int) ≤ (r : Int)) = false := by simp; omega
    rw [e]
    clear h1 e
    go_enter Tryz.func50, Tryz.ntmps50
    go_wp2
    go_ret
    exact ⟨rfl, rfl⟩

/-- What is asked of a test: at every later world and every code point it answers p; whatever lay, lies. -/
def Test (g : Nat) (p : Nat → Bool) (w : World) : Prop :=
  ∀ (W : World) (x : Nat), x ≤ 1114111 → Below w.heap.size w W → Calls Tryz.prog g #[.int .i32 (x : Int)] W fun e w' => e = .returned (.bool (p x)) ∧ Below W.heap.size W w'
theorem Test.of {g : Nat} {p : Nat → Bool} (h : ∀ (r : Nat) (w : World), Calls Tryz.prog g #[.int .i32 (r : Int)] w fun e w' => e = .returned (.bool (p r)) ∧ w' = w) (w : World) : Test g p w :=
  fun W x _ _ => (h x W).mono fun _ _ ⟨he, hw⟩ => ⟨he, by rw [hw]; exact Below.refl _ _⟩

/-- What the decoder hands back at a code point within a text. -/
theorem decode_mid (A : List UInt8) (x : R) (t : List R) (h : good x) : Utf8.decode ⟨(A ++ fl (x :: t)).toArray⟩ A.length = (x.1, x.2.length) := by
  rw [← Lib.decodeL_drop]
  show Lib.decodeL ((A ++ fl (x :: t)).drop A.length) = _
  rw [List.drop_left, fl_cons, h.2.2]

set_option maxHeartbeats 1000000 in
set_option maxRecDepth 1000000 in
theorem span_any (g : Nat) (eg : ∀ args w, (callFunc g args).run Tryz.prog w = .ok (.enter g args) w) (p : Nat → Bool) (cs : List R) (hg : Good cs) (w : World) (hp : Test g p w) :
    Calls Tryz.prog 32 #[str (fl cs), .func (.func g) #[] #[]] w fun e w' => e = .returned (.int .i64 ((fl (span p cs)).length : Int)) ∧ Below w.heap.size w w' := by
  obtain ⟨s, hs⟩ : ∃ s : ByteArray, ⟨(fl cs).toArray⟩ = s := ⟨_, rfl⟩
  have hsz : s.size = (fl cs).length := by rw [← hs, size_mk]
  unfold str
  rw [hs]
  go_enter Tryz.func32, Tryz.ntmps32
  go_wp2
  go_loopw [] (fun wr => ∃ (A : List R) (t : List R), Hid (cs = A ++ t) ∧ Hid (∀ x ∈ A, p x.1 = true) ∧ wr.heap[w.heap.size]? = some (.stringIter s (fl A).length) ∧ Hid (Below w.heap.size w wr)) (fun wr => s.size - wr.iterPos w.heap.size)
  case atStart => exact ⟨[], cs, rfl, (fun _ h => by cases h), World.iter_heap w s 0, (Below.refl _ w).alloc (Nat.le_refl _) _⟩
  case round =>
    obtain ⟨A, t, hcs, hA, hit, hbw⟩ := hrel
    cases t with
    | nil =>
      have hend : ¬ (fl A).length < s.size := by rw [hsz, hcs.out, List.append_nil]; omega
      have hnx : ∀ ty, (Instr.next (.pointer (some ⟨w.heap.size, 0, none⟩)) true ty).run Tryz.prog wr = _ := fun ty => Lib.run_next_end_at wr w.heap.size s _ ty hit hend
      have hres : Hid ((fl (span p cs)).length = s.size) := by
        show _ = _
        rw [hsz, hcs.out, List.append_nil, span_all p A hA.out]
      clear hsz hs
      go_wp2
      go_ret
      exact ⟨by rw [hres.out]; rfl, hbw.out⟩
    | cons x t =>
      have hgx : good x := by have h1 := hg; rw [hcs.out] at h1; exact h1.right.head
      have hlt : (fl A).length < s.size := by
        rw [hsz, hcs.out, fl_append, fl_cons, List.length_append, List.length_append]
        have := hgx.1; omega
      have hdec : Utf8.decode s (fl A).length = (x.1, x.2.length) := by
        rw [← hs, hcs.out, fl_append]; exact decode_mid _ x t hgx
      have hx4 : x.1 ≤ 1114111 := by
        have := Lib.rune_le s (fl A).length
        rw [hdec] at this; exact this
      have hnx : ∀ ty, (Instr.next (.pointer (some ⟨w.heap.size, 0, none⟩)) true ty).run Tryz.prog wr = _ := fun ty => Lib.run_next_any_at wr w.heap.size s _ ty hit hlt
      have hit2 := Lib.iterAt_heap wr w.heap.size s (fl A).length ((fl A).length + x.2.length) hit
      have hbw2 := Lib.below_iterAt hbw.out (k := w.heap.size) (Nat.le_refl _) s ((fl A).length + x.2.length)
      simp only [hdec] at hnx
      obtain ⟨W, hWd⟩ : ∃ W, wr.iterAt w.heap.size s ((fl A).length + x.2.length) = W := ⟨_, rfl⟩
      rw [hWd] at hnx hit2 hbw2
      have hltW : w.heap.size < W.heap.size := (Array.getElem?_eq_some_iff.1 hit2).1
      have cS := hp W x.1 hx4 hbw2
      have hx1 := hgx.1
      clear hp hdec
      cases hsp : p x.1 with
      | false =>
        rw [hsp] at cS
        have hres : Hid (fl (span p cs) = fl A) := by
          show _ = _
          rw [hcs.out]
          have e := span_app p x t hsp A
          rw [e, span_all p A hA.out]
        clear hsz hs hgx hsp
        go_wp2_with fail
        refine cS.mono ?_
        rintro e W1 ⟨rfl, hbc⟩
        go_wp2
        go_ret
        exact ⟨by rw [hres.out]; rfl, hbw2.trans (hbc.mono hbw2.size)⟩
      | true =>
        rw [hsp] at cS
        have hA2 : Hid (∀ y ∈ A ++ [x], p y.1 = true) := by
          intro y hy
          rcases List.mem_append.1 hy with h | h
          · exact hA.out y h
          · rw [List.mem_singleton] at h; subst h; exact hsp
        have hcs2 : Hid (cs = (A ++ [x]) ++ t) := by show _ = _; rw [hcs.out]; simp
        clear hgx hsp
        go_wp2_with fail
        refine cS.mono ?_
        rintro e W1 ⟨rfl, hbc⟩
        go_wp2
        have hit3 : W1.heap[w.heap.size]? = some (.stringIter s ((fl A).length + x.2.length)) := (hbc.block _ hltW).trans hit2
        go_roundw
        case rel => exact ⟨A ++ [x], t, hcs2, hA2, by rw [fl_append, List.length_append, fl_cons, fl_nil, List.append_nil]; exact hit3, hbw2.trans (hbc.mono hbw2.size)⟩
        case measure =>
          simp only [World.iterPos, hit3, hit]
          omega
end Go.Proofs.YtipjmabeenhcgaaGreatDoor
