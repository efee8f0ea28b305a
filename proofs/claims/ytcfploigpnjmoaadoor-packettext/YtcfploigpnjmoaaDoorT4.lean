/- What the document's Text answers: the packet's text, for every eight numbers from 0 to 65535. -/
import Derived.Test.YtcfploigpnjmoaaDoorT3
set_option linter.unusedVariables false
set_option linter.unusedSimpArgs false
namespace Go.Proofs.YtcfploigpnjmoaaDoor
open Go.RowKit Go.Joins Go.Sort

theorem keepT {wr w w' : World} {g k : Nat} {X : Int} (h : Below wr.heap.size wr w ∧ w.cell? ⟨g, k, none⟩ = some (.int .u16 X)) (hb : Below w.heap.size w w') :
    Below wr.heap.size wr w' ∧ w'.cell? ⟨g, k, none⟩ = some (.int .u16 X) :=
  ⟨h.1.trans (hb.mono h.1.size), by rw [hb.cell (block_lt_of_cell h.2)]; exact h.2⟩
theorem cat_two (a b : List UInt8) : ((⟨a.toArray⟩ : ByteArray) ++ ⟨b.toArray⟩) = ⟨(a ++ b).toArray⟩ := by
  apply ByteArray.ext
  rw [ByteArray.data_append]
  simp
theorem digits_int (z : Int) (h0 : 0 ≤ z) (h1 : z ≤ 65535) (w : World) : Calls Tryd.prog 38 #[.int .i64 z] w fun e w' => e = .returned (.string ⟨(Lib.itoa z).toArray⟩) ∧ Below w.heap.size w w' := by
  obtain ⟨n, rfl⟩ := Int.eq_ofNat_of_zero_le h0
  have := digits_any n (by omega) w
  unfold Lib.itoa
  rw [if_neg (by omega), Int.toNat_natCast]
  exact this
theorem textTo_empty (l : List Int) (k : Nat) (h : 0 < k) : textTo l k ≠ [] := by
  induction k with
  | zero => omega
  | succ k ih =>
    rw [textTo]
    by_cases hk : k = 0
    · subst hk
      rw [piece_word, if_neg (by omega)]
      intro e
      have := List.append_eq_nil_iff.1 (List.append_eq_nil_iff.1 e).2
      exact word_ne l 0 this.2
    · intro e
      exact ih (by omega) (List.append_eq_nil_iff.1 e).1
theorem textTo_len (l : List Int) (hr : ∀ k, 0 ≤ l.getD k 0 ∧ l.getD k 0 ≤ 65535) (k : Nat) : (textTo l k).length ≤ 30 * k := by
  induction k with
  | zero => simp [textTo]
  | succ k ih =>
    rw [textTo, List.length_append]
    have hp : (piece l k).length ≤ 25 := by
      unfold piece
      have h1 := nm8_len k
      have h2 := itoa_len (l.getD k 0) (hr k).1 (hr k).2
      generalize nm8.getD k [] = A at *
      generalize Lib.itoa (l.getD k 0) = B at *
      split
      · simp
      · split <;> simp <;> omega
    omega

theorem cat5 (T n D : List UInt8) : (((((⟨T.toArray⟩ : ByteArray) ++ ⟨#[32]⟩) ++ ⟨n.toArray⟩) ++ ⟨#[61]⟩) ++ ⟨D.toArray⟩ : ByteArray) = ⟨(T ++ [32] ++ n ++ [61] ++ D).toArray⟩ := by
  rw [show (⟨#[32]⟩ : ByteArray) = ⟨([32] : List UInt8).toArray⟩ from rfl, show (⟨#[61]⟩ : ByteArray) = ⟨([61] : List UInt8).toArray⟩ from rfl, cat_two, cat_two, cat_two, cat_two]
theorem cat4 (T n D : List UInt8) : ((((⟨T.toArray⟩ : ByteArray) ++ ⟨n.toArray⟩) ++ ⟨#[61]⟩) ++ ⟨D.toArray⟩ : ByteArray) = ⟨(T ++ n ++ [61] ++ D).toArray⟩ := by
  rw [show (⟨#[61]⟩ : ByteArray) = ⟨([61] : List UInt8).toArray⟩ from rfl, cat_two, cat_two, cat_two]
theorem lt_alloc2 (w : World) (o : Obj) : w.heap.size < (w.drew.alloc o).heap.size := by simp

set_option maxRecDepth 100000 in
set_option maxHeartbeats 1000000 in
theorem rtext_any (a0 a1 a2 a3 a4 a5 a6 a7 : Int) (w : World) (hr : ∀ k, 0 ≤ [a0, a1, a2, a3, a4, a5, a6, a7].getD k 0 ∧ [a0, a1, a2, a3, a4, a5, a6, a7].getD k 0 ≤ 65535) :
    Calls Tryd.prog 23 #[pk a0 a1 a2 a3 a4 a5 a6 a7] w fun e w' => e = .returned (.string ⟨(textTo [a0, a1, a2, a3, a4, a5, a6, a7] 8).toArray⟩) ∧ Below w.heap.size w w' := by
  unfold pk
  go_enter Tryd.func23, Tryd.ntmps23
  go_wp2
  go_loopw [3, 4] (fun s i wr => ∃ k : Nat, k ≤ 8 ∧ i = .int .i64 k ∧ s = .string ⟨(textTo [a0, a1, a2, a3, a4, a5, a6, a7] k).toArray⟩ ∧ wr.heap[w.heap.size]? = some (.cells #[.int .u16 a0, .int .u16 a1, .int .u16 a2, .int .u16 a3, .int .u16 a4, .int .u16 a5, .int .u16 a6, .int .u16 a7] 24) ∧ Below w.heap.size w wr) (fun _ i _ => 8 - (intOf i).toNat)
  case atStart => exact ⟨0, Nat.zero_le _, rfl, rfl, heap_alloc_new _ _, (Below.refl _ _).alloc (Nat.le_refl _) _⟩
  case round =>
    obtain ⟨k, hk, rfl, rfl, hbox, hbw⟩ := hrel
    by_cases hlt : k < 8
    · have hce := getD8 hbox (k : Int) (by omega) (by omega)
      rw [Int.toNat_natCast] at hce
      have hx := hr k
      have hlen := textTo_len _ hr k
      have hsz := heap_lt hbox
      have hil := itoa_len _ hx.1 hx.2
      have hps : Hid (textTo [a0, a1, a2, a3, a4, a5, a6, a7] (k + 1) = textTo [a0, a1, a2, a3, a4, a5, a6, a7] k ++ piece [a0, a1, a2, a3, a4, a5, a6, a7] k) := rfl
      have hpc : Hid (piece [a0, a1, a2, a3, a4, a5, a6, a7] k = if [a0, a1, a2, a3, a4, a5, a6, a7].getD k 0 = 0 ∧ 2 ≤ k then [] else (if k = 0 then [] else [32]) ++ nm8.getD k [] ++ [61] ++ Lib.itoa ([a0, a1, a2, a3, a4, a5, a6, a7].getD k 0)) := rfl
      have hem : (textTo [a0, a1, a2, a3, a4, a5, a6, a7] k).isEmpty = decide (k = 0) := by
        by_cases h0 : k = 0
        · subst h0; rfl
        · have := textTo_empty [a0, a1, a2, a3, a4, a5, a6, a7] k (by omega)
          simp [h0, this]
      have hnl := nm8_len k
      have hcellN : ∀ W : World, (W.alloc (.cells nmCells 9)).cell? ⟨W.heap.size, k, none⟩ = some (.string ⟨(nm8.getD k []).toArray⟩) := by
        intro W
        rw [cell_of_row _ _ _ _ _ _ (heap_alloc_new W (.cells nmCells 9))]; exact nmCells_at k hlt
      clear hr
      generalize hX : [a0, a1, a2, a3, a4, a5, a6, a7].getD k 0 = X at *
      have HX : Hid ([a0, a1, a2, a3, a4, a5, a6, a7].getD k 0 = X) := hX
      clear hX
      generalize nm8.getD k [] = nmk at *
      generalize textTo [a0, a1, a2, a3, a4, a5, a6, a7] k = T at *
      have HDG : Hid (∀ W : World, Calls Tryd.prog 38 #[.int .i64 X] W fun e w' => e = .returned (.string ⟨(Lib.itoa X).toArray⟩) ∧ Below W.heap.size W w') := fun W => digits_int X hx.1 hx.2 W
      generalize Lib.itoa X = D at *
      by_cases hskip : X = 0 ∧ 2 ≤ k
      · obtain ⟨rfl, h2⟩ := hskip
        have d2 : decide ((k : Int) < 2) = false := by simp; omega
        clear hcellN HDG
        go_wp2
        go_roundw
        case rel => exact ⟨k + 1, by omega, by go_num, by rw [hps.out, hpc.out, if_pos ⟨rfl, h2⟩, List.append_nil], hbox, hbw⟩
        case measure => simp [intOf]; omega
      · have HS : Hid (¬ (X = 0 ∧ 2 ≤ k)) := hskip
        clear hskip
        by_cases hk0 : k = 0
        · have hem' : T.isEmpty = true := by rw [hem]; simp [hk0]
          clear hem
          have d2 : decide ((k : Int) < 2) = true := by simp; omega
          have HK0 : Hid (k = 0) := hk0
          clear hk0
          have hS0 : Hid (Below wr.heap.size wr wr ∧ wr.cell? ⟨w.heap.size, k, none⟩ = some (.int .u16 X)) := ⟨Below.refl _ _, hce⟩
          have hf : Hid (textTo [a0, a1, a2, a3, a4, a5, a6, a7] (k + 1) = T ++ nmk ++ [61] ++ D) := by
            show _ = _
            rw [hps.out, hpc.out, if_neg HS.out, if_pos HK0.out]; simp
          go_wp2
          have eX : IntKind.i64.wrap X = X := wr64 X hx.1 (by omega)
          have n1 : ¬ 9223372036854775807 < T.length + nmk.length := by omega
          have n2 : ¬ 9223372036854775807 < T.length + nmk.length + 1 := by omega
          have n3 : ¬ 9223372036854775807 < T.length + nmk.length + 1 + D.length := by omega
          go_region_with (first
            | (go_at_call 8; refine (rnames_any _).mono ?_; rintro e wX ⟨rfl, rfl⟩; have hcN := hcellN wr)
            | (go_at_call 38; refine (HDG.out _).mono ?_; rintro e wX ⟨rfl, hbX⟩; have hcX := (hbX.cell (p := ⟨wr.heap.size, k, none⟩) (lt_alloc wr _)).trans (hcellN wr)))
          all_goals
            have hB : Below wr.heap.size wr wX := (((Below.refl _ wr).alloc (Nat.le_refl _) _).drew).trans (hbX.mono (Nat.le_of_lt (lt_alloc wr _)))
            have hbox1 : wX.heap[w.heap.size]? = some (.cells #[.int .u16 a0, .int .u16 a1, .int .u16 a2, .int .u16 a3, .int .u16 a4, .int .u16 a5, .int .u16 a6, .int .u16 a7] 24) := by rw [hB.block _ hsz]; exact hbox
            have hbw1 : Below w.heap.size w wX := hbw.trans (hB.mono (by omega))
            clear hcellN hcX hbX hB
            go_wp2
            go_roundw
            case rel => exact ⟨k + 1, by omega, by go_num, by rw [hf.out, cat4], hbox1, hbw1⟩
            case measure => simp [intOf]; omega
        · have hem' : T.isEmpty = false := by rw [hem]; simp [hk0]
          clear hem
          have hcase : (k < 2) ∨ (¬ k < 2 ∧ (X != 0) = true) := by
            have := HS.out
            by_cases h2 : k < 2
            · exact .inl h2
            · refine .inr ⟨h2, ?_⟩
              simp
              omega
          rcases hcase with h2 | ⟨h2, hx0⟩
          · have d2 : decide ((k : Int) < 2) = true := by simp; omega
            have hS0 : Hid (Below wr.heap.size wr wr ∧ wr.cell? ⟨w.heap.size, k, none⟩ = some (.int .u16 X)) := ⟨Below.refl _ _, hce⟩
            have hf : Hid (textTo [a0, a1, a2, a3, a4, a5, a6, a7] (k + 1) = (T ++ [32]) ++ nmk ++ [61] ++ D) := by
              show _ = _
              rw [hps.out, hpc.out, if_neg HS.out, if_neg hk0]; simp
            go_wp2
            have eX : IntKind.i64.wrap X = X := wr64 X hx.1 (by omega)
            have n1 : ¬ 9223372036854775807 < T.length + 1 + nmk.length := by omega
            have n2 : ¬ 9223372036854775807 < T.length + 1 + nmk.length + 1 := by omega
            have n3 : ¬ 9223372036854775807 < T.length + 1 + nmk.length + 1 + D.length := by omega
            go_region_with (first
              | (go_at_call 8; refine (rnames_any _).mono ?_; rintro e wX ⟨rfl, rfl⟩; have hcN := hcellN wr)
              | (go_at_call 38; refine (HDG.out _).mono ?_; rintro e wX ⟨rfl, hbX⟩; have hcX := (hbX.cell (p := ⟨wr.heap.size, k, none⟩) (lt_alloc wr _)).trans (hcellN wr)))
            all_goals
              have hB : Below wr.heap.size wr wX := (((Below.refl _ wr).alloc (Nat.le_refl _) _).drew).trans (hbX.mono (Nat.le_of_lt (lt_alloc wr _)))
              have hbox1 : wX.heap[w.heap.size]? = some (.cells #[.int .u16 a0, .int .u16 a1, .int .u16 a2, .int .u16 a3, .int .u16 a4, .int .u16 a5, .int .u16 a6, .int .u16 a7] 24) := by rw [hB.block _ hsz]; exact hbox
              have hbw1 : Below w.heap.size w wX := hbw.trans (hB.mono (by omega))
              clear hcellN hcX hbX hB
              go_wp2
              go_roundw
              case rel => exact ⟨k + 1, by omega, by go_num, by rw [hf.out, cat5], hbox1, hbw1⟩
              case measure => simp [intOf]; omega
          · have d2 : decide ((k : Int) < 2) = false := by simp; omega
            have hS0 : Hid (Below wr.heap.size wr wr ∧ wr.cell? ⟨w.heap.size, k, none⟩ = some (.int .u16 X)) := ⟨Below.refl _ _, hce⟩
            have hf : Hid (textTo [a0, a1, a2, a3, a4, a5, a6, a7] (k + 1) = (T ++ [32]) ++ nmk ++ [61] ++ D) := by
              show _ = _
              rw [hps.out, hpc.out, if_neg HS.out, if_neg hk0]; simp
            go_wp2
            have eX : IntKind.i64.wrap X = X := wr64 X hx.1 (by omega)
            have n1 : ¬ 9223372036854775807 < T.length + 1 + nmk.length := by omega
            have n2 : ¬ 9223372036854775807 < T.length + 1 + nmk.length + 1 := by omega
            have n3 : ¬ 9223372036854775807 < T.length + 1 + nmk.length + 1 + D.length := by omega
            go_region_with (first
              | (go_at_call 8; refine (rnames_any _).mono ?_; rintro e wX ⟨rfl, rfl⟩; have hcN := hcellN wr)
              | (go_at_call 38; refine (HDG.out _).mono ?_; rintro e wX ⟨rfl, hbX⟩; have hcX := (hbX.cell (p := ⟨wr.heap.size, k, none⟩) (lt_alloc wr _)).trans (hcellN wr)))
            all_goals
              have hB : Below wr.heap.size wr wX := (((Below.refl _ wr).alloc (Nat.le_refl _) _).drew).trans (hbX.mono (Nat.le_of_lt (lt_alloc wr _)))
              have hbox1 : wX.heap[w.heap.size]? = some (.cells #[.int .u16 a0, .int .u16 a1, .int .u16 a2, .int .u16 a3, .int .u16 a4, .int .u16 a5, .int .u16 a6, .int .u16 a7] 24) := by rw [hB.block _ hsz]; exact hbox
              have hbw1 : Below w.heap.size w wX := hbw.trans (hB.mono (by omega))
              clear hcellN hcX hbX hB
              go_wp2
              go_roundw
              case rel => exact ⟨k + 1, by omega, by go_num, by rw [hf.out, cat5], hbox1, hbw1⟩
              case measure => simp [intOf]; omega
    · have hk8 : k = 8 := by omega
      subst hk8
      clear hr
      go_wp2
      go_ret
      exact ⟨rfl, hbw⟩
end Go.Proofs.YtcfploigpnjmoaaDoor
