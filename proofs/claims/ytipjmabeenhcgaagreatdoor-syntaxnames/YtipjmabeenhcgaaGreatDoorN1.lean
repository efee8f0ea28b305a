/- What the document's Names, Field and Reserved answer, for every text; no conditions. -/
import Derived.Test.YtipjmabeenhcgaaGreatDoorS1
set_option linter.unusedVariables false
set_option linter.unusedSimpArgs false
namespace Go.Proofs.YtipjmabeenhcgaaGreatDoor
open Go.RowKit Go.Joins Go.Sort

/-- The names as cells. -/
def nmCells : Array Value := #[.string ⟨#[115, 119]⟩, .string ⟨#[112, 116]⟩, .string ⟨#[115, 114, 99]⟩, .string ⟨#[100, 115, 116]⟩, .string ⟨#[116, 121, 112]⟩, .string ⟨#[115, 118, 99]⟩, .string ⟨#[118, 105, 100]⟩, .string ⟨#[111, 112, 116]⟩]
theorem nmCells_at (k : Nat) (hk : k < 8) : nmCells[k]? = some (.string ⟨(nm8.getD k []).toArray⟩) := by
  match k, hk with
  | 0, _ => rfl
  | 1, _ => rfl
  | 2, _ => rfl
  | 3, _ => rfl
  | 4, _ => rfl
  | 5, _ => rfl
  | 6, _ => rfl
  | 7, _ => rfl
set_option maxRecDepth 100000 in
set_option maxHeartbeats 400000 in
theorem rnames_any (w : World) : Calls Tryz.prog 43 #[] w fun e w' => e = .returned (.slice (some ⟨w.heap.size, 0, none⟩) 8 8) ∧ w' = w.alloc (.cells nmCells 9) := by
  go_enter Tryz.func43, Tryz.ntmps43
  go_wp2
  go_ret
  exact ⟨rfl, rfl⟩

def docF (l : List UInt8) : Int := match fieldOf l with | some k => (k : Int) | none => -1
set_option maxRecDepth 100000 in
set_option maxHeartbeats 400000 in
theorem rfield_any (x : List UInt8) (w : World) : Calls Tryz.prog 26 #[.string ⟨x.toArray⟩] w fun e w' => e = .returned (.int .i64 (docF x)) ∧ w' = w.alloc (.cells nmCells 9) := by
  have hit : Hid (∀ k : Nat, k < 8 → (nm8.getD k [] == x) = true → (∀ j, j < k → (nm8.getD j [] == x) = false) → (k : Int) = docF x) := by
    intro k h8 hk hj
    rw [docF, fieldOf_hit _ k h8 hk hj]
  have miss : Hid ((∀ j, j < 8 → (nm8.getD j [] == x) = false) → (-1 : Int) = docF x) := by
    intro hj
    rw [docF, fieldOf_miss _ hj]
  have hcell : ∀ k : Nat, k < 8 → (w.alloc (.cells nmCells 9)).cell? ⟨w.heap.size, k, none⟩ = some (.string ⟨(nm8.getD k []).toArray⟩) := by
    intro k hk
    rw [cell_of_row _ _ _ _ _ _ (heap_alloc_new w (.cells nmCells 9))]; exact nmCells_at k hk
  go_enter Tryz.func26, Tryz.ntmps26
  go_wp2_with fail
  refine (rnames_any _).mono ?_
  rintro e w1 ⟨rfl, rfl⟩
  generalize hW : w.alloc (.cells nmCells 9) = W at *
  have HW : Hid (w.alloc (.cells nmCells 9) = W) := hW
  clear hW
  go_wp2_with fail
  go_loop [4] (fun i => ∃ k : Nat, k ≤ 8 ∧ i = .int .i64 k ∧ Hid (∀ j, j < k → (nm8.getD j [] == x) = false)) (fun i => 8 - (intOf i).toNat)
  case atStart => exact ⟨0, Nat.zero_le _, rfl, fun j hj => by omega⟩
  case round =>
    obtain ⟨k, hk, rfl, hj⟩ := hrel
    by_cases hlt : k < 8
    · have hc := hcell k hlt
      clear hcell
      have hnx : Hid (∃ nk, nm8.getD k [] = nk) := ⟨_, rfl⟩
      obtain ⟨nk, hnk⟩ := hnx.out
      rw [hnk] at hc
      have HK : Hid (nm8.getD k [] = nk) := hnk
      clear hnk hnx
      cases ht : (nk == x)
      · go_wp2
        exact ⟨⟨k + 1, by omega, by go_num, more hj.out (by rw [HK.out]; exact ht)⟩, by simp [intOf]; omega⟩
      · go_wp2
        go_ret
        exact ⟨by rw [← hit.out k hlt (by rw [HK.out]; exact ht) hj.out]; rfl, by rw [HW.out]⟩
    · have hk8 : k = 8 := by omega
      subst hk8
      clear hcell
      go_wp2
      go_ret
      exact ⟨by rw [← miss.out hj.out]; rfl, by rw [HW.out]⟩

theorem docF_pos (x : List UInt8) : decide ((0 : Int) ≤ docF x) = fldB x := by
  unfold docF fldB
  cases fieldOf x <;> simp
def rsvCells : Array Value := #[.string ⟨#[105, 110, 105, 116]⟩, .string ⟨#[108, 101, 116]⟩, .string ⟨#[112, 111, 108, 105, 99, 121]⟩, .string ⟨#[111, 110]⟩, .string ⟨#[105, 100]⟩, .string ⟨#[100, 114, 111, 112]⟩, .string ⟨#[115, 119, 105, 116, 99, 104]⟩, .string ⟨#[108, 105, 110, 107]⟩, .string ⟨#[104, 111, 115, 116]⟩]
theorem rsvCells_at (k : Nat) (hk : k < 9) : rsvCells[k]? = some (.string ⟨(rsv.getD k []).toArray⟩) := by
  match k, hk with
  | 0, _ => rfl
  | 1, _ => rfl
  | 2, _ => rfl
  | 3, _ => rfl
  | 4, _ => rfl
  | 5, _ => rfl
  | 6, _ => rfl
  | 7, _ => rfl
  | 8, _ => rfl
theorem rsv_hit (x : List UInt8) (k : Nat) (hk : k < 9) (h : (rsv.getD k [] == x) = true) : rsv.contains x = true := by
  have h9 : k < rsv.length := hk
  rw [List.getD_eq_getElem?_getD, List.getElem?_eq_getElem h9] at h
  rw [List.contains_iff_mem]
  have e : rsv[k] = x := by simpa using h
  rw [← e]; exact List.getElem_mem h9
theorem rsv_miss (x : List UInt8) (h : ∀ j, j < 9 → (rsv.getD j [] == x) = false) : rsv.contains x = false := by
  rw [Bool.eq_false_iff]
  intro hc
  rw [List.contains_iff_mem] at hc
  obtain ⟨j, hj, e⟩ := List.getElem_of_mem hc
  have := h j hj
  rw [List.getD_eq_getElem?_getD, List.getElem?_eq_getElem hj] at this
  simp [e] at this
set_option maxRecDepth 100000 in
set_option maxHeartbeats 1000000 in
theorem rresv_any (x : List UInt8) (w : World) : Calls Tryz.prog 18 #[.string ⟨x.toArray⟩] w fun e w' => e = .returned (.bool (resv x)) ∧ Below w.heap.size w w' := by
  have cF := rfield_any x w
  have hp := docF_pos x
  unfold resv
  generalize docF x = z at *
  generalize fldB x = fb at *
  have HBw : Hid (Below w.heap.size w (w.alloc (.cells nmCells 9))) := (Below.refl _ _).alloc (Nat.le_refl _) _
  cases fb with
  | true =>
    have hz : decide (z ≥ 0) = true := hp
    rw [Bool.or_true]
    go_enter Tryz.func18, Tryz.ntmps18
    go_wp2_with fail
    refine cF.mono ?_
    rintro e w1 ⟨rfl, hw1⟩
    rw [← hw1] at HBw
    clear hw1 cF
    go_wp2
    go_ret
    exact ⟨rfl, HBw.out⟩
  | false =>
    have hz : decide (z ≥ 0) = false := hp
    rw [Bool.or_false]
    have hit : Hid (∀ k : Nat, k < 9 → (rsv.getD k [] == x) = true → rsv.contains x = true) := fun k hk h => rsv_hit x k hk h
    have miss : Hid ((∀ j, j < 9 → (rsv.getD j [] == x) = false) → rsv.contains x = false) := rsv_miss x
    generalize rsv.contains x = rb at *
    go_enter Tryz.func18, Tryz.ntmps18
    go_wp2_with fail
    refine cF.mono ?_
    rintro e w1 ⟨rfl, hw1⟩
    rw [← hw1] at HBw
    clear hw1 cF
    have hcell : ∀ k : Nat, k < 9 → (w1.alloc (.cells rsvCells 9)).cell? ⟨w1.heap.size, k, none⟩ = some (.string ⟨(rsv.getD k []).toArray⟩) := by
      intro k hk
      rw [cell_of_row _ _ _ _ _ _ (heap_alloc_new w1 (.cells rsvCells 9))]; exact rsvCells_at k hk
    have HB2 : Hid (Below w.heap.size w (w1.alloc (.cells rsvCells 9))) := HBw.out.alloc HBw.out.size _
    go_wp2_with fail
    unfold rsvCells at hcell HB2
    generalize w1.alloc (.cells #[.string ⟨#[105, 110, 105, 116]⟩, .string ⟨#[108, 101, 116]⟩, .string ⟨#[112, 111, 108, 105, 99, 121]⟩, .string ⟨#[111, 110]⟩, .string ⟨#[105, 100]⟩, .string ⟨#[100, 114, 111, 112]⟩, .string ⟨#[115, 119, 105, 116, 99, 104]⟩, .string ⟨#[108, 105, 110, 107]⟩, .string ⟨#[104, 111, 115, 116]⟩] 9) = W at *
    go_loop [10] (fun i => ∃ k : Nat, k ≤ 9 ∧ i = .int .i64 k ∧ Hid (∀ j, j < k → (rsv.getD j [] == x) = false)) (fun i => 9 - (intOf i).toNat)
    case atStart => exact ⟨0, Nat.zero_le _, rfl, fun j hj => by omega⟩
    case round =>
      obtain ⟨k, hk, rfl, hj⟩ := hrel
      by_cases hlt : k < 9
      · have hc := hcell k hlt
        clear hcell
        have hnx : Hid (∃ nk, rsv.getD k [] = nk) := ⟨_, rfl⟩
        obtain ⟨nk, hnk⟩ := hnx.out
        rw [hnk] at hc
        have HK : Hid (rsv.getD k [] = nk) := hnk
        clear hnk hnx
        cases ht : (nk == x)
        · go_wp2
          exact ⟨⟨k + 1, by omega, by go_num, fun j hj' => by
            rcases Nat.lt_succ_iff_lt_or_eq.1 hj' with h | rfl
            · exact hj.out j h
            · rw [HK.out]; exact ht⟩, by simp [intOf]; omega⟩
        · go_wp2
          go_ret
          exact ⟨by rw [hit.out k hlt (by rw [HK.out]; exact ht)]; rfl, HB2.out⟩
      · have hk9 : k = 9 := by omega
        subst hk9
        clear hcell
        go_wp2
        go_ret
        exact ⟨by rw [miss.out hj.out]; rfl, HB2.out⟩
end Go.Proofs.YtipjmabeenhcgaaGreatDoor
