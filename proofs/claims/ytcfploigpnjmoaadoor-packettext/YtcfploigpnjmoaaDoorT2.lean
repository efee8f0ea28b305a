/- What the document's Field and Number answer, for every text of at most 1000 bytes. -/
import Derived.Test.YtcfploigpnjmoaaDoorF1
import Derived.Test.YtcfploigpnjmoaaDoorT1
set_option linter.unusedVariables false
set_option linter.unusedSimpArgs false
namespace Go.Proofs.YtcfploigpnjmoaaDoor
open Go.RowKit Go.Joins Go.Sort

def docF (l : List UInt8) : Int := match fieldOf l with | some k => (k : Int) | none => -1
def docN (l : List UInt8) : Int := match numDoc l with | some k => (k : Int) | none => -1

set_option maxRecDepth 100000 in
set_option maxHeartbeats 400000 in
theorem rfield_any (x : List UInt8) (w : World) : Calls Tryd.prog 22 #[.string ⟨x.toArray⟩] w fun e w' => e = .returned (.int .i64 (docF x)) ∧ w' = w.alloc (.cells nmCells 9) := by
  have hit : Hid (∀ k : Nat, k < 8 → (nm8.getD k [] == x) = true → (∀ j, j < k → (nm8.getD j [] == x) = false) → (k : Int) = docF x) := by
    intro k h8 hk hj
    rw [docF, fieldOf_hit _ k h8 hk hj]
  have miss : Hid ((∀ j, j < 8 → (nm8.getD j [] == x) = false) → (-1 : Int) = docF x) := by
    intro hj
    rw [docF, fieldOf_miss _ hj]
  have hcell : ∀ k : Nat, k < 8 → (w.alloc (.cells nmCells 9)).cell? ⟨w.heap.size, k, none⟩ = some (.string ⟨(nm8.getD k []).toArray⟩) := by
    intro k hk
    rw [cell_of_row _ _ _ _ _ _ (heap_alloc_new w (.cells nmCells 9))]; exact nmCells_at k hk
  go_enter Tryd.func22, Tryd.ntmps22
  go_wp2_with fail
  refine (rnames_any _).mono ?_
  rintro e w1 ⟨rfl, rfl⟩
  generalize hW : w.alloc (.cells nmCells 9) = W at *
  have HW : Hid (w.alloc (.cells nmCells 9) = W) := hW
  clear hW
  go_wp2_with fail
  go_loop [4] (fun i => ∃ k : Nat, k ≤ 8 ∧ i = .int .i64 k ∧ Hid (∀ j, j < k → (nm8.getD j [] == x) = false)) (fun i => 8 - (intOf i).toNat)
  case atStart => exact ⟨0, Nat.zero_le _, rfl, fun j hj => by omega⟩
  case round =>
    obtain ⟨k, hk, rfl, hj⟩ := hrel
    by_cases hlt : k < 8
    · have hc := hcell k hlt
      clear hcell
      have hnx : Hid (∃ nk, nm8.getD k [] = nk) := ⟨_, rfl⟩
      obtain ⟨nk, hnk⟩ := hnx.out
      rw [hnk] at hc
      have HK : Hid (nm8.getD k [] = nk) := hnk
      clear hnk hnx
      cases ht : (nk == x)
      · go_wp2
        exact ⟨⟨k + 1, by omega, by go_num, more hj.out (by rw [HK.out]; exact ht)⟩, by simp [intOf]; omega⟩
      · go_wp2
        go_ret
        exact ⟨by rw [← hit.out k hlt (by rw [HK.out]; exact ht) hj.out]; rfl, by rw [HW.out]⟩
    · have hk8 : k = 8 := by omega
      subst hk8
      clear hcell
      go_wp2
      go_ret
      exact ⟨by rw [← miss.out hj.out]; rfl, by rw [HW.out]⟩

theorem isDig_iff (c : UInt8) : isDig c = true ↔ 48 ≤ c.toNat ∧ c.toNat ≤ 57 := by
  unfold isDig
  rw [Bool.and_eq_true]
  exact ⟨fun h => ⟨of_decide_eq_true h.1, of_decide_eq_true h.2⟩, fun h => ⟨decide_eq_true h.1, decide_eq_true h.2⟩⟩
theorem grow10 (acc d P : Nat) (h : d ≤ 9) : (acc * 10 + d + 1) * P ≤ (acc + 1) * (P * 10) := by
  rw [Nat.mul_comm P 10, ← Nat.mul_assoc]
  exact Nat.mul_le_mul_right _ (by omega)
theorem valOf_lt (l : List UInt8) : ∀ acc, l.all isDig = true → valOf acc l < (acc + 1) * 10 ^ l.length := by
  induction l with
  | nil => intro acc _; rw [valOf_nil, List.length_nil, Nat.pow_zero, Nat.mul_one]; exact Nat.lt_succ_self _
  | cons c r ih =>
    intro acc h
    rw [List.all_cons, Bool.and_eq_true] at h
    have hd := (isDig_iff c).1 h.1
    have h1 := ih (acc * 10 + (c.toNat - 48)) h.2
    rw [valOf_cons, List.length_cons, Nat.pow_succ]
    exact Nat.lt_of_lt_of_le h1 (grow10 acc (c.toNat - 48) _ (by omega))
theorem byteAt (x : List UInt8) (k : Nat) (h : k < x.length) : (⟨x.toArray⟩ : ByteArray)[k]'(by simpa [ByteArray.size] using h) = x[k] := rfl
theorem numDoc_bad (x : List UInt8) (k : Nat) (h : k < x.length) (hd : ¬ isDig x[k] = true) : docN x = -1 := by
  rw [docN, numDoc, if_pos]
  refine .inr (.inr (.inl ?_))
  rw [List.all_eq_false]
  exact ⟨x[k], List.getElem_mem h, hd⟩
theorem pow5 (k : Nat) (h : k ≤ 5) : 10 ^ k ≤ 100000 := by
  have : k = 0 ∨ k = 1 ∨ k = 2 ∨ k = 3 ∨ k = 4 ∨ k = 5 := by omega
  rcases this with rfl | rfl | rfl | rfl | rfl | rfl <;> decide

set_option maxRecDepth 100000 in
set_option maxHeartbeats 400000 in
theorem rnumber_any (x : List UInt8) (hx : x.length ≤ 1000) (w : World) : Calls Tryd.prog 37 #[.string ⟨x.toArray⟩] w fun e w' => e = .returned (.int .i64 (docN x)) ∧ w' = w := by
  by_cases h1 : x.length < 1
  · have hN : Hid (docN x = -1) := by show _ = _; rw [docN, numDoc, if_pos (.inl h1)]
    have hz : x.length = 0 := by omega
    have d1 : decide ((x.length : Int) < 1) = true := by simp; omega
    clear hz
    go_enter Tryd.func37, Tryd.ntmps37
    go_wp2
    go_ret
    exact ⟨by rw [hN.out]; rfl, rfl⟩
  · have d1 : decide ((x.length : Int) < 1) = false := by simp; omega
    by_cases h5 : 5 < x.length
    · have hN : Hid (docN x = -1) := by show _ = _; rw [docN, numDoc, if_pos (.inr (.inl h5))]
      have d5 : decide ((5 : Int) < (x.length : Int)) = true := by simp; omega
      go_enter Tryd.func37, Tryd.ntmps37
      go_wp2
      go_ret
      exact ⟨by rw [hN.out]; rfl, rfl⟩
    · have d5 : decide ((5 : Int) < (x.length : Int)) = false := by simp; omega
      go_enter Tryd.func37, Tryd.ntmps37
      go_wp2
      go_loop [3, 4] (fun n i => ∃ k v : Nat, k ≤ x.length ∧ i = .int .i64 k ∧ n = .int .i64 v ∧ v < 100000 ∧ Hid (valOf 0 (x.take k) = v ∧ (x.take k).all isDig = true)) (fun _ i => x.length - (intOf i).toNat)
      case atStart => exact ⟨0, 0, Nat.zero_le _, rfl, rfl, by decide, ⟨by rw [List.take_zero, valOf_nil], rfl⟩⟩
      case round =>
        obtain ⟨k, v, hk, rfl, rfl, hv, HV⟩ := hrel
        by_cases hlt : k < x.length
        · have htk : x.take (k + 1) = x.take k ++ [x[k]] := List.take_succ_eq_append_getElem hlt
          have hby := byteAt x k hlt
          have HB : Hid ((⟨x.toArray⟩ : ByteArray)[k]'(by simpa [ByteArray.size] using hlt) = x[k]) := hby
          have HT : Hid (x.take (k + 1) = x.take k ++ [x[k]]) := htk
          clear htk hby
          go_wp2
          · go_ret
            rename_i hbad _
            rw [HB.out] at hbad
            exact ⟨by rw [numDoc_bad x k hlt (by rw [isDig_iff]; omega)]; rfl, rfl⟩
          · rename_i _ hgood
            rw [HB.out] at hgood
            have hdig : isDig x[k] = true := by rw [isDig_iff]; omega
            have hval : valOf 0 (x.take (k + 1)) = v * 10 + (x[k].toNat - 48) := by rw [HT.out, valOf_snoc, HV.out.1]
            have hall : (x.take (k + 1)).all isDig = true := by rw [HT.out, List.all_append, HV.out.2]; simp [hdig]
            have hlt5 := valOf_lt (x.take (k + 1)) 0 hall
            have hlen : (x.take (k + 1)).length ≤ 5 := by simp; omega
            have hp := pow5 _ hlen
            refine ⟨⟨k + 1, v * 10 + (x[k].toNat - 48), by omega, by go_num, ?_, by omega, ⟨hval, hall⟩⟩, by simp [intOf]; omega⟩
            rw [HB.out]
            have h48 : 48 ≤ x[k].toNat := by omega
            congr 1
            omega
          · go_ret
            rename_i hbad
            rw [HB.out] at hbad
            exact ⟨by rw [numDoc_bad x k hlt (by rw [isDig_iff]; omega)]; rfl, rfl⟩
        · have hkl : k = x.length := by omega
          subst hkl
          have hv1 : valOf 0 x = v := by have := HV.out.1; rwa [List.take_length] at this
          have hall : x.all isDig = true := by have := HV.out.2; rwa [List.take_length] at this
          have hN : Hid (docN x = if 65535 < v then -1 else (v : Int)) := by
            show _ = _
            rw [docN, numDoc, hv1, hall]
            by_cases hb : 65535 < v
            · rw [if_pos (.inr (.inr (.inr hb))), if_pos hb]
            · rw [if_neg (by rintro (h | h | h | h) <;> first | omega | cases h), if_neg hb]
          clear HV hv1 hall
          by_cases hb : 65535 < v
          · have d6 : decide ((65535 : Int) < (v : Int)) = true := by simp; omega
            go_wp2
            go_ret
            exact ⟨by rw [hN.out, if_pos hb]; rfl, rfl⟩
          · have d6 : decide ((65535 : Int) < (v : Int)) = false := by simp; omega
            go_wp2
            go_ret
            exact ⟨by rw [hN.out, if_neg hb]; rfl, rfl⟩
end Go.Proofs.YtcfploigpnjmoaaDoor
