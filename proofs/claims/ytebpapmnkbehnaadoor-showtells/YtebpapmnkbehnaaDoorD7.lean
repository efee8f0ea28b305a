/- What the document's join answers: the texts with & between. -/
import Derived.Test.YtebpapmnkbehnaaDoorD5
import Derived.Test.YtebpapmnkbehnaaDoorV5
import Derived.BigQuiet
set_option linter.unusedVariables false
set_option linter.unusedSimpArgs false
namespace Go.Proofs.YtebpapmnkbehnaaDoor
open Go.RowKit Go.Joins Go.Lib Go.Sort

/-- Texts lie behind a slice. -/
def TxAt (w : World) (v : Value) (l : List (List UInt8)) : Prop :=
  ∃ sa sc, v = .slice sa l.length sc ∧ ∀ k (hk : k < l.length), ∃ b off, sa = some ⟨b, off, none⟩ ∧ b < w.heap.size ∧ w.cell? ⟨b, off + k, none⟩ = some (.string ⟨l[k].toArray⟩)
theorem tx_of_own {w : World} {lo n : Nat} {v : Value} {l : List (List UInt8)} (h : w.ownsRow lo 9 1 v n (strs l)) : TxAt w v l := by
  have hn : n = l.length := by have := h.1; rw [strs_len] at this; omega
  subst hn
  rcases h.2 with ⟨rfl, h0⟩ | ⟨g, cap, cur, rfl, hg, hgg, hnc, hcm, hcs, htk⟩
  · exact ⟨none, 0, by rw [h0], fun k hk => by omega⟩
  · refine ⟨_, cap, rfl, fun k hk => ⟨g, 0, rfl, heap_lt hgg, ?_⟩⟩
    rw [cell_of_row _ _ _ _ _ _ hgg]
    have e2 : (strs l)[k]? = some (.string ⟨l[k].toArray⟩) := by
      unfold strs
      rw [List.getElem?_map, List.getElem?_eq_getElem hk]
      rfl
    rw [← htk, List.getElem?_take_of_lt (by omega), Array.getElem?_toList] at e2
    rw [Nat.zero_add]
    exact e2
set_option maxRecDepth 100000 in
set_option maxHeartbeats 4000000 in
theorem rjoin_any (l : List (List UInt8)) (hm : l.length ≤ 1000) (hq : ∀ x ∈ l, x.length ≤ 20) (v : Value) (w : World) (h : TxAt w v l) :
    Calls Tryd.prog 25 #[v] w fun e w' => e = .returned (.string ⟨(joinS [32, 38, 32] l).toArray⟩) ∧ Below w.heap.size w w' := by
  obtain ⟨sa, sc, rfl, hc⟩ := h
  have HC : Hid _ := hc
  have HQ : Hid _ := hq
  have HL : Hid (∀ k, (joinS [32, 38, 32] (l.take k)).length ≤ 1000 * 23) := fun k => by
    have h1 := joinS_take_le [32, 38, 32] 20 l k hq
    exact Nat.le_trans h1 (Nat.mul_le_mul_right _ hm)
  clear hc hq
  go_enter Tryd.func25, Tryd.ntmps25
  go_wp2_with fail
  go_loopw [3, 4] (fun o i wr => ∃ k : Nat, k ≤ l.length ∧ i = .int .i64 (k : Int) ∧ o = .string ⟨(joinS [32, 38, 32] (l.take k)).toArray⟩ ∧ Hid (Below w.heap.size w wr)) (fun _ i _ => l.length - (intOf i).toNat)
  case atStart => exact ⟨0, Nat.zero_le _, rfl, by simp [joinS], Below.refl _ _⟩
  case round =>
    obtain ⟨k, hkl, rfl, rfl, HB⟩ := hrel
    have hja := HL.out k
    by_cases hlt : k < l.length
    · obtain ⟨b, off, rfl, hb, ha⟩ := HC.out k hlt
      have a0 := (HB.out.cell (p := ⟨b, off + k, none⟩) hb).trans ha
      have hXl := HQ.out _ (List.getElem_mem hlt)
      by_cases hk0 : k = 0
      · have dk : decide (0 < k) = false := by simp; omega
        have HJ : Hid (joinS [32, 38, 32] (l.take (k + 1)) = l[k]) := by
          show _ = _
          subst hk0
          exact joinS_first _ _ hlt
        have HJ0 : Hid (joinS [32, 38, 32] (l.take k) = []) := by show _ = _; rw [hk0]; simp [joinS]
        rw [HJ0.out]
        clear hja hk0 ha
        generalize l[k] = X at *
        go_wp2_with fail
        exact ⟨⟨k + 1, by omega, by go_num, by rw [HJ.out]; exact congrArg Value.string (sh_cat [] X), HB⟩, by simp [intOf]; omega⟩
      · have hkp : 0 < k := by omega
        have dk : decide (0 < k) = true := by simp; omega
        have HJ : Hid (joinS [32, 38, 32] (l.take (k + 1)) = joinS [32, 38, 32] (l.take k) ++ ([32, 38, 32] ++ l[k])) := joinS_next _ _ k hlt hkp
        generalize joinS [32, 38, 32] (l.take k) = acc at *
        clear ha
        generalize l[k] = X at *
        go_wp2_with fail
        exact ⟨⟨k + 1, by omega, by go_num, by rw [HJ.out, ← List.append_assoc, ← sh_cat, ← sh_cat], HB⟩, by simp [intOf]; omega⟩
    · obtain rfl : k = l.length := by omega
      have HT : Hid (l.take l.length = l) := List.take_length
      clear hja
      go_wp2
      go_ret
      exact ⟨by rw [HT.out]; rfl, HB.out⟩
end Go.Proofs.YtebpapmnkbehnaaDoor
