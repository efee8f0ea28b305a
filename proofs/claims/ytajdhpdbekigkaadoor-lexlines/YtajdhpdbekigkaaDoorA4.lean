/- What the document's Join answers: the tokens' text; lists of up to 1000 tokens with texts of up to 1000 bytes. -/
import Derived.Test.YtajdhpdbekigkaaDoorA3
set_option linter.unusedVariables false
set_option linter.unusedSimpArgs false
namespace Go.Proofs.YtajdhpdbekigkaaDoor
open Go.RowKit Go.Joins

/-- What is still to come, at token k. -/
def jr (k : Nat) (l : List Tk) : List UInt8 := if k = 0 then joinT l else jn l
/-- A blank, but ahead of the first one. -/
def gap (k : Nat) : List UInt8 := if k = 0 then [] else [32]
theorem jr_nil (k : Nat) : jr k [] = [] := by unfold jr; split <;> rfl
theorem jr_end (k : Nat) (t : Tk) (r : List Tk) (h : t.kind = 0) : jr k (t :: r) = [] := by
  unfold jr; split
  · rw [joinT_cons, if_pos h]
  · rw [jn_cons, if_pos h]
theorem jr_cons (k : Nat) (t : Tk) (r : List Tk) (h : t.kind ≠ 0) : jr k (t :: r) = gap k ++ txt t ++ jr (k + 1) r := by
  have e : jr (k + 1) r = jn r := by unfold jr; rw [if_neg (by omega)]
  rw [e]
  unfold jr gap
  by_cases hk : k = 0
  · rw [if_pos hk, if_pos hk, joinT_cons, if_neg h]; rfl
  · rw [if_neg hk, if_neg hk, jn_cons, if_neg h]; rfl
/-- A token of a list that may be joined. -/
def okT (t : Tk) : Prop := t.n ≤ 65535 ∧ t.s.length ≤ 1000
theorem txt_len {t : Tk} (h : okT t) : (txt t).length ≤ 1000 := by
  unfold txt
  split
  · have := digits_len5 t.n h.1; omega
  · exact h.2
theorem gap_len (k : Nat) : (gap k).length ≤ 1 := by unfold gap; split <;> simp
theorem cat_str (a b : List UInt8) : (⟨a.toArray⟩ : ByteArray) ++ ⟨b.toArray⟩ = ⟨(a ++ b).toArray⟩ := by
  apply ByteArray.ext
  rw [ByteArray.data_append]
  simp

set_option maxRecDepth 100000 in
set_option maxHeartbeats 1000000 in
theorem rjoin_any (v : Value) (L : List Tk) (hlen : L.length ≤ 1000) (hok : ∀ t ∈ L, okT t) (w : World) (h : Tks w v L) :
    Calls Tryd.prog 7 #[v] w fun e w' => e = .returned (str (joinT L)) ∧ Below w.heap.size w w' := by
  obtain ⟨sa, sc, rfl, hc⟩ := h
  go_enter Tryd.func7, Tryd.ntmps7
  go_wp2
  go_loopw [3, 4] (fun o i wr => ∃ (k : Nat) (acc : List UInt8), k ≤ L.length ∧ i = .int .i64 k ∧ o = .string ⟨acc.toArray⟩ ∧ acc.length ≤ k * 1001 ∧ Hid (acc ++ jr k (L.drop k) = joinT L) ∧ Hid (Below w.heap.size w wr)) (fun _ i _ => L.length - (intOf i).toNat)
  case atStart => exact ⟨0, [], Nat.zero_le _, rfl, rfl, by simp, rfl, Below.refl _ _⟩
  case round =>
    obtain ⟨k, acc, hk, rfl, rfl, hal, HJ, HB⟩ := hrel
    by_cases hlt : k < L.length
    · obtain ⟨b, off, rfl, hb, ha⟩ := hc k hlt
      have HD : Hid (L.drop k = L[k] :: L.drop (k + 1)) := List.drop_eq_getElem_cons hlt
      have hot := hok L[k] (List.getElem_mem hlt)
      obtain ⟨q0, q1, q2⟩ := ha.below HB.out hb
      generalize L[k] = t at *
      clear hc hok ha
      have ht := txt_len hot
      by_cases h0 : t.kind = 0
      · have HJ1 : Hid (joinT L = acc) := by show _ = _; rw [← HJ.out, HD.out, jr_end k t _ h0, List.append_nil]
        have d0 : (t.kind != 0) = false := by simp [h0]
        clear h0
        go_wp2
        go_ret
        exact ⟨by rw [HJ1.out]; rfl, HB.out⟩
      · have HJ1 : Hid (acc ++ gap k ++ txt t ++ jr (k + 1) (L.drop (k + 1)) = joinT L) := by show _ = _; rw [← HJ.out, HD.out, jr_cons k t _ h0]; simp
        have d0 : (t.kind != 0) = true := by simp [h0]
        clear h0 HJ HD
        have ew : wrap64 (t.n : Int) = (t.n : Int) := by have := hot.1; unfold wrap64; omega
        by_cases hk0 : k = 0
        · have dk : decide (0 < k) = false := by simp; omega
          have HG : Hid (gap k = []) := by show _ = _; unfold gap; rw [if_pos hk0]
          clear hk0
          by_cases h2 : t.kind = 2
          · have d2 : (t.kind == 2) = true := by simp [h2]
            have HT : Hid (txt t = Lib.decDigits t.n) := by show _ = _; unfold txt; rw [if_pos h2]
            have hl5 := digits_len5 t.n hot.1
            clear h2
            go_wp2_with fail
            rw [ew]
            refine (digits_any t.n hot.1 _).mono ?_
            rintro e w1 ⟨rfl, hb1⟩
            have HB1 : Hid (Below w.heap.size w w1) := HB.out.trans (hb1.mono HB.out.size)
            clear hb1
            go_wp2
            refine ⟨⟨k + 1, acc ++ gap k ++ txt t, by omega, by go_num, ?_, ?_, HJ1, HB1⟩, by simp [intOf]; omega⟩
            · rw [HT.out, HG.out, ← cat_str, List.append_nil]
            · have := gap_len k; simp only [List.length_append]; omega
          · have d2 : (t.kind == 2) = false := by simp [h2]
            have HT : Hid (txt t = t.s) := by show _ = _; unfold txt; rw [if_neg h2]
            have hl5 := hot.2
            clear h2
            go_wp2
            refine ⟨⟨k + 1, acc ++ gap k ++ txt t, by omega, by go_num, ?_, ?_, HJ1, HB⟩, by simp [intOf]; omega⟩
            · rw [HT.out, HG.out, ← cat_str, List.append_nil]
            · have := gap_len k; simp only [List.length_append]; omega
        · have dk : decide (0 < k) = true := by simp; omega
          have HG : Hid (gap k = [32]) := by show _ = _; unfold gap; rw [if_neg hk0]
          clear hk0
          by_cases h2 : t.kind = 2
          · have d2 : (t.kind == 2) = true := by simp [h2]
            have HT : Hid (txt t = Lib.decDigits t.n) := by show _ = _; unfold txt; rw [if_pos h2]
            have hl5 := digits_len5 t.n hot.1
            clear h2
            go_wp2_with fail
            rw [ew]
            refine (digits_any t.n hot.1 _).mono ?_
            rintro e w1 ⟨rfl, hb1⟩
            have HB1 : Hid (Below w.heap.size w w1) := HB.out.trans (hb1.mono HB.out.size)
            clear hb1
            go_wp2
            refine ⟨⟨k + 1, acc ++ gap k ++ txt t, by omega, by go_num, ?_, ?_, HJ1, HB1⟩, by simp [intOf]; omega⟩
            · rw [HT.out, HG.out, ← cat_str, ← cat_str]
            · have := gap_len k; simp only [List.length_append]; omega
          · have d2 : (t.kind == 2) = false := by simp [h2]
            have HT : Hid (txt t = t.s) := by show _ = _; unfold txt; rw [if_neg h2]
            have hl5 := hot.2
            clear h2
            go_wp2
            refine ⟨⟨k + 1, acc ++ gap k ++ txt t, by omega, by go_num, ?_, ?_, HJ1, HB⟩, by simp [intOf]; omega⟩
            · rw [HT.out, HG.out, ← cat_str, ← cat_str]
            · have := gap_len k; simp only [List.length_append]; omega
    · have hkl : k = L.length := by omega
      subst hkl
      have HJ1 : Hid (joinT L = acc) := by show _ = _; rw [← HJ.out, List.drop_length, jr_nil, List.append_nil]
      clear hc HJ
      go_wp2
      go_ret
      exact ⟨by rw [HJ1.out]; rfl, HB.out⟩
end Go.Proofs.YtajdhpdbekigkaaDoor
