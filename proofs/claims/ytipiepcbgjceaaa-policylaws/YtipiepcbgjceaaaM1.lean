/- The least number that isn't said, and whether a number is said; no conditions but a rising list. -/
import Derived.Test.YtipiepcbgjceaaaL4
import Derived.Test.YtipiepcbgjceaaaJ3
set_option linter.unusedVariables false
set_option linter.unusedSimpArgs false
namespace Go.Proofs.Ytipiepcbgjceaaa
open Go.RowKit Go.Joins Go.Sort

theorem rise_ge {l : List Nat} (hr : l.Pairwise (· < ·)) {i j : Nat} (hi : i < l.length) (hj : j < l.length) (h : i < j) : l[i] < l[j] := List.pairwise_iff_getElem.1 hr i j hi hj h
theorem not_mem_of {l : List Nat} (hr : l.Pairwise (· < ·)) {k : Nat} (h1 : ∀ t (ht : t < l.length), t < k → l[t] = t) (h2 : ∀ h : k < l.length, l[k] ≠ k) (hk : k ≤ l.length) : k ∉ l := fun h => by
  obtain ⟨j, hj, e⟩ := List.mem_iff_getElem.1 h
  by_cases hjk : j < k
  · have := h1 j hj hjk
    omega
  · by_cases hje : j = k
    · subst hje
      exact h2 hj e
    · have hkl : k < l.length := by omega
      have h3 := rise_ge hr hkl hj (by omega)
      have h4 : k ≤ l[k] := by
        by_cases h0 : k = 0
        · omega
        · have h5 := rise_ge hr (show k - 1 < l.length by omega) hkl (by omega)
          have h6 := h1 (k - 1) (by omega) (by omega)
          omega
      omega

set_option maxRecDepth 100000 in
set_option maxHeartbeats 4000000 in
theorem unsaid_any (l : List Nat) (v : Value) (w : World) (hp : NumV w v l) (hr : l.Pairwise (· < ·)) (hl : l.length ≤ 1000) :
    Calls Try.prog 73 #[v] w fun e w' => ∃ m : Nat, e = .returned (.int .u16 (m : Int)) ∧ m ∉ l ∧ m ≤ 65535 ∧ Below w.heap.size w w' := by
  obtain ⟨sa, sc, rfl, hc⟩ := hp
  have HC : Hid _ := hc
  have HR : Hid (l.Pairwise (· < ·)) := hr
  obtain ⟨R, hR⟩ : ∃ R, l.length = R := ⟨_, rfl⟩
  have HL : Hid (l.length = R) := hR
  rw [hR] at hl ⊢
  clear hc hr hR
  go_enter Try.func73, Try.ntmps73
  go_wp2
  go_loopw [3, 8] (fun s i wr => ∃ k : Nat, k ≤ R ∧ i = .int .i64 (k : Int) ∧ s = .int .u16 (k : Int) ∧ Hid (∀ t (ht : t < l.length), t < k → l[t] = t) ∧ Hid (Below w.heap.size w wr)) (fun _ i _ => R - (intOf i).toNat)
  case atStart => exact ⟨0, Nat.zero_le _, rfl, rfl, fun t ht h => absurd h (Nat.not_lt_zero _), Below.refl _ w⟩
  case round =>
    obtain ⟨k, hkl, rfl, rfl, HT, HB⟩ := hrel
    by_cases hlt : k < R
    · have hkl' : k < l.length := by rw [HL.out]; exact hlt
      obtain ⟨b, off, rfl, hb, ht, a0⟩ := HC.out k hkl'
      have a1 : wr.cell? ⟨b, off + k, none⟩ = some (.int .u16 (l[k] : Int)) := by rw [World.cell?_of_block (w := w) (w' := wr) (HB.out.block b hb)]; exact a0
      obtain ⟨x, hx⟩ : ∃ x, l[k] = x := ⟨_, rfl⟩
      rw [hx] at a1
      have HX : Hid (l[k] = x) := hx
      clear a0 hx ht
      have dk : decide ((k : Int) < (R : Int)) = true := by simp; omega
      by_cases hxk : x = k
      · subst hxk
        go_wp2_with fail
        go_roundw
        case rel =>
          refine ⟨x + 1, by omega, by go_num, by go_num, fun t ht hlt2 => ?_, HB⟩
          by_cases e : t = x
          · subst e; exact HX.out
          · exact HT.out t ht (by omega)
        case measure => simp [intOf]; omega
      · have dx : ((x : Int) == (k : Int)) = false := by simp; omega
        go_wp2_with fail
        go_ret
        exact ⟨k, rfl, not_mem_of HR.out HT.out (fun h e => hxk (by rw [← HX.out]; exact e)) (by rw [HL.out]; exact hkl), by omega, HB.out⟩
    · obtain rfl : k = R := by omega
      have dk : decide ((k : Int) < (k : Int)) = false := by simp
      go_wp2
      go_ret
      exact ⟨k, rfl, not_mem_of HR.out HT.out (fun h => absurd h (by rw [HL.out]; omega)) (Nat.le_of_eq HL.out.symm), by omega, HB.out⟩

/-! ### Is it said? -/
theorem nan16 (a : Int) (w : World) : Calls Try.prog 88 #[.int .u16 a] w fun e w' => e = .returned (.bool false) ∧ w' = w := by
  go_enter Try.func88, Try.ntmps88
  go_wp2
  go_ret
  exact ⟨rfl, rfl⟩
theorem nanc16 (a : Int) (w : World) : Calls Try.prog 85 #[.int .u16 a] w fun e w' => e = .returned (.bool false) ∧ w' = w := by
  go_enter Try.func85, Try.ntmps85
  go_wp2
  go_ret
  exact ⟨rfl, rfl⟩
theorem less16 (a b : Int) (w : World) : Calls Try.prog 87 #[.int .u16 a, .int .u16 b] w fun e w' => e = .returned (.bool (decide (a < b))) ∧ w' = w := by
  have c1 := nanc16 a w
  go_enter Try.func87, Try.ntmps87
  go_wp2_with fail
  refine c1.mono ?_
  rintro e w1 ⟨rfl, hw⟩
  subst hw
  go_wp2
  go_ret
  exact ⟨rfl, rfl⟩
set_option maxRecDepth 100000 in
set_option maxHeartbeats 4000000 in
theorem search16 (l : List Nat) (v : Value) (n : Nat) (w : World) (hp : NumV w v l) (hr : l.Pairwise (· < ·)) (hl : l.length ≤ 1000) :
    Calls Try.prog 74 #[v, .int .u16 (n : Int)] w fun e w' => ∃ k : Nat, e = .returned (.tuple #[.int .i64 (k : Int), .bool (decide (n ∈ l))]) ∧ Below w.heap.size w w' := by
  obtain ⟨sa, sc, rfl, hc⟩ := hp
  have HC : Hid _ := hc
  have HR : Hid (∀ i j (hi : i < l.length) (hj : j < l.length), i < j → l[i] < l[j]) := fun i j hi hj h => rise_ge hr hi hj h
  obtain ⟨R, hR⟩ : ∃ R, l.length = R := ⟨_, rfl⟩
  have HL : Hid (l.length = R) := hR
  rw [hR] at hl ⊢
  clear hc hr hR
  go_enter Try.func74, Try.ntmps74
  go_wp2
  go_loopw [7, 8] (fun a b wr => ∃ lo hi : Nat, a = .int .i64 (lo : Int) ∧ b = .int .i64 (hi : Int) ∧ lo ≤ hi ∧ hi ≤ R ∧ Hid ((∀ t (ht : t < l.length), t < lo → l[t] < n) ∧ (∀ t (ht : t < l.length), hi ≤ t → n ≤ l[t])) ∧ Hid (Below w.heap.size w wr)) (fun a b _ => (intOf b - intOf a).toNat)
  case atStart => exact ⟨0, R, rfl, rfl, Nat.zero_le _, Nat.le_refl _, ⟨fun t _ h => by omega, fun t ht h => by have := HL.out; omega⟩, Below.refl _ w⟩
  case round =>
    obtain ⟨lo, hi, rfl, rfl, h1, h2, HF, HB⟩ := hrel
    by_cases hlt : lo < hi
    · obtain ⟨m, hm⟩ : ∃ m, (lo + hi) / 2 = m := ⟨_, rfl⟩
      have hml : m < l.length := by rw [HL.out]; omega
      obtain ⟨b, off, rfl, hb, ht, a0⟩ := HC.out m hml
      have a1 : wr.cell? ⟨b, off + m, none⟩ = some (.int .u16 (l[m] : Int)) := by rw [World.cell?_of_block (w := w) (w' := wr) (HB.out.block b hb)]; exact a0
      obtain ⟨y, hy⟩ : ∃ y, l[m] = y := ⟨_, rfl⟩
      rw [hy] at a1
      have HY : Hid (l[m] = y) := hy
      have HM : Hid ((lo + hi) / 2 = m) := hm
      have em : ((lo : Int) + (hi : Int)) / 2 = (m : Int) := by omega
      have cC := less16 y n wr
      clear hy hm a0 ht
      by_cases hyn : y < n
      · rw [show decide ((y : Int) < (n : Int)) = true by simp; omega] at cC
        go_wp2_with fail
        refine cC.mono ?_
        rintro e w1 ⟨rfl, hw⟩
        subst hw
        go_wp2
        go_roundw
        case rel =>
          refine ⟨m + 1, hi, by go_num, rfl, by have := HM.out; omega, h2, ⟨fun t ht hlt2 => ?_, HF.out.2⟩, HB⟩
          by_cases e : t = m
          · subst e; rw [HY.out]; exact hyn
          · have := HR.out t m ht hml (by omega)
            rw [HY.out] at this
            omega
        case measure => simp [intOf]; have := HM.out; omega
      · rw [show decide ((y : Int) < (n : Int)) = false by simp; omega] at cC
        go_wp2_with fail
        refine cC.mono ?_
        rintro e w1 ⟨rfl, hw⟩
        subst hw
        go_wp2
        go_roundw
        case rel =>
          refine ⟨lo, m, rfl, rfl, by have := HM.out; omega, by omega, ⟨HF.out.1, fun t ht hlt2 => ?_⟩, HB⟩
          by_cases e : t = m
          · subst e; rw [HY.out]; omega
          · have := HR.out m t hml ht (by omega)
            rw [HY.out] at this
            omega
        case measure => simp [intOf]; have := HM.out; omega
    · obtain rfl : lo = hi := by omega
      have hmem : ∀ b : Bool, (∀ h : lo < l.length, b = decide (l[lo] = n)) → (l.length ≤ lo → b = false) → b = decide (n ∈ l) := fun b hb1 hb2 => by
        by_cases hln : lo < l.length
        · rw [hb1 hln]
          by_cases he : l[lo] = n
          · rw [decide_eq_true he, decide_eq_true (by rw [← he]; exact List.getElem_mem hln)]
          · rw [decide_eq_false he, decide_eq_false]
            intro hn
            obtain ⟨j, hj, ej⟩ := List.mem_iff_getElem.1 hn
            have h3 := HF.out.1 j hj
            by_cases h4 : j < lo
            · have := h3 h4; omega
            · by_cases h5 : j = lo
              · subst h5; exact he ej
              · have h6 := HR.out lo j hln hj (by omega)
                have h7 := HF.out.2 lo hln (Nat.le_refl _)
                omega
        · rw [hb2 (by omega), decide_eq_false]
          intro hn
          obtain ⟨j, hj, ej⟩ := List.mem_iff_getElem.1 hn
          have := HF.out.1 j hj (by omega)
          omega
      have HMem := hide hmem
      clear hmem
      have dlt : decide ((lo : Int) < (lo : Int)) = false := by simp
      by_cases hln : lo < R
      · have hll : lo < l.length := by rw [HL.out]; exact hln
        obtain ⟨b, off, rfl, hb, ht, a0⟩ := HC.out lo hll
        have a1 : wr.cell? ⟨b, off + lo, none⟩ = some (.int .u16 (l[lo] : Int)) := by rw [World.cell?_of_block (w := w) (w' := wr) (HB.out.block b hb)]; exact a0
        obtain ⟨y, hy⟩ : ∃ y, l[lo] = y := ⟨_, rfl⟩
        rw [hy] at a1
        have HY : Hid (l[lo] = y) := hy
        have dl : decide ((lo : Int) < (R : Int)) = true := by simp; omega
        have cN := nan16 (y : Int) wr
        clear hy a0 ht
        by_cases hyn : y = n
        · subst hyn
          go_wp2_with fail
          refine bodyPost_ret (v := .tuple #[.int .i64 (lo : Int), .bool true]) (by simp [results, Try.results74, go_sem]) rfl ⟨lo, ?_, HB.out⟩
          rw [← HMem.out true (fun h => by rw [HY.out]; simp) (fun h => by omega)]
        · have dy : ((y : Int) == (n : Int)) = false := by simp; omega
          go_wp2_with fail
          refine cN.mono ?_
          rintro e w1 ⟨rfl, hw⟩
          subst hw
          go_wp2
          refine bodyPost_ret (v := .tuple #[.int .i64 (lo : Int), .bool false]) (by simp [results, Try.results74, go_sem]) rfl ⟨lo, ?_, HB.out⟩
          rw [← HMem.out false (fun h => by rw [HY.out]; simp [hyn]) (fun h => rfl)]
      · obtain rfl : lo = R := by omega
        go_wp2
        refine bodyPost_ret (v := .tuple #[.int .i64 (lo : Int), .bool false]) (by simp [results, Try.results74, go_sem]) rfl ⟨lo, ?_, HB.out⟩
        rw [← HMem.out false (fun h => absurd h (by rw [HL.out]; omega)) (fun h => rfl)]
end Go.Proofs.Ytipiepcbgjceaaa
