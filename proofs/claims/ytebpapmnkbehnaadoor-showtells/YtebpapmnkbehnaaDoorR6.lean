/- What the law's Few answers of rules that lie somewhere; no conditions but a slice's length. -/
import Derived.Test.YtebpapmnkbehnaaDoorK11
set_option linter.unusedVariables false
set_option linter.unusedSimpArgs false
namespace Go.Proofs.YtebpapmnkbehnaaDoor
open Go.RowKit Go.Joins

def rfew (r : Rl) : Bool := !(decide (10 < r.when.length) || decide (10 < r.guard.length) || decide (10 < r.thn.length))
def fewB (rs : List Rl) : Bool := !decide (30 < rs.length) && rs.all rfew
theorem few_len {rs : List Rl} (h : fewB rs = true) : rs.length ≤ 30 ∧ ∀ r ∈ rs, r.when.length ≤ 10 ∧ r.guard.length ≤ 10 ∧ r.thn.length ≤ 10 := by
  unfold fewB at h
  rw [Bool.and_eq_true, List.all_eq_true] at h
  refine ⟨by have := h.1; simp at this; omega, fun r hr => ?_⟩
  have := h.2 r hr
  unfold rfew at this
  simp at this
  omega
set_option maxRecDepth 100000 in
set_option maxHeartbeats 4000000 in
theorem few_any {P : Nat → Prop} (rs : List Rl) (v : Value) (w : World) (h : RulesAt P w v rs) (hmax : rs.length ≤ 9223372036854775807) (hm : ∀ r ∈ rs, r.when.length ≤ 9223372036854775807 ∧ r.guard.length ≤ 9223372036854775807 ∧ r.thn.length ≤ 9223372036854775807) :
    Calls Tryd.prog 6 #[v] w fun e w' => e = .returned (.bool (fewB rs)) ∧ Below w.heap.size w w' := by
  obtain ⟨sr, sc, rfl, hc⟩ := h
  have HC : Hid _ := hc
  have HM : Hid _ := hm
  clear hc hm
  by_cases hl : 30 < rs.length
  · have d : decide (30 < (rs.length : Int)) = true := by simp; omega
    have hf : fewB rs = false := by unfold fewB; simp [hl]
    rw [hf]
    clear hf HC HM
    generalize rs.length = R at *
    go_enter Tryd.func6, Tryd.ntmps6
    go_wp2
    go_ret
    exact ⟨rfl, Below.refl _ w⟩
  · have d : decide (30 < (rs.length : Int)) = false := by simp; omega
    have hf : fewB rs = rs.all rfew := by unfold fewB; simp [hl]
    rw [hf]
    obtain ⟨R, eR⟩ : ∃ R, rs.length = R := ⟨_, rfl⟩
    have HER : Hid (rs.length = R) := eR
    rw [eR] at hl d hmax ⊢
    have HH : Hid (∀ k (hk : k < rs.length), rfew rs[k] = false → rs.all rfew = false) := fun k hk h => all_false _ _ k hk h
    obtain ⟨af, eaf⟩ : ∃ af, rs.all rfew = af := ⟨_, rfl⟩
    have HAF : Hid (rs.all rfew = af) := eaf
    rw [eaf]
    clear eR hf eaf
    go_enter Tryd.func6, Tryd.ntmps6
    go_wp2_with fail
    go_loopw [10] (fun i wr => ∃ k : Nat, k ≤ R ∧ i = .int .i64 (k : Int) ∧ Hid ((rs.take k).all rfew = true) ∧ Hid (Below w.heap.size w wr)) (fun i _ => R - (intOf i).toNat)
    case atStart => exact ⟨0, Nat.zero_le _, rfl, by show _ = _; simp, Below.refl _ w⟩
    case round =>
      obtain ⟨k, hkl, rfl, HT, HB⟩ := hrel
      by_cases hlt : k < R
      · have hlt' : k < rs.length := by rw [HER.out]; exact hlt
        obtain ⟨b, off, v1, v2, v3, rfl, -, hb, ⟨a0, a1, a2⟩, hru'⟩ := HC.out k hlt'
        have hru := hru'.at
        clear hru'
        have q : ∀ o, wr.cell? ⟨b, o, none⟩ = w.cell? ⟨b, o, none⟩ := fun o => HB.out.cell (p := ⟨b, o, none⟩) hb
        rw [← q] at a0 a1 a2
        have hwr := HB.out.size
        obtain ⟨sa1, sc1, rfl⟩ := hru.p1.shape
        obtain ⟨sa2, sc2, rfl⟩ := hru.p2.shape
        obtain ⟨sa3, sc3, rfl⟩ := hru.p3.shape
        have htk := all_take rfew rs k hlt'
        rw [HT.out, Bool.true_and] at htk
        have hno := HH.out k hlt'
        have hmm := HM.out _ (List.getElem_mem hlt')
        rw [HAF.out] at hno
        have hdef : rfew rs[k] = !(decide (10 < rs[k].when.length) || decide (10 < rs[k].guard.length) || decide (10 < rs[k].thn.length)) := rfl
        rw [hdef] at htk hno
        clear hru q hdef
        generalize rs[k].when.length = n1 at *
        generalize rs[k].guard.length = n2 at *
        generalize rs[k].thn.length = n3 at *
        clear hlt'
        obtain ⟨m1, m2, m3⟩ := hmm
        by_cases h1 : 10 < n1
        · have d1 : decide (10 < (n1 : Int)) = true := by simp; omega
          have HN : Hid (af = false) := hno (by simp [h1])
          clear hno htk
          go_wp2
          go_ret
          exact ⟨by rw [HN.out]; rfl, HB.out.alloc hwr _⟩
        · have d1 : decide (10 < (n1 : Int)) = false := by simp; omega
          by_cases h2 : 10 < n2
          · have d2 : decide (10 < (n2 : Int)) = true := by simp; omega
            have HN : Hid (af = false) := hno (by simp [h2])
            clear hno htk
            go_wp2
            go_ret
            exact ⟨by rw [HN.out]; rfl, HB.out.alloc hwr _⟩
          · have d2 : decide (10 < (n2 : Int)) = false := by simp; omega
            by_cases h3 : 10 < n3
            · have d3 : decide (10 < (n3 : Int)) = true := by simp; omega
              have HN : Hid (af = false) := hno (by simp [h3])
              clear hno htk
              go_wp2
              go_ret
              exact ⟨by rw [HN.out]; rfl, HB.out.alloc hwr _⟩
            · have d3 : decide (10 < (n3 : Int)) = false := by simp; omega
              have HT2 : Hid ((rs.take (k + 1)).all rfew = true) := by show _ = _; rw [htk]; simp [h1, h2, h3]
              clear hno htk
              go_wp2
              go_roundw
              case rel => exact ⟨k + 1, by omega, by go_num, HT2, HB.out.alloc hwr _⟩
              case measure => simp [intOf]; omega
      · obtain rfl : k = R := by omega
        have HN : Hid (af = true) := by
          have ht := HT.out
          rw [← HER.out, List.take_length, HAF.out] at ht
          exact ht
        go_wp2
        go_ret
        exact ⟨by rw [HN.out]; rfl, HB.out⟩
end Go.Proofs.YtebpapmnkbehnaaDoor
