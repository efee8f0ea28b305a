/- What the document's Same answers of the same tokens: true; lists of up to 10000 tokens. -/
import Derived.Test.YtajdhpdbekigkaaDoorA2
set_option linter.unusedVariables false
set_option linter.unusedSimpArgs false
namespace Go.Proofs.YtajdhpdbekigkaaDoor
open Go.RowKit Go.Joins

set_option maxRecDepth 100000 in
set_option maxHeartbeats 400000 in
theorem same_any (v1 v2 : Value) (L : List Tk) (hlen : L.length ≤ 10000) (w : World) (h1 : Tks w v1 L) (h2 : Tks w v2 L) :
    Calls Tryd.prog 9 #[v1, v2] w fun e w' => e = .returned (.bool true) ∧ Below w.heap.size w w' := by
  obtain ⟨s1, c1, rfl, hc1⟩ := h1
  obtain ⟨s2, c2, rfl, hc2⟩ := h2
  have hne : ((L.length : Int) != (L.length : Int)) = false := by simp
  go_enter Tryd.func9, Tryd.ntmps9
  go_wp2
  go_loopw [5] (fun i wr => ∃ k : Nat, k ≤ L.length ∧ i = .int .i64 k ∧ Hid (Below w.heap.size w wr)) (fun i _ => L.length - (intOf i).toNat)
  case atStart => exact ⟨0, Nat.zero_le _, rfl, Below.refl _ _⟩
  case round =>
    obtain ⟨k, hk, rfl, HB⟩ := hrel
    by_cases hlt : k < L.length
    · obtain ⟨b1, o1, rfl, hb1, ha1⟩ := hc1 k hlt
      obtain ⟨b2, o2, rfl, hb2, ha2⟩ := hc2 k hlt
      obtain ⟨p0, p1, p2⟩ := ha1.below HB.out hb1
      obtain ⟨q0, q1, q2⟩ := ha2.below HB.out hb2
      generalize L[k] = x at *
      clear hc1 hc2 ha1 ha2
      go_wp2
      go_quiet (fail)
      go_wp2
      refine ⟨⟨k + 1, by omega, by go_num, below_drewN HB.out _⟩, by simp [intOf]; omega⟩
    · have hkl : k = L.length := by omega
      subst hkl
      clear hc1 hc2
      go_wp2
      go_ret
      exact ⟨rfl, HB.out⟩
end Go.Proofs.YtajdhpdbekigkaaDoor
