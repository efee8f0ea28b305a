/- What slices.Compact leaves of a row of packets that is in order: each once; no conditions of mine but what the contract states. -/
import Derived.Test.YtbcikkofbdfmaaaS4
set_option linter.unusedVariables false
set_option linter.unusedSimpArgs false
namespace Go.Proofs.Ytbcikkofbdfmaaa
open Go.RowKit Go.Joins Go.Sort

/-- In order. -/
def LE8 (D : List P8) : Prop := D.Pairwise fun x y => cf x y ≤ 0
theorem le8_at {D : List P8} (h : LE8 D) (i j : Nat) (hij : i < j) (hj : j < D.length) : cf (D[i]'(by omega)) D[j] ≤ 0 :=
  List.pairwise_iff_getElem.1 h i j (by omega) hj hij
theorem lt_next {D : List P8} (h : LE8 D) (m : Nat) (h1 : 1 ≤ m) (hm : m < D.length) (hne : ¬ D[m] = D[m - 1]) : ∀ z ∈ D.take m, cf z D[m] < 0 := by
  intro z hz
  obtain ⟨i, hi, rfl⟩ := List.getElem_of_mem hz
  rw [List.length_take] at hi
  rw [List.getElem_take]
  have k1 : cf D[m - 1] D[m] < 0 := by
    have := le8_at h (m - 1) m (by omega) hm
    rcases Int.lt_or_eq_of_le this with k | k
    · exact k
    · exact absurd (cf_eq k).symm hne
  by_cases e : i = m - 1
  · subst e; exact k1
  · have := le8_at h i (m - 1) (by omega) (by omega)
    rcases Int.lt_or_eq_of_le this with k | k
    · exact cf_trans k k1
    · rw [cf_eq k]; exact k1
/-- Where the inner loop is. -/
structure CI (D : List P8) (m kk : Nat) (R : List P8) : Prop where
  len : R.length = D.length
  ss : SS (R.take kk)
  mem : ∀ z, z ∈ R.take kk ↔ z ∈ D.take m
  high : ∀ i, m ≤ i + 1 → R[i]? = D[i]?
theorem take_snoc {D : List P8} (m : Nat) (hm : m < D.length) (z : P8) : z ∈ D.take (m + 1) ↔ z ∈ D.take m ∨ z = D[m] := by
  rw [List.take_succ_eq_append_getElem hm, List.mem_append, List.mem_singleton]
theorem prev_mem {D : List P8} (m : Nat) (h1 : 1 ≤ m) (hm : m < D.length) : D[m - 1] ∈ D.take m := by
  rw [List.mem_take_iff_getElem]
  exact ⟨m - 1, by omega, rfl⟩
theorem CI.start {D : List P8} (k : Nat) (h1 : 1 ≤ k) (hk : k < D.length) (hs : SS (D.take k)) (he : D[k] = D[k - 1]) : CI D (k + 1) k D := by
  refine ⟨rfl, hs, fun z => ?_, fun i _ => rfl⟩
  rw [take_snoc k hk]
  refine ⟨.inl, fun h => ?_⟩
  rcases h with h | h
  · exact h
  · rw [h, he]; exact prev_mem k h1 hk
theorem CI.skip {D R : List P8} {m kk : Nat} (h : CI D m kk R) (h1 : 1 ≤ m) (hm : m < D.length) (he : D[m] = D[m - 1]) : CI D (m + 1) kk R := by
  refine ⟨h.len, h.ss, fun z => ?_, fun i hi => h.high i (by omega)⟩
  rw [h.mem, take_snoc m hm]
  refine ⟨.inl, fun h => ?_⟩
  rcases h with h | h
  · exact h
  · rw [h, he]; exact prev_mem m h1 hm
theorem CI.keep {D R : List P8} {m kk : Nat} (h : CI D m kk R) (hD : LE8 D) (h1 : 1 ≤ m) (hm : m < D.length) (hk : kk < m) (hne : ¬ D[m] = D[m - 1]) : CI D (m + 1) (kk + 1) (R.set kk D[m]) := by
  have hkl : kk < R.length := by rw [h.len]; omega
  have e : (R.set kk D[m]).take (kk + 1) = R.take kk ++ [D[m]] := by
    rw [List.take_succ_eq_append_getElem (by simpa using hkl), List.getElem_set_self, List.take_set_of_le (Nat.le_refl _)]
  refine ⟨by simpa using h.len, ?_, fun z => ?_, fun i hi => ?_⟩
  · rw [e]
    exact ss_snoc h.ss fun z hz => lt_next hD m h1 hm hne z ((h.mem z).1 hz)
  · rw [e, List.mem_append, List.mem_singleton, h.mem, take_snoc m hm]
  · rw [List.getElem?_set_ne (by omega)]; exact h.high i (by omega)

theorem same8_iff (x y : P8) : same8 x.l y.l = decide (x.l = y.l) := by
  unfold same8
  by_cases h : x.l = y.l
  · rw [h]; simp
  · simp [h]
theorem eqlXY {x y : P8} (h : ¬ x = y) (w : World) : (Op.equalIn 10000 25 x.v y.v).run Try.prog w = .ok false w := by
  rw [eql8]
  have : same8 x.l y.l = false := by rw [same8_iff]; exact decide_eq_false fun e => h (P8.inj e)
  rw [show ([x.a0, x.a1, x.a2, x.a3, x.a4, x.a5, x.a6, x.a7] : List Int) = x.l from rfl, show ([y.a0, y.a1, y.a2, y.a3, y.a4, y.a5, y.a6, y.a7] : List Int) = y.l from rfl, this]

set_option maxRecDepth 100000 in
set_option maxHeartbeats 1000000 in
theorem compact41 (g off cap sz : Nat) (D : List P8) (w : World) (hR : Rw w g off sz D) (hD : LE8 D) (hlen : D.length ≤ 1000) (hcap : D.length ≤ cap) (hcap2 : cap ≤ 9223372036854775807) (B : Nat) (hB : B ≤ g) (w0 : World) (hw0 : Below B w0 w) :
    Calls Try.prog 65 #[.slice (some ⟨g, off, none⟩) D.length cap] w fun e w' => ∃ Z : List P8, e = .returned (.slice (some ⟨g, off, none⟩) Z.length cap) ∧ Rw w' g off sz Z ∧ SS Z ∧ (∀ z, z ∈ Z ↔ z ∈ D) ∧ Below B w0 w' := by
  by_cases h2 : D.length < 2
  · have d2 : decide ((D.length : Int) < 2) = true := by simp; omega
    go_enter Try.func65, Try.ntmps65
    go_wp2
    go_ret
    refine ⟨D, rfl, hR, ?_, fun z => Iff.rfl, hw0⟩
    match D, h2 with
    | [], _ => exact List.Pairwise.nil
    | [x], _ => exact List.pairwise_singleton _ _
  · have d2 : decide ((D.length : Int) < 2) = false := by simp; omega
    have hn2 : 2 ≤ D.length := by omega
    clear h2
    go_enter Try.func65, Try.ntmps65
    go_wp2
    go_loopw [3] (fun i wr => ∃ k : Nat, 1 ≤ k ∧ k ≤ D.length ∧ i = .int .i64 k ∧ Hid (SS (D.take k)) ∧ Hid (Rw wr g off sz D) ∧ Hid (Below B w0 wr)) (fun i _ => D.length - (intOf i).toNat)
    case atStart =>
      refine ⟨1, Nat.le_refl _, by omega, rfl, ?_, hR, hw0⟩
      match D, hn2 with
      | x :: r, _ => exact List.pairwise_singleton _ _
    case round =>
      obtain ⟨k, hk1, hk, rfl, HS, HR, HB⟩ := hrel
      by_cases hlt : k < D.length
      · obtain ⟨p0, p1, p2, p3, p4, p5, p6, p7⟩ := HR.out.at k hlt
        obtain ⟨q0, q1, q2, q3, q4, q5, q6, q7⟩ := HR.out.at (k - 1) (by omega)
        obtain ⟨x, hx⟩ : ∃ x, D[k] = x := ⟨_, rfl⟩
        obtain ⟨y, hy⟩ : ∃ y, D[k - 1] = y := ⟨_, rfl⟩
        rw [hx] at p0 p1 p2 p3 p4 p5 p6 p7
        rw [hy] at q0 q1 q2 q3 q4 q5 q6 q7
        have HX : Hid (D[k] = x) := hx
        have HY : Hid (D[k - 1] = y) := hy
        clear hx hy
        by_cases hxy : x = y
        · subst hxy
          have e := eqlP x
          unfold P8.v at e
          go_wp2
          go_quiet (fail)
          go_wp2
          have HCI0 : Hid (CI D (k + 1) k D) := CI.start k hk1 hlt HS.out (HX.out.trans HY.out.symm)
          have HR0 : Hid (Rw (wr.drewN nq) g off sz D) := HR.out.drewN _
          have HB0 : Hid (Below B w0 (wr.drewN nq)) := below_drewN HB.out _
          clear p0 p1 p2 p3 p4 p5 p6 p7 q0 q1 q2 q3 q4 q5 q6 q7 e HX HY HS HR HB
          generalize (wr.drewN nq) = W at *
          go_loopw [3, 5] (fun i j wz => ∃ (kk k2 : Nat) (R : List P8), i = .int .i64 kk ∧ j = .int .i64 k2 ∧ 1 ≤ k2 ∧ k + k2 ≤ D.length ∧ kk < k + k2 ∧ Hid (CI D (k + k2) kk R) ∧ Hid (Rw wz g off sz R) ∧ Hid (Below B w0 wz)) (fun _ j _ => D.length - (intOf j).toNat)
          case atStart => exact ⟨k, 1, D, rfl, rfl, Nat.le_refl _, by omega, by omega, HCI0, HR0, HB0⟩
          case round =>
            clear HCI0 HR0 HB0
            obtain ⟨kk, k2, R, rfl, rfl, h1, hle, hkk, HCI, HRR, HBB⟩ := hrel
            have hRl := HCI.out.len
            by_cases hlt2 : k + k2 < D.length
            · have hlt2R : k + k2 < R.length := by omega
              have hltpR : k + k2 - 1 < R.length := by omega
              have hu0 := HRR.out.at (k + k2) hlt2R
              have hv0 := HRR.out.at (k + k2 - 1) hltpR
              have eu : R[k + k2] = D[k + k2] := by
                have := HCI.out.high (k + k2) (by omega)
                rw [List.getElem?_eq_getElem hlt2R, List.getElem?_eq_getElem hlt2] at this
                exact Option.some.inj this
              have ev : R[k + k2 - 1] = D[k + k2 - 1] := by
                have := HCI.out.high (k + k2 - 1) (by omega)
                rw [List.getElem?_eq_getElem hltpR, List.getElem?_eq_getElem (by omega)] at this
                exact Option.some.inj this
              rw [eu, show off + (k + k2) * 8 = off + k * 8 + k2 * 8 by omega] at hu0
              rw [ev, show off + (k + k2 - 1) * 8 = off + k * 8 + (k2 - 1) * 8 by omega] at hv0
              clear eu ev
              obtain ⟨u, hu⟩ : ∃ u, D[k + k2] = u := ⟨_, rfl⟩
              obtain ⟨v, hv⟩ : ∃ v, D[k + k2 - 1] = v := ⟨_, rfl⟩
              rw [hu] at hu0
              rw [hv] at hv0
              have HU : Hid (D[k + k2] = u) := hu
              have HV : Hid (D[k + k2 - 1] = v) := hv
              clear hu hv
              obtain ⟨p0, p1, p2, p3, p4, p5, p6, p7⟩ := hu0
              obtain ⟨q0, q1, q2, q3, q4, q5, q6, q7⟩ := hv0
              by_cases huv : u = v
              · subst huv
                have e := eqlP u
                unfold P8.v at e
                have HC2 : Hid (CI D (k + (k2 + 1)) kk R) := HCI.out.skip (by omega) hlt2 (HU.out.trans HV.out.symm)
                clear HU HV
                go_wp2
                go_quiet (fail)
                go_wp2
                refine ⟨⟨kk, k2 + 1, R, rfl, by go_num, by omega, by omega, by omega, HC2, HRR.out.drewN _, below_drewN HBB.out _⟩, by simp [intOf]; omega⟩
              · have e := eqlXY huv
                unfold P8.v at e
                have HNE : Hid (¬ D[k + k2] = D[k + k2 - 1]) := by show ¬ _; rw [HU.out, HV.out]; exact huv
                have HC2 : Hid (CI D (k + (k2 + 1)) (kk + 1) (R.set kk u)) := by
                  have := HCI.out.keep hD (by omega) hlt2 hkk HNE.out
                  rwa [HU.out] at this
                have hkR : kk < R.length := by omega
                obtain ⟨r0, r1, r2, r3, r4, r5, r6, r7⟩ := HRR.out.at kk hkR
                have f0 := HRR.out.frz (off + kk * 8)
                have f1 := HRR.out.frz (off + kk * 8 + 1)
                have f2 := HRR.out.frz (off + kk * 8 + 2)
                have f3 := HRR.out.frz (off + kk * 8 + 3)
                have f4 := HRR.out.frz (off + kk * 8 + 4)
                have f5 := HRR.out.frz (off + kk * 8 + 5)
                have f6 := HRR.out.frz (off + kk * 8 + 6)
                have f7 := HRR.out.frz (off + kk * 8 + 7)
                generalize R[kk] = old at *
                have hkkD : kk < D.length := by omega
                clear HU HV huv
                go_wp2
                go_quiet (fail)
                go_wp2
                refine ⟨⟨kk + 1, k2 + 1, R.set kk u, by go_num, by go_num, by omega, by omega, by omega, HC2, Rw.put (HRR.out.drewN _) kk hkR u, put8_below (below_drewN HBB.out _) hB u⟩, by simp [intOf]; omega⟩
            · have hend : k + k2 = D.length := by omega
              have hkR : kk < R.length := by omega
              obtain ⟨vs, hcl⟩ := run_clear8 HRR.out kk hkR D.length hRl
              have hHend : Hid (k + k2 = D.length) := hend
              clear hend
              go_wp2
              go_ret
              have hC := HCI.out
              rw [hHend.out] at hC
              have hl : (R.take kk).length = kk := by rw [List.length_take]; omega
              refine ⟨R.take kk, by rw [hl]; rfl, HRR.out.cut kk vs, hC.ss, fun z => ?_, setCells_below hB _ _ _ HBB.out⟩
              rw [hC.mem, List.take_length]
        · have e := eqlXY hxy
          unfold P8.v at e
          have HNE : Hid (¬ D[k] = D[k - 1]) := by show ¬ _; rw [HX.out, HY.out]; exact hxy
          clear hxy
          go_wp2
          go_quiet (fail)
          go_wp2
          have HS2 : Hid (SS (D.take (k + 1))) := by
            show SS _
            rw [List.take_succ_eq_append_getElem hlt]
            exact ss_snoc HS.out (lt_next hD k hk1 hlt HNE.out)
          refine ⟨⟨k + 1, by omega, by omega, by go_num, HS2, HR.out.drewN _, below_drewN HB.out _⟩, by simp [intOf]; omega⟩
      · have hkl : k = D.length := by omega
        subst hkl
        go_wp2
        go_ret
        have hs := HS.out
        rw [List.take_length] at hs
        exact ⟨D, rfl, HR.out, hs, fun z => Iff.rfl, HB.out⟩
end Go.Proofs.Ytbcikkofbdfmaaa
