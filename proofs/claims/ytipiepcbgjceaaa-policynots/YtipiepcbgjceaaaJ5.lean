/- What awake of the law answers: true. -/
import Derived.Test.YtipiepcbgjceaaaJ4
set_option linter.unusedVariables false
set_option linter.unusedSimpArgs false
namespace Go.Proofs.Ytipiepcbgjceaaa
open Go.RowKit Go.Joins Go.Sort

theorem hide {p : Prop} (h : p) : Hid p := h
/-- A state of one part, in a row of one. -/
theorem st_one (w : World) (n : Nat) : StAt (w.alloc (.cells #[.int .u16 (n : Int)] 24)) (.slice (some ⟨w.heap.size, 0, none⟩) 1 1) [n] := by
  refine ⟨_, 1, rfl, fun k hk => ⟨w.heap.size, 0, rfl, by simp, ?_⟩⟩
  have : k = 0 := by simp at hk; omega
  subst this
  rw [cell_of_row _ _ _ _ _ _ (heap_alloc_new w _)]
  rfl
theorem q8_of (a0 a1 a2 a3 a4 a5 a6 a7 : Nat) (h : ∀ z ∈ [a0, a1, a2, a3, a4, a5, a6, a7], z ≤ 65535) : Q8 ⟨a0, a1, a2, a3, a4, a5, a6, a7⟩ := fun z hz => by
  simp only [P8.l, List.mem_cons, List.not_mem_nil, or_false] at hz
  simp only [List.mem_cons, List.not_mem_nil, or_false, forall_eq_or_imp, forall_eq] at h
  rcases hz with rfl | rfl | rfl | rfl | rfl | rfl | rfl | rfl <;> omega
theorem aw_okN : okN awP := by
  unfold awP seqP sumP
  simp [okN, okN.okL]
theorem aw_size : sizeP awP ≤ 1000 := by
  unfold awP seqP sumP
  simp [sizeP, sizeP.sizeL]

/-- Make of that policy, in a state of one part. -/
theorem aw_make (n : Nat) (q : P8) (hq : Q8 q) (l : List P8) (hl : mkP [n] awP q = some l) (x : Nd) (W : World) (hp : PolAt All W awP x) :
    Calls Try.prog 9 #[nv x, .slice (some ⟨W.heap.size, 0, none⟩) 1 1, q.v] (W.alloc (.cells #[.int .u16 (n : Int)] 24)) fun e w' => ∃ v, e = .returned (.tuple #[v, .int .i64 0]) ∧ Below (W.alloc (.cells #[.int .u16 (n : Int)] 24)).heap.size (W.alloc (.cells #[.int .u16 (n : Int)] 24)) w' ∧ Pv w' v l := by
  refine (make_any (P := All) [n] (.slice (some ⟨W.heap.size, 0, none⟩) 1 1) (by simp) awP x q (W.alloc (.cells #[.int .u16 (n : Int)] 24)) aw_size aw_okN hq (hp.below ((Below.refl _ W).alloc (Nat.le_refl _) _)) (st_one W n) (fun _ => .inl (aw_slim [n]))).mono ?_
  rintro e w' ⟨v, z, rfl, hb, h | h | h⟩
  · rw [aw_ok] at h; exact absurd h.1 (by decide)
  · rw [hl] at h; exact absurd h.2.1 (by simp)
  · obtain ⟨-, l', h1, rfl, h3⟩ := h
    rw [hl] at h1
    injection h1 with h1
    subst h1
    exact ⟨v, rfl, hb, h3⟩
theorem aw_let (q : P8) (hq : Q8 q) (a b : P8) (hl : mkP [5] awP q = some [a, b]) (x : Nd) (W : World) (hp : PolAt All W awP x) :
    Calls Try.prog 12 #[nv x, .slice (some ⟨W.heap.size, 0, none⟩) 1 1, q.v] (W.alloc (.cells #[.int .u16 ((5 : Nat) : Int)] 24)) fun e w' => e = .returned (.bool true) ∧ Below (W.alloc (.cells #[.int .u16 ((5 : Nat) : Int)] 24)).heap.size (W.alloc (.cells #[.int .u16 ((5 : Nat) : Int)] 24)) w' := by
  refine (letsP_any (P := All) [5] (.slice (some ⟨W.heap.size, 0, none⟩) 1 1) (by simp) awP x q (W.alloc (.cells #[.int .u16 ((5 : Nat) : Int)] 24)) aw_size aw_okN hq (hp.below ((Below.refl _ W).alloc (Nat.le_refl _) _)) (st_one W 5) (fun _ => .inl (aw_slim [5]))).mono ?_
  rintro e w' ⟨b', rfl, hb, hi⟩
  exact ⟨by rw [hi.2 ⟨aw_ok, _, hl, by simp⟩], hb⟩

set_option maxRecDepth 100000 in
set_option maxHeartbeats 8000000 in
theorem awake_any (w : World) : Calls Try.prog 7 #[] w fun e w' => e = .returned (.bool true) ∧ Below w.heap.size w w' := by
  have hp1 := lit2 (w := w) (a := .mk 5 1 1 []) (b := .mk 5 1 2 []) (x := ⟨5, 1, 1, .slice none 0 0⟩) (y := ⟨5, 1, 2, .slice none 0 0⟩) 7 (PolAt.leaf _ _ _ _ _) (PolAt.leaf _ _ _ _ _)
  have hb0 : Below w.heap.size w (w.alloc (.cells #[.int .i64 5, .int .i64 1, .int .u16 1, .slice none 0 0, .int .i64 5, .int .i64 1, .int .u16 2, .slice none 0 0] 30)) := (Below.refl _ w).alloc (Nat.le_refl _) _
  have HP1 := hide hp1
  have HB0 := hide hb0
  clear hp1 hb0
  go_enter Try.func7, Try.ntmps7
  go_wp2_with fail
  refine (sumF _ _ _ _).mono ?_
  rintro e w1 ⟨rfl, hb1⟩
  have hp2 := lit2 (w := w1) (b := .mk 3 0 5 []) (y := ⟨3, 0, 5, .slice none 0 0⟩) 6 (HP1.out.below hb1) (PolAt.leaf _ _ _ _ _)
  have HP2 := hide hp2
  have HB1 : Hid (Below w.heap.size w w1) := HB0.out.trans (hb1.mono HB0.out.size)
  clear hb1 hp2 HP1 HB0
  go_wp2_with fail
  refine (seqF _ _ _ _).mono ?_
  rintro e w2 ⟨rfl, hb2⟩
  have hp3 : PolAt All w2 awP ⟨6, 0, 0, .slice (some ⟨w1.heap.size, 0, none⟩) 2 2⟩ := HP2.out.below hb2
  have HB2 : Hid (Below w.heap.size w w2) := (HB1.out.alloc HB1.out.size _).trans (hb2.mono (HB1.out.alloc HB1.out.size _).size)
  have HP3 := hide hp3
  clear hb2 hp3 HP2 HB1
  generalize w1.heap.size = g1 at *
  have hbA : Below w2.heap.size w2 (w2.alloc (pobj ⟨6, 0, 0, .slice (some ⟨g1, 0, none⟩) 2 2⟩)) := (Below.refl _ _).alloc (Nat.le_refl _) _
  have hsA : (w2.alloc (pobj ⟨6, 0, 0, .slice (some ⟨g1, 0, none⟩) 2 2⟩)).heap.size = w2.heap.size + 1 := by simp
  have cM := aw_make 5 ⟨9, 0, 0, 0, 0, 0, 0, 0⟩ (q8_of 9 0 0 0 0 0 0 0 (by decide)) _ aw_five _ _ (HP3.out.below hbA)
  rw [hsA] at cM
  have hrA : ((w2.alloc (pobj ⟨6, 0, 0, .slice (some ⟨g1, 0, none⟩) 2 2⟩)).alloc (.cells #[.int .u16 ((5 : Nat) : Int)] 24)).heap[w2.heap.size]? = some (pobj ⟨6, 0, 0, .slice (some ⟨g1, 0, none⟩) 2 2⟩) := (Below.heap_alloc _ _ _ (by simp)).trans (heap_alloc_new _ _)
  have HRA := hide hrA
  have HPA : Hid (PolAt All ((w2.alloc (pobj ⟨6, 0, 0, .slice (some ⟨g1, 0, none⟩) 2 2⟩)).alloc (.cells #[.int .u16 ((5 : Nat) : Int)] 24)) awP ⟨6, 0, 0, .slice (some ⟨g1, 0, none⟩) 2 2⟩) := (HP3.out.below hbA).below ((Below.refl _ _).alloc (Nat.le_refl _) _)
  have HBA : Hid (Below w.heap.size w ((w2.alloc (pobj ⟨6, 0, 0, .slice (some ⟨g1, 0, none⟩) 2 2⟩)).alloc (.cells #[.int .u16 ((5 : Nat) : Int)] 24))) := (HB2.out.alloc HB2.out.size _).alloc (by have := HB2.out.size; simp; omega) _
  clear hbA hsA hrA HP3 HB2
  go_wp2_with fail
  refine cM.mono ?_
  rintro e w3 ⟨v3, rfl, hb3, hv3⟩
  have hr3 := (hb3.block _ (heap_lt HRA.out)).trans HRA.out
  have HP4 : Hid (PolAt All w3 awP ⟨6, 0, 0, .slice (some ⟨g1, 0, none⟩) 2 2⟩) := HPA.out.below hb3
  have HB3 : Hid (Below w.heap.size w w3) := HBA.out.trans (hb3.mono HBA.out.size)
  have HR3 := hide hr3
  have HV3 := hide hv3
  have cM2 := aw_make 6 ⟨9, 0, 0, 0, 0, 0, 0, 0⟩ (q8_of 9 0 0 0 0 0 0 0 (by decide)) _ aw_six _ w3 HP4.out
  obtain ⟨q0, q1, q2, q3⟩ := row4 hr3
  generalize w2.heap.size = g2 at *
  clear hb3 hv3 hr3 HPA HBA HRA cM
  go_wp2_with fail
  refine cM2.mono ?_
  rintro e w4 ⟨v4, rfl, hb4, hv4⟩
  have hbb : Below w3.heap.size w3 w4 := ((Below.refl _ w3).alloc (Nat.le_refl _) _).trans (hb4.mono (by simp))
  have hr4 := (hbb.block _ (heap_lt HR3.out)).trans HR3.out
  have HP5 : Hid (PolAt All w4 awP ⟨6, 0, 0, .slice (some ⟨g1, 0, none⟩) 2 2⟩) := HP4.out.below hbb
  have HB4 : Hid (Below w.heap.size w w4) := HB3.out.trans (hbb.mono HB3.out.size)
  have hv34 := HV3.out.below hbb
  obtain rfl : v4 = .slice none 0 0 := by
    rcases hv4 with ⟨-, h⟩ | ⟨h, -⟩
    · exact h
    · exact absurd rfl h
  obtain ⟨a3, c3, rfl, h3⟩ := hv34.shape
  obtain ⟨b3, off3, rfl, -, -, hat3⟩ := h3 1 (by decide)
  obtain ⟨z0, z1, z2, z3, z4, z5, z6, z7⟩ := hat3
  simp only [List.getElem_cons_succ, List.getElem_cons_zero, Nat.one_mul] at z0 z1 z2 z3 z4 z5 z6 z7
  have eqq := eqlP ⟨9, 2, 0, 0, 0, 0, 0, 0⟩
  unfold P8.v at eqq
  dsimp only at eqq
  obtain ⟨r0, r1, r2, r3⟩ := row4 hr4
  have cL := aw_let ⟨0, 0, 0, 0, 0, 0, 0, 0⟩ (q8_of 0 0 0 0 0 0 0 0 (by decide)) _ _ aw_lets _ w4 HP5.out
  clear hb4 hv4 hbb hr4 hv34 h3 HV3 HR3 HP4 HB3 cM2 q0 q1 q2 q3
  go_wp2_with fail
  refine cL.mono ?_
  rintro e w5 ⟨rfl, hb5⟩
  have HB5 : Hid (Below w.heap.size w w5) := HB4.out.trans (((Below.refl _ w4).alloc (Nat.le_refl _) _).trans (hb5.mono (by simp)) |>.mono HB4.out.size)
  clear hb5 cL
  go_wp2
  go_ret
  exact ⟨rfl, HB5.out⟩
end Go.Proofs.Ytipiepcbgjceaaa
