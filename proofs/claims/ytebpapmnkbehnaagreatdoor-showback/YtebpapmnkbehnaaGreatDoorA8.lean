/- What strings.ContainsRune answers of the short signs, at every code point. -/
import Derived.Test.YtebpapmnkbehnaaGreatDoorK11
import Derived.Laws.Runes
import Derived.WalkMore
set_option linter.unusedVariables false
set_option linter.unusedSimpArgs false
namespace Go.Proofs.YtebpapmnkbehnaaGreatDoor
open Go.RowKit Go.Joins Go.Lib

/-- The signs of one byte. -/
def sgB : List UInt8 := [40, 41, 59, 43, 33, 61, 64, 46, 38, 58, 45]
theorem sgB_small : ∀ b ∈ sgB, b.toNat < 128 := by decide
theorem sg_fin : ∀ r : Fin 128, decide (0 ≤ Lib.indexByte sgB ((r.val : Int)).toNat.toUInt8) = sg r.val := by decide +kernel
theorem sg_big (r : Nat) (h : 128 ≤ r) : sg r = false := by
  by_cases hs : sg r = true
  · have := (sg_in hs).1; omega
  · simpa using hs
theorem index_big : ∀ (l : List UInt8) (c : UInt8), (∀ b ∈ l, b.toNat < 128) → 128 ≤ c.toNat → Lib.indexByte l c = -1
  | [], _, _, _ => rfl
  | b :: t, c, h, hc => by
    have ih := index_big t c (fun x hx => h x (by simp [hx])) hc
    have hb := h b (by simp)
    unfold Lib.indexByte
    rw [if_neg (by simp only [beq_iff_eq]; rintro rfl; omega), ih]
    rfl

theorem dec_sg : ∀ k : Fin 11, (Utf8.decode ⟨sgB.toArray⟩ k.val).2 = 1 ∧ (Utf8.decode ⟨sgB.toArray⟩ k.val).1 < 128 := by decide +kernel

set_option maxRecDepth 100000 in
set_option maxHeartbeats 1000000 in
/-- U+FFFD is none of them. -/
theorem index_err (w : World) : Calls Tryz.prog 103 #[str sgB, .int .i32 65533] w fun e w' => e = .returned (.int .i64 (-1)) ∧ Below w.heap.size w w' := by
  obtain ⟨s, hs⟩ : ∃ s : ByteArray, ⟨sgB.toArray⟩ = s := ⟨_, rfl⟩
  have hsz : s.size = 11 := by rw [← hs]; rfl
  have hdec : ∀ k : Nat, k < 11 → (Utf8.decode s k).2 = 1 ∧ (Utf8.decode s k).1 < 128 := by
    subst hs
    intro k hk
    have h := dec_sg ⟨k, hk⟩
    exact h
  unfold str
  rw [hs]
  go_enter Tryz.func103, Tryz.ntmps103
  go_wp2
  go_loopw [] (fun wr => ∃ k : Nat, k ≤ 11 ∧ wr.heap[w.heap.size]? = some (.stringIter s k) ∧ Hid (Below w.heap.size w wr)) (fun wr => s.size - wr.iterPos w.heap.size)
  case atStart => exact ⟨0, Nat.zero_le _, World.iter_heap w s 0, (Below.refl _ w).alloc (Nat.le_refl _) _⟩
  case round =>
    obtain ⟨k, hk, hit, hbw⟩ := hrel
    by_cases hlt : k < 11
    · obtain ⟨h1, h2⟩ := hdec k hlt
      have hp : k < s.size := by rw [hsz]; exact hlt
      have hnx : ∀ ty, (Instr.next (.pointer (some ⟨w.heap.size, 0, none⟩)) true ty).run Tryz.prog wr = _ := fun ty => Lib.run_next_any_at wr w.heap.size s k ty hit hp
      rw [h1] at hnx
      have hit2 := Lib.iterAt_heap wr w.heap.size s k (k + 1) hit
      have hbw2 := Lib.below_iterAt hbw.out (k := w.heap.size) (Nat.le_refl _) s (k + 1)
      obtain ⟨W, hWd⟩ : ∃ W, wr.iterAt w.heap.size s (k + 1) = W := ⟨_, rfl⟩
      rw [hWd] at hnx hit2 hbw2
      generalize (Utf8.decode s k).1 = r at *
      have d : ((r : Int) == (65533 : Int)) = false := by simp; omega
      clear hdec h1 hs h2
      go_wp2
      go_roundw
      case rel => exact ⟨k + 1, by omega, hit2, hbw2⟩
      case measure =>
        simp only [World.iterPos, hit2, hit]
        omega
    · have hp : ¬ k < s.size := by rw [hsz]; omega
      have hnx : ∀ ty, (Instr.next (.pointer (some ⟨w.heap.size, 0, none⟩)) true ty).run Tryz.prog wr = _ := fun ty => Lib.run_next_end_at wr w.heap.size s k ty hit hp
      clear hdec hs
      go_wp2
      go_ret
      exact ⟨rfl, hbw.out⟩

set_option maxRecDepth 100000 in
set_option maxHeartbeats 1000000 in
/-- Nor is any other code point beyond ASCII. -/
theorem index_big_rune (r : Nat) (h1 : 128 ≤ r) (h2 : r ≤ 1114111) (hne : r ≠ 65533) (w : World) : Calls Tryz.prog 103 #[str sgB, .int .i32 (r : Int)] w fun e w' => e = .returned (.int .i64 (-1)) ∧ Below w.heap.size w w' := by
  obtain ⟨s, hs⟩ : ∃ s : ByteArray, ⟨sgB.toArray⟩ = s := ⟨_, rfl⟩
  have hsz : s.size = 11 := by rw [← hs]; rfl
  have hsm : ∀ b ∈ s.data.toList, b.toNat < 128 := by rw [← hs]; exact sgB_small
  unfold str
  rw [hs]
  clear hs
  have d0 : decide ((0 : Int) ≤ (r : Int)) = true := by simp
  have d1 : decide ((r : Int) < 128) = false := by simp; omega
  have d2 : ((r : Int) == (65533 : Int)) = false := by simp; omega
  have cV := Tryz.utf8_ValidRune (r : Int)
  cases hv : Lib.validRune (r : Int) with
  | false =>
    rw [hv] at cV
    clear hv
    go_enter Tryz.func103, Tryz.ntmps103
    go_wp2_with fail
    refine (cV _).mono ?_
    rintro e w1 ⟨rfl, hw1⟩
    subst w1
    go_wp2
    go_ret
    exact ⟨rfl, Below.refl _ _⟩
  | true =>
    rw [hv] at cV
    have hval : Utf8.valid (r : Int) = true := by rw [validRune_eq]; exact hv
    obtain ⟨e1, e2, e3⟩ := encode_facts (r : Int) hval (by omega)
    go_enter Tryz.func103, Tryz.ntmps103
    go_wp2_with fail
    refine (cV _).mono ?_
    rintro e w1 ⟨rfl, hw1⟩
    subst w1
    clear cV hv hval
    have hcv : ∀ W, (convert 21 9 (.int .i32 (r : Int))).run Tryz.prog W = .ok (.string (Utf8.encode (r : Int))) W := fun W => run_convert_int_string W 21 9 .i32 (r : Int) (by rw [Tryz.underlying21]; rfl) Tryz.underlying9
    generalize Utf8.encode (r : Int) = E at *
    obtain ⟨n, hn⟩ : ∃ n, E.size = n + 1 := ⟨E.size - 1, by omega⟩
    have hn1 : 1 ≤ n := by omega
    have hn3 : n ≤ 3 := by omega
    have hlt : n < E.size := by omega
    have hE3 : 128 ≤ (E[n]'hlt).toNat := by
      have h := e3 (by omega)
      have e : E.size - 1 = n := by omega
      simpa only [e] using h
    clear e1 e2 e3
    go_wp2_with fail
    go_step3
    go_wp2_with fail
    go_loopw [9] (fun i wr => i = .int .i64 (n : Int) ∧ Hid (wr = w)) (fun i _ => 0)
    case atStart => exact ⟨rfl, rfl⟩
    case round =>
      obtain ⟨rfl, HW⟩ := hrel
      obtain ⟨rfl⟩ := HW.out
      have hns : n < s.size := by omega
      have hb8 : (s[n]'hns).toNat < 128 := hsm _ (by simp [ByteArray.getElem_eq_getElem_data])
      have dne : (((s[n]'hns).toNat : Int) != ((E[n]'hlt).toNat : Int)) = true := by simp; omega
      have cI := Tryz.strings_IndexByte (s.extract (n + 1) s.size) ((E[n]'hlt).toNat : Int)
      have hix : Lib.indexByte (s.extract (n + 1) s.size).data.toList ((E[n]'hlt).toNat : Int).toNat.toUInt8 = -1 := by
        refine index_big _ _ (fun b hb => hsm b (mem_extract hb)) ?_
        simpa using hE3
      rw [hix] at cI
      clear hix hsm hb8 hE3
      have HN : Hid (E.size = n + 1) := hn
      clear hn
      go_wp2_with fail
      go_step3
      go_wp2_with fail
      go_quiet (fail)
      go_wp2_with fail
      have hle : n + 1 ≤ s.size := by omega
      obtain ⟨m, hm⟩ : ∃ m, n + 1 = m := ⟨_, rfl⟩
      have hsl : ∀ W, (Instr.slice 9 (.string s) (some (.int .i64 (m : Int))) none none).run Tryz.prog W = .ok (.string (s.extract (n + 1) s.size)) W := fun W => by
        rw [run_slice_string_from_if W 9 s .i64 _ Tryz.underlying9, if_pos (by omega), hm]
        rfl
      have hw1 : IntKind.i64.wrap ((n : Int) + 1) = (m : Int) := by rw [wr64 _ (by omega) (by omega)]; omega
      generalize s.extract (n + 1) s.size = X at *
      have HM : Hid (n + 1 = m) := hm
      clear hm
      have HBq : Hid (Below w.heap.size w (w.drewN nq)) := below_drewN (Below.refl _ _) _
      generalize w.drewN nq = W1 at *
      go_quiet ((go_at_call 123; exact Calls.quiet_of_same (cI _)))
      go_wp2
      simp (config := { zetaDelta := true }) only [Exit.noGoto, Exit.inBlock, Exit.then]
      go_ret
      exact ⟨rfl, below_drewN HBq.out _⟩

set_option maxRecDepth 100000 in
set_option maxHeartbeats 1000000 in
theorem contains_any (r : Nat) (hr : r ≤ 1114111) (w : World) : Calls Tryz.prog 82 #[str sgB, .int .i32 (r : Int)] w fun e w' => e = .returned (.bool (sg r)) ∧ Below w.heap.size w w' := by
  by_cases h : r < 128
  · refine (Tryz.strings_ContainsRune_ascii ⟨sgB.toArray⟩ (r : Int) w (by omega) (by omega)).mono ?_
    rintro e w1 ⟨rfl, rfl⟩
    exact ⟨bool_ret (sg_fin ⟨r, h⟩), Below.refl _ _⟩
  · have cI : Calls Tryz.prog 103 #[str sgB, .int .i32 (r : Int)] w fun e w' => e = .returned (.int .i64 (-1)) ∧ Below w.heap.size w w' := by
      by_cases h2 : r = 65533
      · subst h2; exact index_err w
      · exact index_big_rune r (by omega) hr h2 w
    rw [sg_big r (by omega)]
    go_enter Tryz.func82, Tryz.ntmps82
    go_wp2_with fail
    refine cI.mono ?_
    rintro e w1 ⟨rfl, hb1⟩
    go_wp2
    go_ret
    exact ⟨rfl, hb1⟩
end Go.Proofs.YtebpapmnkbehnaaGreatDoor
/- What lex.sign and lex.first answer of a row of code points; texts of up to 100000 bytes. -/
set_option linter.unusedVariables false
set_option linter.unusedSimpArgs false
namespace Go.Proofs.YtebpapmnkbehnaaGreatDoor
open Go.RowKit Go.Joins Go.Lib

/-- A code point whose first byte is ASCII is that byte. -/
theorem good_first {x : R} (h : good x) {b : UInt8} {u : List UInt8} (hx : x.2 = b :: u) (hb : b.toNat < 128) : x.1 = b.toNat ∧ u = [] := by
  have h0 := h.2.2 []
  rw [List.append_nil, hx, decodeL_ascii b u hb] at h0
  simp only [Prod.mk.injEq, List.length_cons] at h0
  exact ⟨h0.1.symm, List.eq_nil_of_length_eq_zero (by omega)⟩
theorem pre1 {x : R} {t : List R} (hg : Good (x :: t)) (c : UInt8) (hc : c.toNat < 128) (d : List UInt8) : Lib.hasPrefix (fl (x :: t)) (c :: d) = (decide (x.1 = c.toNat) && Lib.hasPrefix (fl t) d) := by
  have hx := hg.head
  obtain ⟨b, u, hbu⟩ := List.exists_cons_of_ne_nil (List.length_pos_iff.1 hx.1)
  rw [fl_cons, hbu]
  unfold Lib.hasPrefix
  rw [List.cons_append, List.isPrefixOf_cons_cons]
  by_cases hcb : c = b
  · subst hcb
    obtain ⟨h1, h2⟩ := good_first hx hbu hc
    subst h2
    rw [decide_eq_true h1, List.nil_append, beq_self_eq_true]
  · have hne : x.1 ≠ c.toNat := by
      intro e
      have hs := good_small hx (by omega)
      rw [hbu, e] at hs
      have : b = c.toNat.toUInt8 := (List.cons.inj hs).1
      apply hcb
      rw [this]; simp
    rw [decide_eq_false hne, Bool.false_and, beq_eq_false_iff_ne.2 hcb, Bool.false_and]
theorem pre2 {x : R} {t : List R} (hg : Good (x :: t)) (c d : UInt8) (hc : c.toNat < 128) (hd : d.toNat < 128) (h0 : d.toNat ≠ 0) : Lib.hasPrefix (fl (x :: t)) [c, d] = decide (x.1 = c.toNat ∧ Proofs.YtebpapmnkbehnaaGreatDoor.hd t = d.toNat) := by
  rw [pre1 hg c hc]
  cases t with
  | nil =>
    have e1 : Lib.hasPrefix (fl []) [d] = false := rfl
    rw [e1, Bool.and_false]
    symm
    rw [decide_eq_false_iff_not]
    rintro ⟨_, h⟩
    exact h0 h.symm
  | cons y u =>
    rw [pre1 hg.tail d hd]
    have e1 : Lib.hasPrefix (fl u) [] = true := by cases fl u <;> rfl
    rw [e1, Bool.and_true]
    show _ = decide (x.1 = c.toNat ∧ y.1 = d.toNat)
    rw [Bool.decide_and]
set_option maxRecDepth 100000 in
set_option maxHeartbeats 1000000 in
/-- The road to a sign's token: by the three tests. -/
theorem sign_walk (F : List UInt8) (r : Nat) (V : Value) (b1 b2 b3 : Bool) (w : World)
    (cH1 : ∀ w, Calls Tryz.prog 81 #[str F, .string ⟨#[58, 61]⟩] w fun e w' => e = .returned (.bool b1) ∧ w' = w)
    (cH2 : ∀ w, Calls Tryz.prog 81 #[str F, .string ⟨#[61, 62]⟩] w fun e w' => e = .returned (.bool b2) ∧ w' = w)
    (cH3 : ∀ w, Calls Tryz.prog 82 #[.string ⟨sgB.toArray⟩, .int .i32 (r : Int)] w fun e w' => e = .returned (.bool b3) ∧ Below w.heap.size w w')
    (A : List UInt8) (hO : ∀ n : Int, n = A.length → ∀ w, Calls Tryz.prog 79 #[str F, .int .i64 n] w fun e w' => e = .returned (str A) ∧ Below w.heap.size w w')
    (h1 : b1 = true → A.length = 2 ∧ V = .tuple #[tv ⟨3, A, 0⟩, .int .i64 2, .int .i64 0])
    (h2 : b1 = false → b2 = true → A.length = 2 ∧ V = .tuple #[tv ⟨3, A, 0⟩, .int .i64 2, .int .i64 0])
    (h3 : b1 = false → b2 = false → b3 = true → A.length = 1 ∧ V = .tuple #[tv ⟨3, A, 0⟩, .int .i64 1, .int .i64 0])
    (h4 : b1 = false → b2 = false → b3 = false → V = .tuple #[tv tkEnd, .int .i64 0, .int .i64 10]) :
    Calls Tryz.prog 63 #[str F, .int .i32 (r : Int)] w fun e w' => e = .returned V ∧ Below w.heap.size w w' := by
  have hA0 : (w.alloc (.cells #[.int .i64 0, .string ⟨#[]⟩, .int .u16 0] 89)).heap[w.heap.size]? = some (.cells #[.int .i64 0, .string ⟨#[]⟩, .int .u16 0] 89) := heap_alloc_new w _
  have HB0 : Hid (Below w.heap.size w (w.alloc (.cells #[.int .i64 0, .string ⟨#[]⟩, .int .u16 0] 89))) := (Below.refl _ w).alloc (Nat.le_refl _) _
  have hA0 := heap_alloc_new w (.cells #[.int .i64 0, .string ⟨#[]⟩, .int .u16 0] 89)
  cases b1 with
  | true =>
    obtain ⟨hl, HV⟩ := h1 rfl
    have HV : Hid (V = .tuple #[tv ⟨3, A, 0⟩, .int .i64 2, .int .i64 0]) := HV
    have cO := hO 2 (by rw [hl]; rfl)
    clear h1 h2 h3 h4 hO hl cH2 cH3
    go_enter Tryz.func63, Tryz.ntmps63
    go_wp2_with fail
    refine (cH1 _).mono ?_
    rintro e w1 ⟨rfl, hw1⟩
    subst w1
    go_wp2_with fail
    refine (cO _).mono ?_
    rintro e w3 ⟨rfl, hb3⟩
    have hrow3 := (hb3.block _ (heap_lt hA0)).trans hA0
    have HB3 : Hid (Below w.heap.size w w3) := HB0.out.trans (hb3.mono HB0.out.size)
    clear hA0 hb3 HB0
    obtain ⟨⟨q0, q1, q2⟩, hsz2⟩ := row3 hrow3
    obtain ⟨f0, f1, f2⟩ := frz3 hrow3
    go_wp2
    refine bodyPost_ret (v := .tuple #[tv ⟨3, A, 0⟩, .int .i64 2, .int .i64 0]) ?_ rfl ⟨by rw [HV.out], below3 HB3.out (Nat.le_refl _) _ _ _⟩
    obtain ⟨⟨g0, g1, g2⟩, _⟩ := row3 (set3 (.int .i64 3) (str A) (.int .u16 0) hrow3)
    simp [results, Tryz.results63, go_sem, g0, g1, g2]
  | false =>
    cases b2 with
    | true =>
      obtain ⟨hl, HV⟩ := h2 rfl rfl
      have HV : Hid (V = .tuple #[tv ⟨3, A, 0⟩, .int .i64 2, .int .i64 0]) := HV
      have cO := hO 2 (by rw [hl]; rfl)
      clear h1 h2 h3 h4 hO hl cH3
      go_enter Tryz.func63, Tryz.ntmps63
      go_wp2_with fail
      refine (cH1 _).mono ?_
      rintro e w1 ⟨rfl, hw1⟩
      subst w1
      go_wp2_with fail
      refine (cH2 _).mono ?_
      rintro e w1 ⟨rfl, hw1⟩
      subst w1
      go_wp2_with fail
      refine (cO _).mono ?_
      rintro e w3 ⟨rfl, hb3⟩
      have hrow3 := (hb3.block _ (heap_lt hA0)).trans hA0
      have HB3 : Hid (Below w.heap.size w w3) := HB0.out.trans (hb3.mono HB0.out.size)
      clear hA0 hb3 HB0
      obtain ⟨⟨q0, q1, q2⟩, hsz2⟩ := row3 hrow3
      obtain ⟨f0, f1, f2⟩ := frz3 hrow3
      go_wp2
      refine bodyPost_ret (v := .tuple #[tv ⟨3, A, 0⟩, .int .i64 2, .int .i64 0]) ?_ rfl ⟨by rw [HV.out], below3 HB3.out (Nat.le_refl _) _ _ _⟩
      obtain ⟨⟨g0, g1, g2⟩, _⟩ := row3 (set3 (.int .i64 3) (str A) (.int .u16 0) hrow3)
      simp [results, Tryz.results63, go_sem, g0, g1, g2]
    | false =>
      cases b3 with
      | true =>
        obtain ⟨hl, HV⟩ := h3 rfl rfl rfl
        have HV : Hid (V = .tuple #[tv ⟨3, A, 0⟩, .int .i64 1, .int .i64 0]) := HV
        have cO := hO 1 (by rw [hl]; rfl)
        clear h1 h2 h3 h4 hO hl
        go_enter Tryz.func63, Tryz.ntmps63
        go_wp2_with fail
        refine (cH1 _).mono ?_
        rintro e w1 ⟨rfl, hw1⟩
        subst w1
        go_wp2_with fail
        refine (cH2 _).mono ?_
        rintro e w1 ⟨rfl, hw1⟩
        subst w1
        go_wp2_with fail
        refine (cH3 _).mono ?_
        rintro e w2 ⟨rfl, hb2⟩
        have hrow2 := (hb2.block _ (heap_lt hA0)).trans hA0
        have HB2 : Hid (Below w.heap.size w w2) := HB0.out.trans (hb2.mono HB0.out.size)
        clear hA0 hb2 HB0
        go_wp2_with fail
        refine (cO _).mono ?_
        rintro e w3 ⟨rfl, hb3⟩
        have hrow3 := (hb3.block _ (heap_lt hrow2)).trans hrow2
        have HB3 : Hid (Below w.heap.size w w3) := HB2.out.trans (hb3.mono HB2.out.size)
        clear hrow2 hb3 HB2
        obtain ⟨⟨q0, q1, q2⟩, hsz2⟩ := row3 hrow3
        obtain ⟨f0, f1, f2⟩ := frz3 hrow3
        go_wp2
        refine bodyPost_ret (v := .tuple #[tv ⟨3, A, 0⟩, .int .i64 1, .int .i64 0]) ?_ rfl ⟨by rw [HV.out], below3 HB3.out (Nat.le_refl _) _ _ _⟩
        obtain ⟨⟨g0, g1, g2⟩, _⟩ := row3 (set3 (.int .i64 3) (str A) (.int .u16 0) hrow3)
        simp [results, Tryz.results63, go_sem, g0, g1, g2]
      | false =>
        have HV : Hid (V = .tuple #[tv tkEnd, .int .i64 0, .int .i64 10]) := h4 rfl rfl rfl
        clear h1 h2 h3 h4 hO
        go_enter Tryz.func63, Tryz.ntmps63
        go_wp2_with fail
        refine (cH1 _).mono ?_
        rintro e w1 ⟨rfl, hw1⟩
        subst w1
        go_wp2_with fail
        refine (cH2 _).mono ?_
        rintro e w1 ⟨rfl, hw1⟩
        subst w1
        go_wp2_with fail
        refine (cH3 _).mono ?_
        rintro e w2 ⟨rfl, hb2⟩
        have hrow2 := (hb2.block _ (heap_lt hA0)).trans hA0
        have HB2 : Hid (Below w.heap.size w w2) := HB0.out.trans (hb2.mono HB0.out.size)
        clear hA0 hb2 HB0
        obtain ⟨⟨q0, q1, q2⟩, hsz2⟩ := row3 hrow2
        obtain ⟨f0, f1, f2⟩ := frz3 hrow2
        go_wp2
        refine bodyPost_ret (v := .tuple #[tv tkEnd, .int .i64 0, .int .i64 10]) ?_ rfl ⟨by rw [HV.out], below3 HB2.out (Nat.le_refl _) _ _ _⟩
        obtain ⟨⟨g0, g1, g2⟩, _⟩ := row3 (set3 (.int .i64 0) (.string ⟨#[]⟩) (.int .u16 0) hrow2)
        simp [results, Tryz.results63, go_sem, g0, g1, g2, tkEnd]
end Go.Proofs.YtebpapmnkbehnaaGreatDoor
