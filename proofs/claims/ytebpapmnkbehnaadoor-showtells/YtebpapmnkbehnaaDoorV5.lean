/- What show's ruleText answers: a rule's line; rules that are well formed, numbers of 16 bits. -/
import Derived.Test.YtebpapmnkbehnaaDoorV4
import Derived.Test.YtebpapmnkbehnaaDoorK9
set_option linter.unusedVariables false
set_option linter.unusedSimpArgs false
namespace Go.Proofs.YtebpapmnkbehnaaDoor
open Go.RowKit Go.Joins Go.Lib Go.Sort

theorem rise_len : ∀ (l : List Pr) (a e : Int), riseB a e l = true → l = [] ∨ (l.length : Int) ≤ e - a
  | [], a, e, h => .inl rfl
  | c :: t, a, e, h => by
    unfold riseB at h
    simp only [Bool.and_eq_true, decide_eq_true_eq] at h
    right
    rcases rise_len t _ _ h.2 with rfl | h2
    · simp; omega
    · simp only [List.length_cons]; omega
theorem rise_le {l : List Pr} {e : Int} (h : riseB 0 e l = true) (he : e ≤ 9) : l.length ≤ 9 := by
  rcases rise_len l 0 e h with rfl | h2
  · simp
  · omega
theorem port_len {l : List Pr} (h : portB l = true) : 2 ≤ l.length := by
  match l with
  | [] => cases h
  | [a] => cases h
  | a :: b :: t => simp
theorem map_take {α : Type} (f : Pr → α) (l : List Pr) (k : Nat) (hk : k < l.length) : (l.take (k + 1)).map f = (l.take k).map f ++ [f l[k]] := by
  rw [List.take_add_one, List.getElem?_eq_getElem hk, List.map_append]
  rfl
theorem when_text (c : Pr) (w : World) (h : Es w) (h0 : 0 ≤ c.1) (h8 : c.1 < 8) (hn : c.2 ≤ 65535) :
    Calls Tryd.prog 27 #[.int .i64 c.1, .string ⟨[61].toArray⟩, .int .u16 (c.2 : Int)] w fun e w' => e = .returned (.string ⟨(whenT c).toArray⟩) ∧ Below w.heap.size w w' := field_text c.1 [61] c.2 w h h0 h8 hn (by decide)
theorem guard_text (c : Pr) (w : World) (h : Es w) (h0 : 0 ≤ c.1) (h8 : c.1 < 9) (hn : c.2 ≤ 65535) :
    Calls Tryd.prog 28 #[.int .i64 c.1, .string ⟨[61].toArray⟩, .int .u16 (c.2 : Int)] w fun e w' => e = .returned (.string ⟨(guardT c).toArray⟩) ∧ Below w.heap.size w w' := by
  have := part_text c.1.toNat [61] c.2 w h (by omega) hn (by decide)
  rw [Int.toNat_of_nonneg h0] at this
  exact this
theorem then_text (c : Pr) (w : World) (h : Es w) (h0 : 0 ≤ c.1) (h8 : c.1 < 9) (hn : c.2 ≤ 65535) :
    Calls Tryd.prog 28 #[.int .i64 c.1, .string ⟨[58, 61].toArray⟩, .int .u16 (c.2 : Int)] w fun e w' => e = .returned (.string ⟨(thenT c).toArray⟩) ∧ Below w.heap.size w w' := by
  have := part_text c.1.toNat [58, 61] c.2 w h (by omega) hn (by decide)
  rw [Int.toNat_of_nonneg h0] at this
  exact this
set_option maxRecDepth 100000 in
set_option maxHeartbeats 4000000 in
theorem rule_text (parts : Int) (hpa : parts ≤ 9) (r : Rl) (hr : RlN parts r) (v1 v2 v3 : Value) (w : World) (h : RuleAt w v1 v2 v3 r) (hE : Es w) :
    Calls Tryd.prog 20 #[.agg #[v1, v2, v3]] w fun e w' => e = .returned (.string ⟨(ruleT r).toArray⟩) ∧ Below w.heap.size w w' := by
  obtain ⟨i0, hi, hz0, hz1, hz2⟩ := info_parts info9s
  obtain ⟨hr1, hr0, hr2, hr3, hr4⟩ := hr.open
  have hl0 := port_len hr0
  have hl1 := rise_le hr1 (by omega)
  have hl2 := rise_le hr2 hpa
  have hl3 := rise_le hr3 hpa
  have H1 : Hid (∀ c ∈ r.when, (0 ≤ c.1 ∧ c.1 < 8) ∧ c.2 ≤ 65535) := fun c hc => ⟨(rise_in _ _ _ hr1).1 c hc, hr.w c hc⟩
  have H2 : Hid (∀ c ∈ r.guard, (0 ≤ c.1 ∧ c.1 < parts) ∧ c.2 ≤ 65535) := fun c hc => ⟨(rise_in _ _ _ hr2).1 c hc, hr.g c hc⟩
  have H3 : Hid (∀ c ∈ r.thn, (0 ≤ c.1 ∧ c.1 < parts) ∧ c.2 ≤ 65535) := fun c hc => ⟨(rise_in _ _ _ hr3).1 c hc, hr.t c hc⟩
  obtain ⟨sa1, sc1, rfl, hc1⟩ := h.p1
  obtain ⟨sa2, sc2, rfl, hc2⟩ := h.p2
  obtain ⟨sa3, sc3, rfl, hc3⟩ := h.p3
  have HC1 : Hid _ := hc1
  have HC2 : Hid _ := hc2
  have HC3 : Hid _ := hc3
  have HE : Hid _ := hE
  have HRT : Hid (ruleT r = [111, 110, 32] ++ joinS [32, 38, 32] (r.when.map whenT ++ r.guard.map guardT) ++ [32, 61, 62, 32] ++ joinS [32, 38, 32] (r.thn.map thenT) ++ [32, 46]) := by
    show _ = _
    unfold ruleT
    simp only [List.append_assoc]
  clear hc1 hc2 hc3 hE hr1 hr2 hr3 hr h hr0
  generalize r.when = A at *
  generalize r.guard = B at *
  generalize r.thn = C at *
  obtain ⟨w1, hmk, hown0, hg0⟩ := run_make_own (P := Tryd.prog) (w := w.alloc (robj3 (.slice sa1 A.length sc1) (.slice sa2 B.length sc2) (.slice sa3 C.length sc3))) (w.heap.size + 1) 58 9 i0 (.string ⟨#[]⟩) 1 Tryd.underlying58 hi hz0 hz1 .i64 .i64 (A.length + B.length) (by rw [hz2]; omega) (by unfold maxLen; omega) (by simp)
  have HB1 : Hid (Below w.heap.size w w1) := Below.grown ((Below.refl _ w).alloc (Nat.le_refl _) _) hg0 (by simp) (fun j hj => by cases hj)
  have HR1 : Hid (w1.heap[w.heap.size]? = some (robj3 (.slice sa1 A.length sc1) (.slice sa2 B.length sc2) (.slice sa3 C.length sc3))) := (hg0.block _ (by simp) (by simp)).trans (heap_alloc_new w _)
  have hown1 : Hid (w1.ownsRow (w.heap.size + 1) 9 1 (.slice (some ⟨w.heap.size + 1, 0, none⟩) 0 (A.length + B.length)) 0 []) := by
    have := hown0
    rw [show (w.alloc (robj3 (.slice sa1 A.length sc1) (.slice sa2 B.length sc2) (.slice sa3 C.length sc3))).heap.size = w.heap.size + 1 by simp] at this
    exact this
  obtain ⟨⟨q0, q1, q2⟩, -⟩ := row3 HR1.out
  clear hown0 hg0
  rw [Int.natCast_add] at hmk
  go_enter Tryd.func20, Tryd.ntmps20
  go_wp2_with fail
  go_loopw [3, 22] (fun v i wr => ∃ k : Nat, k ≤ A.length ∧ i = .int .i64 (k : Int) ∧ Hid (Below w.heap.size w wr) ∧ Hid (wr.heap[w.heap.size]? = some (robj3 (.slice sa1 A.length sc1) (.slice sa2 B.length sc2) (.slice sa3 C.length sc3))) ∧ Hid (wr.ownsRow (w.heap.size + 1) 9 1 v k (strs ((A.take k).map whenT)))) (fun _ i _ => A.length - (intOf i).toNat)
  case atStart => exact ⟨0, Nat.zero_le _, rfl, HB1, HR1, hown1⟩
  case round =>
    clear q0 q1 q2 hmk HB1 HR1 hown1
    obtain ⟨k, hkl, rfl, HB, HR, HO⟩ := hrel
    obtain ⟨⟨q0, q1, q2⟩, -⟩ := row3 HR.out
    have hwr := HB.out.size
    have hlr := heap_lt HR.out
    by_cases hlt : k < A.length
    · obtain ⟨b, off, rfl, hb, ha⟩ := HC1.out k hlt
      obtain ⟨a0, a1⟩ := ha.same (HB.out.block b hb)
      obtain ⟨⟨hf0, hf8⟩, hn⟩ := H1.out _ (List.getElem_mem hlt)
      have hXl := whenT_len A[k] hn
      have HTk : Hid _ := map_take whenT A k hlt
      have HBa : Hid (Below w.heap.size w (wr.alloc (.cells #[.int .i64 A[k].1, .int .u16 (A[k].2 : Int)] 61))) := HB.out.alloc hwr _
      have cK := when_text A[k] _ (HE.out.below HBa.out) hf0 (by omega) hn
      generalize whenT A[k] = X at *
      generalize A[k] = c at *
      obtain ⟨cf, cn⟩ := c
      dsimp only at a0 a1 cK HBa hf0 hf8 hn
      clear ha
      go_wp2_with fail
      refine cK.mono ?_
      rintro e w2 ⟨rfl, hb2⟩
      have HB2 : Hid (Below w.heap.size w w2) := HBa.out.trans (hb2.mono HBa.out.size)
      have HR2 : Hid (w2.heap[w.heap.size]? = some (robj3 (.slice (some ⟨b, off, none⟩) A.length sc1) (.slice sa2 B.length sc2) (.slice sa3 C.length sc3))) := (hb2.block _ (by simp; omega)).trans ((Below.heap_alloc _ _ _ hlr).trans HR.out)
      have hown2 := own_below (own_below HO.out ((Below.refl _ wr).alloc (Nat.le_refl _) (.cells #[.int .i64 cf, .int .u16 (cn : Int)] 61))) hb2
      have hw2 := HB2.out.size
      have hl2' := heap_lt HR2.out
      clear hb2 cK HBa HB HR HO q0 q1 q2 a0 a1
      go_wp2_with (at_builtin; refine wpList_append_own_at _ rfl _ _ 58 rfl (w.heap.size + 1) 9 i0 (.string ⟨#[]⟩) 1 16 Tryd.underlying58 hi hz0 hz1 hz2 rfl (by decide) u3 _ _ rfl (hown2.alloc _) ⟨w2.heap.size, 0, none⟩ 1 1 [.string ⟨X.toArray⟩] rfl rfl (cell_one_new _ _ _) (fun x hx => by simp at hx; rw [hx]; rfl) (by unfold maxLen; omega) (by omega) (by simp; omega) ?_; intro v4 w4 hown4 hgrow4 hnil4 hloc4)
      have HB4 : Hid (Below w.heap.size w w4) := Below.grown (HB2.out.alloc hw2 _) hgrow4 (by simp; omega) (fun j hj => by have := (hown2.lt _ hj).1; omega)
      have HR4 : Hid (w4.heap[w.heap.size]? = some (robj3 (.slice (some ⟨b, off, none⟩) A.length sc1) (.slice sa2 B.length sc2) (.slice sa3 C.length sc3))) := (hgrow4.block _ (by simp; omega) (fun e => by have := (hown2.lt _ e.symm).1; omega)).trans ((Below.heap_alloc _ _ _ hl2').trans HR2.out)
      have HO4 : Hid (w4.ownsRow (w.heap.size + 1) 9 1 v4 (k + 1) (strs ((A.take (k + 1)).map whenT))) := by
        show World.ownsRow _ _ _ _ _ _ _
        rw [HTk.out, strs_app]
        exact hown4
      clear hown4 hgrow4 hnil4 hloc4 hown2 HB2 HR2
      go_wp2
      go_roundw
      case rel => exact ⟨k + 1, by omega, by go_num, HB4, HR4, HO4⟩
      case measure => simp [intOf]; omega
    · obtain rfl : k = A.length := by omega
      have HO1 : Hid (wr.ownsRow (w.heap.size + 1) 9 1 u3 (A.length + 0) (strs (A.map whenT ++ (B.take 0).map guardT))) := by
        show World.ownsRow _ _ _ _ _ _ _
        have := HO.out
        rw [List.take_length] at this
        rw [List.take_zero, List.map_nil, List.append_nil]
        exact this
      clear HO hlt
      go_wp2_with fail
      go_loopw [3, 38] (fun v i wr => ∃ k : Nat, k ≤ B.length ∧ i = .int .i64 (k : Int) ∧ Hid (Below w.heap.size w wr) ∧ Hid (wr.heap[w.heap.size]? = some (robj3 (.slice sa1 A.length sc1) (.slice sa2 B.length sc2) (.slice sa3 C.length sc3))) ∧ Hid (wr.ownsRow (w.heap.size + 1) 9 1 v (A.length + k) (strs (A.map whenT ++ (B.take k).map guardT)))) (fun _ i _ => B.length - (intOf i).toNat)
      case atStart => exact ⟨0, Nat.zero_le _, rfl, HB, HR, HO1⟩
      case round =>
        clear q0 q1 q2 HB HR HO1 hkl hwr hlr
        obtain ⟨k, hkl, rfl, HB, HR, HO⟩ := hrel
        obtain ⟨⟨q0, q1, q2⟩, -⟩ := row3 HR.out
        have hwr := HB.out.size
        have hlr := heap_lt HR.out
        by_cases hlt : k < B.length
        · obtain ⟨b, off, rfl, hb, ha⟩ := HC2.out k hlt
          obtain ⟨a0, a1⟩ := ha.same (HB.out.block b hb)
          obtain ⟨⟨hf0, hf8⟩, hn⟩ := H2.out _ (List.getElem_mem hlt)
          have hXl := guardT_len B[k] (by omega) hn
          have HTk : Hid _ := map_take guardT B k hlt
          have HBa : Hid (Below w.heap.size w (wr.alloc (.cells #[.int .i64 B[k].1, .int .u16 (B[k].2 : Int)] 61))) := HB.out.alloc hwr _
          have cK := guard_text B[k] _ (HE.out.below HBa.out) hf0 (by omega) hn
          generalize guardT B[k] = X at *
          generalize B[k] = c at *
          obtain ⟨cf, cn⟩ := c
          dsimp only at a0 a1 cK HBa hf0 hf8 hn
          clear ha
          go_wp2_with fail
          refine cK.mono ?_
          rintro e w2 ⟨rfl, hb2⟩
          have HB2 : Hid (Below w.heap.size w w2) := HBa.out.trans (hb2.mono HBa.out.size)
          have HR2 : Hid (w2.heap[w.heap.size]? = some (robj3 (.slice sa1 A.length sc1) (.slice (some ⟨b, off, none⟩) B.length sc2) (.slice sa3 C.length sc3))) := (hb2.block _ (by simp; omega)).trans ((Below.heap_alloc _ _ _ hlr).trans HR.out)
          have hown2 := own_below (own_below HO.out ((Below.refl _ wr).alloc (Nat.le_refl _) (.cells #[.int .i64 cf, .int .u16 (cn : Int)] 61))) hb2
          have hw2 := HB2.out.size
          have hl2' := heap_lt HR2.out
          clear hb2 cK HBa HB HR HO q0 q1 q2 a0 a1
          go_wp2_with (at_builtin; refine wpList_append_own_at _ rfl _ _ 58 rfl (w.heap.size + 1) 9 i0 (.string ⟨#[]⟩) 1 16 Tryd.underlying58 hi hz0 hz1 hz2 rfl (by decide) u3 _ _ rfl (hown2.alloc _) ⟨w2.heap.size, 0, none⟩ 1 1 [.string ⟨X.toArray⟩] rfl rfl (cell_one_new _ _ _) (fun x hx => by simp at hx; rw [hx]; rfl) (by unfold maxLen; omega) (by omega) (by simp; omega) ?_; intro v4 w4 hown4 hgrow4 hnil4 hloc4)
          have HB4 : Hid (Below w.heap.size w w4) := Below.grown (HB2.out.alloc hw2 _) hgrow4 (by simp; omega) (fun j hj => by have := (hown2.lt _ hj).1; omega)
          have HR4 : Hid (w4.heap[w.heap.size]? = some (robj3 (.slice sa1 A.length sc1) (.slice (some ⟨b, off, none⟩) B.length sc2) (.slice sa3 C.length sc3))) := (hgrow4.block _ (by simp; omega) (fun e => by have := (hown2.lt _ e.symm).1; omega)).trans ((Below.heap_alloc _ _ _ hl2').trans HR2.out)
          have HO4 : Hid (w4.ownsRow (w.heap.size + 1) 9 1 v4 (A.length + k + 1) (strs (A.map whenT ++ (B.take (k + 1)).map guardT))) := by
            show World.ownsRow _ _ _ _ _ _ _
            rw [HTk.out, ← List.append_assoc, strs_app]
            exact hown4
          clear hown4 hgrow4 hnil4 hloc4 hown2 HB2 HR2
          go_wp2
          go_roundw
          case rel => exact ⟨k + 1, by omega, by go_num, HB4, HR4, HO4⟩
          case measure => simp [intOf]; omega
        · obtain rfl : k = B.length := by omega
          have HO1 : Hid (wr.ownsRow (w.heap.size + 1) 9 1 u3 (A.length + B.length) (strs (A.map whenT ++ B.map guardT))) := by
            show World.ownsRow _ _ _ _ _ _ _
            have := HO.out
            rw [List.take_length] at this
            exact this
          clear HO hlt
          generalize wr = W2 at *
          obtain ⟨w1, hmk, hown0, hg0⟩ := run_make_own (P := Tryd.prog) (w := W2) W2.heap.size 58 9 i0 (.string ⟨#[]⟩) 1 Tryd.underlying58 hi hz0 hz1 .i64 .i64 C.length (by rw [hz2]; omega) (by unfold maxLen; omega) (Nat.le_refl _)
          have HB1 : Hid (Below W2.heap.size W2 w1) := Below.grown (Below.refl _ W2) hg0 (Nat.le_refl _) (fun j hj => by cases hj)
          obtain ⟨⟨p0, p1, p2⟩, -⟩ := row3 ((HB1.out.block _ hlr).trans HR.out)
          clear hg0
          go_wp2_with fail
          go_loopw [8, 58] (fun v i wr => ∃ k : Nat, k ≤ C.length ∧ i = .int .i64 (k : Int) ∧ Hid (Below W2.heap.size W2 wr) ∧ Hid (wr.ownsRow W2.heap.size 9 1 v k (strs ((C.take k).map thenT)))) (fun _ i _ => C.length - (intOf i).toNat)
          case atStart => exact ⟨0, Nat.zero_le _, rfl, HB1, hown0⟩
          case round =>
            clear q0 q1 q2 p0 p1 p2 hmk HB1 hown0
            obtain ⟨k, hkl, rfl, HBW, HO⟩ := hrel
            have HB' : Hid (Below w.heap.size w wr) := HB.out.trans (HBW.out.mono hwr)
            have HR' : Hid (wr.heap[w.heap.size]? = some (robj3 (.slice sa1 A.length sc1) (.slice sa2 B.length sc2) (.slice sa3 C.length sc3))) := (HBW.out.block _ hlr).trans HR.out
            obtain ⟨⟨q0, q1, q2⟩, -⟩ := row3 HR'.out
            have hWr := HBW.out.size
            have hlr' := heap_lt HR'.out
            by_cases hlt : k < C.length
            · obtain ⟨b, off, rfl, hb, ha⟩ := HC3.out k hlt
              obtain ⟨a0, a1⟩ := ha.same (HB'.out.block b hb)
              obtain ⟨⟨hf0, hf8⟩, hn⟩ := H3.out _ (List.getElem_mem hlt)
              have hXl := thenT_len C[k] (by omega) hn
              have HTk : Hid _ := map_take thenT C k hlt
              have HBa : Hid (Below W2.heap.size W2 (wr.alloc (.cells #[.int .i64 C[k].1, .int .u16 (C[k].2 : Int)] 61))) := HBW.out.alloc hWr _
              have cK := then_text C[k] _ (HE.out.below (HB.out.trans (HBa.out.mono hwr))) hf0 (by omega) hn
              generalize thenT C[k] = X at *
              generalize C[k] = c at *
              obtain ⟨cf, cn⟩ := c
              dsimp only at a0 a1 cK HBa hf0 hf8 hn
              clear ha
              go_wp2_with fail
              refine cK.mono ?_
              rintro e w2 ⟨rfl, hb2⟩
              have HB2 : Hid (Below W2.heap.size W2 w2) := HBa.out.trans (hb2.mono HBa.out.size)
              have hown2 := own_below (own_below HO.out ((Below.refl _ wr).alloc (Nat.le_refl _) (.cells #[.int .i64 cf, .int .u16 (cn : Int)] 61))) hb2
              have hw2 := HB2.out.size
              clear hb2 cK HBa HB' HR' HBW HO q0 q1 q2 a0 a1
              go_wp2_with (at_builtin; refine wpList_append_own_at _ rfl _ _ 58 rfl W2.heap.size 9 i0 (.string ⟨#[]⟩) 1 16 Tryd.underlying58 hi hz0 hz1 hz2 rfl (by decide) u8 _ _ rfl (hown2.alloc _) ⟨w2.heap.size, 0, none⟩ 1 1 [.string ⟨X.toArray⟩] rfl rfl (cell_one_new _ _ _) (fun x hx => by simp at hx; rw [hx]; rfl) (by unfold maxLen; omega) (by omega) (by simp; omega) ?_; intro v4 w4 hown4 hgrow4 hnil4 hloc4)
              have HB4 : Hid (Below W2.heap.size W2 w4) := Below.grown (HB2.out.alloc hw2 _) hgrow4 (by simp; omega) (fun j hj => by have := (hown2.lt _ hj).1; omega)
              have HO4 : Hid (w4.ownsRow W2.heap.size 9 1 v4 (k + 1) (strs ((C.take (k + 1)).map thenT))) := by
                show World.ownsRow _ _ _ _ _ _ _
                rw [HTk.out, strs_app]
                exact hown4
              clear hown4 hgrow4 hnil4 hloc4 hown2 HB2
              go_wp2
              go_roundw
              case rel => exact ⟨k + 1, by omega, by go_num, HB4, HO4⟩
              case measure => simp [intOf]; omega
            · obtain rfl : k = C.length := by omega
              have hO := HO.out
              rw [List.take_length] at hO
              have hq1 : ∀ x ∈ A.map whenT ++ B.map guardT, x.length ≤ 20 := by
                intro x hx
                rcases List.mem_append.1 hx with hx | hx
                · obtain ⟨c, hc, rfl⟩ := List.mem_map.1 hx
                  exact whenT_len c (H1.out c hc).2
                · obtain ⟨c, hc, rfl⟩ := List.mem_map.1 hx
                  have := H2.out c hc
                  exact guardT_len c (by omega) this.2
              have hq2 : ∀ x ∈ C.map thenT, x.length ≤ 20 := by
                intro x hx
                obtain ⟨c, hc, rfl⟩ := List.mem_map.1 hx
                have := H3.out c hc
                exact thenT_len c (by omega) this.2
              have hj1 := joinS_le [32, 38, 32] 20 _ hq1
              have hj2 := joinS_le [32, 38, 32] 20 _ hq2
              have cJ := sh_join u3 (A.map whenT ++ B.map guardT) [32, 38, 32] _ _ wr (own_below HO1.out HBW.out) (by simp; omega) (by simp; omega) (fun x hx => by have := hq1 x hx; omega) (by decide)
              have CJ2 : Hid (∀ W, Below wr.heap.size wr W → Calls Tryd.prog 38 #[u8, .string ⟨[32, 38, 32].toArray⟩] W fun e w' => e = .returned (.string ⟨(joinS [32, 38, 32] (C.map thenT)).toArray⟩) ∧ Below W.heap.size W w') := fun W hW => sh_join u8 (C.map thenT) [32, 38, 32] _ _ W (own_below hO hW) (by simp; omega) (by simp; omega) (fun x hx => by have := hq2 x hx; omega) (by decide)
              simp only [List.length_append, List.length_map, List.length_cons, List.length_nil] at hj1 hj2
              clear hO hq1 hq2 HO q0 q1 q2
              generalize joinS [32, 38, 32] (A.map whenT ++ B.map guardT) = J1 at *
              generalize joinS [32, 38, 32] (C.map thenT) = J2 at *
              have hJ1 : J1.length ≤ 1000 := by omega
              have hJ2 : J2.length ≤ 1000 := by omega
              clear hj1 hj2
              go_wp2_with fail
              refine cJ.mono ?_
              rintro e w2 ⟨rfl, hb2⟩
              have HB2 : Hid (Below wr.heap.size wr w2) := hb2
              clear hb2 cJ
              go_wp2_with fail
              refine (CJ2.out w2 HB2.out).mono ?_
              rintro e w3 ⟨rfl, hb3⟩
              have HB3 : Hid (Below w.heap.size w w3) := HB'.out.trans ((HB2.out.trans (hb3.mono HB2.out.size)).mono HB'.out.size)
              clear hb3 CJ2
              go_wp2
              go_ret
              exact ⟨by rw [HRT.out]; simp only [← sh_cat]; rfl, HB3.out⟩
end Go.Proofs.YtebpapmnkbehnaaDoor
