/- The law MergeFull, walked: any two bytes. -/
import Derived.Test.YtbcikkofbdfmaaaZG
set_option linter.unusedVariables false
set_option linter.unusedSimpArgs false
namespace Go.Proofs.Ytbcikkofbdfmaaa
open Go.RowKit Go.Joins Go.Sort

theorem run_make100 (w : World) : (Instr.makeSlice 43 (.int .i64 100) (.int .i64 100)).run Try.prog w = .ok (.slice (some ⟨w.heap.size, 0, none⟩) 100 100) (w.alloc (.cells (List.replicate 200 nilS).toArray 54)) := run_make54 100 (by decide) w
set_option maxRecDepth 100000 in
set_option maxHeartbeats 8000000 in
theorem mfu_any (n m : Nat) (hn : n ≤ 255) (hm : m ≤ 255) (w : World) : Calls Try.prog 5 #[.int .u8 (n : Int), .int .u8 (m : Int)] w fun e w' => e = .returned (.bool true) ∧ Below w.heap.size w w' := by
  obtain ⟨i43, hi43, hz430, hz431, hz432⟩ := info_parts info43i
  have cA := hid (awake_any w)
  by_cases h15 : 15 < n
  · have d15 : decide ((15 : Int) < (n : Int)) = true := by simp; omega
    go_enter Try.func5, Try.ntmps5
    go_wp2_with fail
    refine cA.out.mono ?_
    rintro e w1 ⟨rfl, hb1⟩
    have HB1 := hid hb1
    clear hb1 cA
    go_wp2
    go_ret
    exact ⟨rfl, HB1.out⟩
  have d15 : decide ((15 : Int) < (n : Int)) = false := by simp; omega
  by_cases hm1 : m < 1
  · have d1 : decide ((m : Int) < 1) = true := by simp; omega
    go_enter Try.func5, Try.ntmps5
    go_wp2_with fail
    refine cA.out.mono ?_
    rintro e w1 ⟨rfl, hb1⟩
    have HB1 := hid hb1
    clear hb1 cA
    go_wp2
    go_ret
    exact ⟨rfl, HB1.out⟩
  have d1 : decide ((m : Int) < 1) = false := by simp; omega
  by_cases hm3 : 3 < m
  · have d3 : decide ((3 : Int) < (m : Int)) = true := by simp; omega
    go_enter Try.func5, Try.ntmps5
    go_wp2_with fail
    refine cA.out.mono ?_
    rintro e w1 ⟨rfl, hb1⟩
    have HB1 := hid hb1
    clear hb1 cA
    go_wp2
    go_ret
    exact ⟨rfl, HB1.out⟩
  have d3 : decide ((3 : Int) < (m : Int)) = false := by simp; omega
  have hn15 : n ≤ 15 := by omega
  have hm0 : 0 < m := by omega
  have hm33 : m ≤ 3 := by omega
  have hmk := run_make100
  clear hn hm
  go_enter Try.func5, Try.ntmps5
  go_wp2_with fail
  refine cA.out.mono ?_
  rintro e w1 ⟨rfl, hb1⟩
  have HB1 := hid hb1
  have HS0 : Hid (SSt w (.slice none 0 0) (Tn m 0) [] w1) := ⟨hb1, World.ownsRow_nil _ _ _ _, fun k hk => absurd hk (Nat.not_lt_zero _)⟩
  clear hb1 cA
  go_wp2
  go_loopw [5, 23] (fun o i wr => ∃ (k : Nat) (zl : Value) (U : List Value), k ≤ n ∧ zl = o ∧ i = .int .u8 (k : Int) ∧ Hid (SSt w zl (Tn m k) U wr)) (fun _ i _ => n - (intOf i).toNat)
  case atStart => exact ⟨0, _, _, Nat.zero_le _, rfl, rfl, HS0⟩
  case round =>
    clear HS0
    obtain ⟨k, zl, U, hk, rfl, rfl, HS⟩ := hrel
    by_cases hlt' : k < n
    · have dk : decide ((k : Int) < (n : Int)) = true := by simp; omega
      have hw16 : IntKind.u16.wrap (k : Int) = (k : Int) := by simp [IntKind.wrap, IntKind.signed, IntKind.bits]; omega
      have hb2 : Below wr.heap.size wr ((wr.alloc (.cells ((List.replicate 200 nilS).set 0 (.slice (some ⟨wr.heap.size + 1, 0, none⟩) 1 1)).toArray 54)).alloc (.cells #[.int .i64 2, .int .u16 (k : Int)] 50)) := two_below wr _ _
      have HS1 := hid (HS.out.below hb2)
      have hG1 : ((wr.alloc (.cells ((List.replicate 200 nilS).set 0 (.slice (some ⟨wr.heap.size + 1, 0, none⟩) 1 1)).toArray 54)).alloc (.cells #[.int .i64 2, .int .u16 (k : Int)] 50)).heap[wr.heap.size]? = some (.cells ((List.replicate 200 nilS).set 0 (.slice (some ⟨wr.heap.size + 1, 0, none⟩) 1 1)).toArray 54) := (((Below.refl _ _).alloc (Nat.le_refl _) _).block _ (heap_lt (heap_alloc_new wr _))).trans (heap_alloc_new wr _)
      have hP1 : ((wr.alloc (.cells ((List.replicate 200 nilS).set 0 (.slice (some ⟨wr.heap.size + 1, 0, none⟩) 1 1)).toArray 54)).alloc (.cells #[.int .i64 2, .int .u16 (k : Int)] 50)).heap[wr.heap.size + 1]? = some (.cells #[.int .i64 2, .int .u16 (k : Int)] 50) := by
        have h2 := heap_alloc_new (wr.alloc (.cells ((List.replicate 200 nilS).set 0 (.slice (some ⟨wr.heap.size + 1, 0, none⟩) 1 1)).toArray 54)) (.cells #[.int .i64 2, .int .u16 (k : Int)] 50)
        rwa [alloc_size] at h2
      have HI1 : Hid (In (offB w.heap.size zl) ((wr.alloc (.cells ((List.replicate 200 nilS).set 0 (.slice (some ⟨wr.heap.size + 1, 0, none⟩) 1 1)).toArray 54)).alloc (.cells #[.int .i64 2, .int .u16 (k : Int)] 50)) (fun W => RowsAt W (.slice (some ⟨wr.heap.size, 0, none⟩) 100 100) (Li k))) :=
        (li_in (B := wr.heap.size) k (Nat.le_refl _) (Nat.le_succ _) hG1 hP1).mono fun b _ e => ⟨Nat.le_trans HS.out.bel.size e, fun e2 => by
          have h1 := (HS.out.rows.lt b e2).2
          have h2 : wr.heap.size ≤ b := e
          omega⟩
      have HS1' : Hid (SSt w zl (Tn m k ++ List.replicate 0 (Li k)) U ((wr.alloc (.cells ((List.replicate 200 nilS).set 0 (.slice (some ⟨wr.heap.size + 1, 0, none⟩) 1 1)).toArray 54)).alloc (.cells #[.int .i64 2, .int .u16 (k : Int)] 50))) := by
        show SSt _ _ _ _ _
        rw [List.replicate_zero, List.append_nil]
        exact HS1.out
      clear hb2 HS1 hG1 hP1
      obtain ⟨G, hG⟩ : ∃ G, wr.heap.size = G := ⟨_, rfl⟩
      rw [hG] at HS1' HI1
      go_wp2
      go_loopw [5, 35] (fun o j wx => ∃ (i : Nat) (zl : Value) (U : List Value), i ≤ m ∧ zl = o ∧ j = .int .u8 (i : Int) ∧ Hid (SSt w zl (Tn m k ++ List.replicate i (Li k)) U wx) ∧ Hid (In (offB w.heap.size zl) wx (fun W => RowsAt W (.slice (some ⟨G, 0, none⟩) 100 100) (Li k)))) (fun _ j _ => m - (intOf j).toNat)
      case atStart => exact ⟨0, _, _, Nat.zero_le _, rfl, rfl, HS1', HI1⟩
      case round =>
        clear HS1' HI1
        obtain ⟨i, zl', U', hi, rfl, rfl, HS, HI⟩ := hrel
        by_cases hlti : i < m
        · have di : decide ((i : Int) < (m : Int)) = true := by simp; omega
          have hsz : w.heap.size ≤ wr.heap.size := HS.out.bel.size
          have HSa : Hid (∀ o, SSt w zl' (Tn m k ++ List.replicate i (Li k)) U' (wr.alloc o)) := fun o => HS.out.below ((Below.refl _ _).alloc (Nat.le_refl _) o)
          have HIa : Hid (∀ o, In (offB w.heap.size zl') (wr.alloc o) (fun W => RowsAt W (.slice (some ⟨G, 0, none⟩) 100 100) (Li k))) := fun o => HI.out.step (Agree.below ((Below.refl _ _).alloc (Nat.le_refl _) o))
          have HNx : Hid (Tn m k ++ List.replicate (i + 1) (Li k) = (Tn m k ++ List.replicate i (Li k)) ++ [Li k]) := by
            show _ = _
            rw [List.replicate_succ', List.append_assoc]
          have hll : (Tn m k ++ List.replicate i (Li k)).length ≤ 100 := by
            rw [List.length_append, Tn_len, List.length_replicate]
            have : k * m ≤ 15 * 3 := Nat.mul_le_mul (by omega) hm33
            omega
          generalize hLL : Tn m k ++ List.replicate i (Li k) = LL at *
          obtain ⟨ll, hl2⟩ : ∃ ll, LL.length = ll := ⟨_, rfl⟩
          have HL2 := hid hl2
          have HO : Hid (∀ o, (wr.alloc o).ownsRow w.heap.size 43 1 zl' ll U') := fun o => by have h9 := (HSa.out o).rows; rwa [hl2] at h9
          rw [hl2] at hll
          clear hl2 hLL
          go_wp2_with (at_builtin; refine wpList_append_lies _ rfl _ _ 22 rfl w.heap.size 43 i43 (.slice none 0 0) 1 24 Try.underlying22 hi43 hz430 hz431 hz432 rfl (by decide) zl' ll _ rfl (HO.out _) ⟨wr.heap.size, 0, none⟩ 1 1 [.slice (some ⟨G, 0, none⟩) 100 100] rfl rfl (cell_one _ _ _) (fun x hx => by simp at hx; subst hx; rfl) (by decide) (by unfold maxLen; omega) (by omega) (by simp; omega) (wr.heap.size + 1) (by simp) ?_; intro g4 cap4 w4 hown4 hgrow4 hloc4 hlt4)
          have HS4 : Hid (SSt w (.slice (some ⟨g4, 0, none⟩) (ll + 1) cap4) (Tn m k ++ List.replicate (i + 1) (Li k)) (U' ++ [.slice (some ⟨G, 0, none⟩) 100 100]) w4) := by
            show SSt _ _ _ _ _
            rw [HNx.out]
            exact SSt.push (W := wr.alloc (.cells #[.slice (some ⟨G, 0, none⟩) 100 100] 43)) (HSa.out _) (HIa.out _) (by rw [HL2.out]; exact hown4) hgrow4 (by simpa using hloc4)
          have HI4 : Hid (In (offB w.heap.size (.slice (some ⟨g4, 0, none⟩) (ll + 1) cap4)) w4 (fun W => RowsAt W (.slice (some ⟨G, 0, none⟩) 100 100) (Li k))) := off_grown (HIa.out (.cells #[.slice (some ⟨G, 0, none⟩) 100 100] 43)) hgrow4 (by simpa using hloc4)
          clear hown4 hgrow4 hloc4 hlt4 HSa HIa HO
          go_wp2
          go_roundw
          case rel => exact ⟨i + 1, _, _, by omega, rfl, by go_num, HS4, HI4⟩
          case measure => simp [intOf]; omega
        · obtain rfl : i = m := by omega
          have di : decide ((i : Int) < (i : Int)) = false := by simp
          go_wp2
          go_roundw
          case rel => exact ⟨k + 1, _, _, by omega, rfl, by go_num, HS⟩
          case measure => simp [intOf]; omega
    · obtain rfl : k = n := by omega
      have dk : decide ((k : Int) < (k : Int)) = false := by simp
      have hkm : k * m ≤ 15 * 3 := Nat.mul_le_mul hn15 hm33
      have hTl := Tn_len m k
      have cO := hid (of_any zl (Tn m k) (by rw [hTl]; omega) (fun x hx => by obtain ⟨i, rfl⟩ := Tn_mem m k x hx; rw [Li_len]; decide) wr HS.out.lists)
      rw [full_of m k hm0 (by omega)] at cO
      have hLen : (ofT (Tn m k)).n.length = k * m := by rw [(fits (Tn m k)).len, hTl]
      have hLl := ofT_Tn m hm0 k
      have hRows : rowsM (ofT (Tn m k)).l = 100 * k := by rw [hLl, rows_Li]
      have hLl2 : (ofT (Tn m k)).l.length = k := by rw [hLl]; simp
      have HBr := hid HS.out.bel
      generalize ofT (Tn m k) = t at *
      clear hTl hLl HS
      by_cases h10 : 10 < k
      · have d10 : decide ((10 : Int) < (k : Int)) = true := by simp; omega
        rw [if_pos (by omega)] at cO
        clear hLen hRows hLl2
        go_wp2_with fail
        refine cO.out.mono ?_
        rintro e w3 ⟨x, y, rfl, htab, hb3⟩
        obtain ⟨xa, xc, rfl, -, -⟩ := htab.1
        obtain ⟨ya, yc, rfl, -, -⟩ := htab.2
        have HB3 := hid (HBr.out.trans (hb3.mono HBr.out.size))
        clear cO hb3 htab
        go_wp2
        go_ret
        exact ⟨rfl, HB3.out.alloc HB3.out.size _⟩
      · have d10 : decide ((10 : Int) < (k : Int)) = false := by simp; omega
        rw [if_neg (by omega)] at cO
        go_wp2_with fail
        refine cO.out.mono ?_
        rintro e w3 ⟨x, y, rfl, htab, hb3⟩
        have HB3 := hid (HBr.out.trans (hb3.mono HBr.out.size))
        have HB4 : Hid (Below w3.heap.size w3 (w3.alloc (tob x y))) := (Below.refl _ _).alloc (Nat.le_refl _) _
        have HT4 := hid (tab_below htab HB4.out)
        have cR := hid (rows_any x y t _ HT4.out (fun j => Nat.le_trans (rowsM_take_le t.l j) (by rw [hRows]; omega)))
        have HX4 := hid (heap_alloc_new w3 (tob x y))
        have HB5 := hid (HB3.out.trans (HB4.out.mono HB3.out.size))
        rw [hRows] at cR
        obtain ⟨xa, xc, hxe, -, -⟩ := htab.1
        obtain ⟨ya, yc, hye, -, -⟩ := htab.2
        rw [hLen] at hxe
        rw [hLl2] at hye
        subst hxe hye
        clear cO hb3 htab hLen hRows hLl2 HT4
        obtain ⟨b0, b1⟩ := row2 HX4.out
        have w1' : IntKind.i64.wrap (k : Int) = (k : Int) := wr64 _ (by omega) (by omega)
        have w2' : IntKind.i64.wrap (m : Int) = (m : Int) := wr64 _ (by omega) (by omega)
        have w3' : IntKind.i64.wrap (100 * (k : Int)) = 100 * (k : Int) := wr64 _ (by omega) (by omega)
        have hkm2 : (k : Int) * (m : Int) ≤ 45 := by
          have : ((k * m : Nat) : Int) ≤ 45 := by omega
          simpa using this
        have hkm0 : 0 ≤ (k : Int) * (m : Int) := Int.mul_nonneg (by omega) (by omega)
        have w4' : IntKind.i64.wrap ((k : Int) * (m : Int)) = (k : Int) * (m : Int) := wr64 _ hkm0 (by omega)
        go_wp2_with fail
        refine cR.out.mono ?_
        rintro e w5 ⟨rfl, hb5⟩
        have HB6 := hid (HB5.out.trans (hb5.mono HB5.out.size))
        have HX5 := hid ((hb5.block _ (heap_lt HX4.out)).trans HX4.out)
        clear cR hb5 b0 b1 HX4 HB4
        obtain ⟨b0, b1⟩ := row2 HX5.out
        go_wp2
        go_ret
        exact ⟨rfl, HB6.out⟩
end Go.Proofs.Ytbcikkofbdfmaaa
