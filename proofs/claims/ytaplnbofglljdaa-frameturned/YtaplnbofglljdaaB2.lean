/- What the document's Encode answers: the frame's bytes; numbers of sixteen bits, a digest of sixty-four. -/
import Derived.Test.YtaplnbofglljdaaB1
set_option linter.unusedVariables false
set_option linter.unusedSimpArgs false
namespace Go.Proofs.Ytaplnbofglljdaa
open Go.RowKit Go.Joins

theorem bs_one (l : List UInt8) : ∀ u ∈ bs l, u.oneCell' = true := by
  intro u hu
  simp only [bs, List.mem_map] at hu
  obtain ⟨b, _, rfl⟩ := hu
  rfl
theorem ESt.start (w : World) (cs : Array Value) (k : UInt8) : ESt w cs (.slice (some ⟨w.heap.size + 1, 0, none⟩) 2 2) [78, k] ((w.alloc (.cells cs 28)).alloc (.cells #[.int .u8 78, .int .u8 (k.toNat : Int)] 5)) := by
  refine ⟨?_, ?_, below_alloc2 _ _ _⟩
  · have := World.ownsRow_lit (base := w.heap.size + 1) (e := 5) (size := 1) (w.alloc (.cells cs 28)) #[.int .u8 78, .int .u8 (k.toNat : Int)] 2 (by simp) (by unfold maxLen; omega) rfl
    simpa [bs] using this
  · rw [Below.heap_alloc _ _ _ (by simp)]; exact heap_alloc_new _ _

set_option maxRecDepth 100000 in
set_option maxHeartbeats 1000000 in
theorem rencode_any (a0 a1 a2 a3 a4 a5 a6 a7 : Nat) (tg : Bool) (tag dg : Nat) (w : World) (hok : (⟨a0, a1, a2, a3, a4, a5, a6, a7, tg, tag, dg⟩ : Fr).ok) :
    Calls Try.prog 9 #[frv a0 a1 a2 a3 a4 a5 a6 a7 tg tag dg] w fun e w' => e = .returned (.string ⟨(encOf ⟨a0, a1, a2, a3, a4, a5, a6, a7, tg, tag, dg⟩).toArray⟩) ∧ Below w.heap.size w w' := by
  obtain ⟨i0, hi, hz0, hz1, hz2⟩ := info5
  have HK : Hid ((⟨a0, a1, a2, a3, a4, a5, a6, a7, tg, tag, dg⟩ : Fr).ok) := hok
  clear hok
  obtain ⟨E, hE⟩ : ∃ E, encOf ⟨a0, a1, a2, a3, a4, a5, a6, a7, tg, tag, dg⟩ = E := ⟨_, rfl⟩
  have HE : Hid (encOf ⟨a0, a1, a2, a3, a4, a5, a6, a7, tg, tag, dg⟩ = E) := hE
  rw [hE]
  clear hE
  unfold frv frc
  cases tg
  · go_enter Try.func9, Try.ntmps9
    go_wp2_with fail
    have HS0 := ESt.start w #[.int .u16 a0, .int .u16 a1, .int .u16 a2, .int .u16 a3, .int .u16 a4, .int .u16 a5, .int .u16 a6, .int .u16 a7, .bool false, .int .u16 tag, .int .u64 dg] (kindB false)
    go_loopw [3, 4] (fun v i wr => ∃ k : Nat, k ≤ 6 ∧ i = .int .i64 ((k : Int) + 2) ∧ Hid (ESt w #[.int .u16 a0, .int .u16 a1, .int .u16 a2, .int .u16 a3, .int .u16 a4, .int .u16 a5, .int .u16 a6, .int .u16 a7, .bool false, .int .u16 tag, .int .u64 dg] v ([78, kindB false] ++ flat ((told a2 a3 a4 a5 a6 a7).take k)) wr)) (fun _ i _ => 8 - (intOf i).toNat)
    case atStart => exact ⟨0, Nat.zero_le _, rfl, HS0⟩
    case round =>
      clear HS0
      obtain ⟨k, hk, rfl, HS⟩ := hrel
      by_cases hlt : k < 6
      · obtain ⟨X, hX⟩ : ∃ X, (told a2 a3 a4 a5 a6 a7)[k]? = some X := ⟨_, List.getElem?_eq_getElem (by simpa [told] using hlt)⟩
        have hX6 : X < 65536 := told_lt HK.out k X hX
        have hc : wr.cell? ⟨w.heap.size, k + 2, none⟩ = some (.int .u16 (X : Int)) := by rw [Nat.add_comm]; exact told_cell HS.out.box k X hX
        have hl8 : (k : Int) + 2 < 8 := by omega
        have hfs := flat_small false (told a2 a3 a4 a5 a6 a7) k (by simp [told])
        have HA : Hid ([78, kindB false] ++ flat ((told a2 a3 a4 a5 a6 a7).take (k + 1)) = ([78, kindB false] ++ flat ((told a2 a3 a4 a5 a6 a7).take k)) ++ be 2 X) := by show _ = _; rw [flat_snoc _ _ _ hX, List.append_assoc]
        clear hX
        generalize [78, kindB false] ++ flat ((told a2 a3 a4 a5 a6 a7).take k) = A at *
        go_wp2_with fail
        refine (rtwo_any X _ hX6).mono ?_
        rintro e w2 ⟨rfl, rfl⟩
        clear hc
        go_wp2_with (at_builtin; refine wpList_append_own _ rfl _ _ 41 rfl (w.heap.size + 1) 5 i0 (.int .u8 0) 1 1 Try.underlying41 hi hz0 hz1 hz2 rfl (by decide) u3 _ _ rfl (HS.out.own.alloc _) ⟨wr.heap.size, 0, none⟩ 2 2 (bs (be 2 X)) rfl rfl (cell_list_new _ _ _ _ rfl) (bs_one _) (by unfold maxLen; omega) (by omega) (by have := HS.out.size; simp; omega) ?_; intro v3 w3 hown3 hgrow3 hnil3)
        have HS3 : Hid (ESt w _ v3 _ w3) := HS.out.grown1 hgrow3 (acc' := A ++ be 2 X) (by rw [bs_append, List.length_append, be_length]; exact hown3)
        clear hown3 hgrow3 hnil3 HS
        go_wp2_with fail
        refine ⟨⟨k + 1, by omega, by go_num, ?_⟩, by simp [intOf]; omega⟩
        show ESt w _ v3 _ w3
        rw [HA.out]
        exact HS3.out
      · have hk6 : k = 6 := by omega
        subst hk6
        obtain ⟨⟨q0, q1, q2, q3, q4, q5, q6, q7, q8, q9, q10⟩, hsz⟩ := row11 HS.out.box
        have ht6 : tag < 65536 := HK.out.ht
        have HE2 : Hid (bodyOf ⟨a0, a1, a2, a3, a4, a5, a6, a7, false, tag, dg⟩ ++ be 2 (chk (bodyOf ⟨a0, a1, a2, a3, a4, a5, a6, a7, false, tag, dg⟩)) = E) := HE.out
        have hlB : Hid ((bodyOf ⟨a0, a1, a2, a3, a4, a5, a6, a7, false, tag, dg⟩).length = 14) := bodyOf_length ⟨a0, a1, a2, a3, a4, a5, a6, a7, false, tag, dg⟩
        rw [body_bare a0 a1 a2 a3 a4 a5 a6 a7 tag dg] at HS
        generalize bodyOf ⟨a0, a1, a2, a3, a4, a5, a6, a7, false, tag, dg⟩ = B at *
        have hlb : B.length = 14 := hlB.out
        clear HK
        go_wp2_with fail
        refine (rcheck_any (w.heap.size + 1) u3 B _ HS.out.own (by omega)).mono ?_
        rintro e wX ⟨rfl, hwX⟩
        subst wX
        go_wp2_with fail
        refine (rtwo_any (chk B) _ (by have := chk_lt B; omega)).mono ?_
        rintro e w7 ⟨rfl, rfl⟩
        go_wp2_with (at_builtin; refine wpList_append_own _ rfl _ _ 41 rfl (w.heap.size + 1) 5 i0 (.int .u8 0) 1 1 Try.underlying41 hi hz0 hz1 hz2 rfl (by decide) u3 _ _ rfl (HS.out.own.alloc _) ⟨wr.heap.size, 0, none⟩ 2 2 (bs (be 2 (chk B))) rfl rfl (cell_list_new _ _ _ _ rfl) (bs_one _) (by unfold maxLen; omega) (by omega) (by have := HS.out.size; simp; omega) ?_; intro v8 w8 hown8 hgrow8 hnil8; have hS8 : ESt w _ v8 _ w8 := HS.out.grown1 hgrow8 (acc' := B ++ be 2 (chk B)) (by rw [bs_append, List.length_append, be_length]; exact hown8); have HS8 : Hid (ESt w _ v8 _ w8) := hS8; have hcv2 := conv_own hS8.own (by rw [List.length_append]; omega); clear hown8 hgrow8 hnil8 hS8)
        go_ret
        exact ⟨by rw [← HE2.out]; rfl, HS8.out.bel⟩
  · go_enter Try.func9, Try.ntmps9
    go_wp2_with fail
    have HS0 := ESt.start w #[.int .u16 a0, .int .u16 a1, .int .u16 a2, .int .u16 a3, .int .u16 a4, .int .u16 a5, .int .u16 a6, .int .u16 a7, .bool true, .int .u16 tag, .int .u64 dg] (kindB true)
    go_loopw [3, 4] (fun v i wr => ∃ k : Nat, k ≤ 6 ∧ i = .int .i64 ((k : Int) + 2) ∧ Hid (ESt w #[.int .u16 a0, .int .u16 a1, .int .u16 a2, .int .u16 a3, .int .u16 a4, .int .u16 a5, .int .u16 a6, .int .u16 a7, .bool true, .int .u16 tag, .int .u64 dg] v ([78, kindB true] ++ flat ((told a2 a3 a4 a5 a6 a7).take k)) wr)) (fun _ i _ => 8 - (intOf i).toNat)
    case atStart => exact ⟨0, Nat.zero_le _, rfl, HS0⟩
    case round =>
      clear HS0
      obtain ⟨k, hk, rfl, HS⟩ := hrel
      by_cases hlt : k < 6
      · obtain ⟨X, hX⟩ : ∃ X, (told a2 a3 a4 a5 a6 a7)[k]? = some X := ⟨_, List.getElem?_eq_getElem (by simpa [told] using hlt)⟩
        have hX6 : X < 65536 := told_lt HK.out k X hX
        have hc : wr.cell? ⟨w.heap.size, k + 2, none⟩ = some (.int .u16 (X : Int)) := by rw [Nat.add_comm]; exact told_cell HS.out.box k X hX
        have hl8 : (k : Int) + 2 < 8 := by omega
        have hfs := flat_small true (told a2 a3 a4 a5 a6 a7) k (by simp [told])
        have HA : Hid ([78, kindB true] ++ flat ((told a2 a3 a4 a5 a6 a7).take (k + 1)) = ([78, kindB true] ++ flat ((told a2 a3 a4 a5 a6 a7).take k)) ++ be 2 X) := by show _ = _; rw [flat_snoc _ _ _ hX, List.append_assoc]
        clear hX
        generalize [78, kindB true] ++ flat ((told a2 a3 a4 a5 a6 a7).take k) = A at *
        go_wp2_with fail
        refine (rtwo_any X _ hX6).mono ?_
        rintro e w2 ⟨rfl, rfl⟩
        clear hc
        go_wp2_with (at_builtin; refine wpList_append_own _ rfl _ _ 41 rfl (w.heap.size + 1) 5 i0 (.int .u8 0) 1 1 Try.underlying41 hi hz0 hz1 hz2 rfl (by decide) u3 _ _ rfl (HS.out.own.alloc _) ⟨wr.heap.size, 0, none⟩ 2 2 (bs (be 2 X)) rfl rfl (cell_list_new _ _ _ _ rfl) (bs_one _) (by unfold maxLen; omega) (by omega) (by have := HS.out.size; simp; omega) ?_; intro v3 w3 hown3 hgrow3 hnil3)
        have HS3 : Hid (ESt w _ v3 _ w3) := HS.out.grown1 hgrow3 (acc' := A ++ be 2 X) (by rw [bs_append, List.length_append, be_length]; exact hown3)
        clear hown3 hgrow3 hnil3 HS
        go_wp2_with fail
        refine ⟨⟨k + 1, by omega, by go_num, ?_⟩, by simp [intOf]; omega⟩
        show ESt w _ v3 _ w3
        rw [HA.out]
        exact HS3.out
      · have hk6 : k = 6 := by omega
        subst hk6
        obtain ⟨⟨q0, q1, q2, q3, q4, q5, q6, q7, q8, q9, q10⟩, hsz⟩ := row11 HS.out.box
        have ht6 : tag < 65536 := HK.out.ht
        have HE2 : Hid (bodyOf ⟨a0, a1, a2, a3, a4, a5, a6, a7, true, tag, dg⟩ ++ be 2 (chk (bodyOf ⟨a0, a1, a2, a3, a4, a5, a6, a7, true, tag, dg⟩)) = E) := HE.out
        have hlB : Hid ((bodyOf ⟨a0, a1, a2, a3, a4, a5, a6, a7, true, tag, dg⟩).length = 24) := bodyOf_length ⟨a0, a1, a2, a3, a4, a5, a6, a7, true, tag, dg⟩
        have HB : Hid ([78, kindB true] ++ flat ((told a2 a3 a4 a5 a6 a7).take 6) ++ be 2 tag ++ be 8 dg = bodyOf ⟨a0, a1, a2, a3, a4, a5, a6, a7, true, tag, dg⟩) := body_tagged a0 a1 a2 a3 a4 a5 a6 a7 tag dg
        have hA : ([78, kindB true] ++ flat ((told a2 a3 a4 a5 a6 a7).take 6)).length = 14 := by rw [List.length_append, flat_length]; rfl
        generalize bodyOf ⟨a0, a1, a2, a3, a4, a5, a6, a7, true, tag, dg⟩ = B at *
        generalize [78, kindB true] ++ flat ((told a2 a3 a4 a5 a6 a7).take 6) = A at *
        go_wp2_with fail
        refine (rtwo_any tag _ ht6).mono ?_
        rintro e w2 ⟨rfl, rfl⟩
        clear q0 q1 q2 q3 q4 q5 q6 q7 q8 q9 q10
        go_wp2_with (at_builtin; refine wpList_append_own _ rfl _ _ 41 rfl (w.heap.size + 1) 5 i0 (.int .u8 0) 1 1 Try.underlying41 hi hz0 hz1 hz2 rfl (by decide) u3 _ _ rfl (HS.out.own.alloc _) ⟨wr.heap.size, 0, none⟩ 2 2 (bs (be 2 tag)) rfl rfl (cell_list_new _ _ _ _ rfl) (bs_one _) (by unfold maxLen; omega) (by omega) (by have := HS.out.size; simp; omega) ?_; intro v3 w3 hown3 hgrow3 hnil3)
        have HS3 : Hid (ESt w _ v3 _ w3) := HS.out.grown1 hgrow3 (acc' := A ++ be 2 tag) (by rw [bs_append, List.length_append, be_length]; exact hown3)
        clear hown3 hgrow3 hnil3 HS
        go_wp2_with fail
        go_loopw [3, 5] (fun v i wq => ∃ (k : Nat) (acc : List UInt8), k ≤ 8 ∧ i = .int .i64 ((k : Int) - 1) ∧ Hid (acc ++ be k dg = be 8 dg) ∧ Hid (ESt w #[.int .u16 a0, .int .u16 a1, .int .u16 a2, .int .u16 a3, .int .u16 a4, .int .u16 a5, .int .u16 a6, .int .u16 a7, .bool true, .int .u16 tag, .int .u64 dg] v (A ++ be 2 tag ++ acc) wq)) (fun _ i _ => (intOf i + 1).toNat)
        case atStart => exact ⟨8, [], Nat.le_refl _, rfl, rfl, by rw [List.append_nil]; exact HS3⟩
        case round =>
          obtain ⟨k, acc, hk, rfl, HQ, HS⟩ := hrel
          clear HS3
          have hla : Hid (acc.length + k = 8) := by
            have := congrArg List.length HQ.out
            show _ = _
            simpa [be_length] using this
          obtain ⟨⟨q0, q1, q2, q3, q4, q5, q6, q7, q8, q9, q10⟩, hsz⟩ := row11 HS.out.box
          clear q0 q1 q2 q3 q4 q5 q6 q7 q8 q9
          cases k with
          | zero =>
            have e : acc = be 8 dg := by have := HQ.out; simpa [be] using this
            subst e
            rw [HB.out] at HS
            clear hla q10
            have hlb : B.length = 24 := hlB.out
            clear HK
            go_wp2_with fail
            refine (rcheck_any (w.heap.size + 1) u3 B _ HS.out.own (by omega)).mono ?_
            rintro e wX ⟨rfl, hwX⟩
            subst wX
            go_wp2_with fail
            refine (rtwo_any (chk B) _ (by have := chk_lt B; omega)).mono ?_
            rintro e w7 ⟨rfl, rfl⟩
            go_wp2_with (at_builtin; refine wpList_append_own _ rfl _ _ 41 rfl (w.heap.size + 1) 5 i0 (.int .u8 0) 1 1 Try.underlying41 hi hz0 hz1 hz2 rfl (by decide) u3 _ _ rfl (HS.out.own.alloc _) ⟨wr.heap.size, 0, none⟩ 2 2 (bs (be 2 (chk B))) rfl rfl (cell_list_new _ _ _ _ rfl) (bs_one _) (by unfold maxLen; omega) (by omega) (by have := HS.out.size; simp; omega) ?_; intro v8 w8 hown8 hgrow8 hnil8; have hS8 : ESt w _ v8 _ w8 := HS.out.grown1 hgrow8 (acc' := B ++ be 2 (chk B)) (by rw [bs_append, List.length_append, be_length]; exact hown8); have HS8 : Hid (ESt w _ v8 _ w8) := hS8; have hcv2 := conv_own hS8.own (by rw [List.length_append]; omega); clear hown8 hgrow8 hnil8 hS8)
            go_ret
            exact ⟨by rw [← HE2.out]; rfl, HS8.out.bel⟩
          | succ j =>
            have hla2 := hla.out
            have hacc : acc.length ≤ 8 := by omega
            have hal : (A ++ be 2 tag ++ acc).length ≤ 24 := by rw [List.length_append, List.length_append, be_length]; omega
            clear hla2
            have HA2 : Hid (A ++ be 2 tag ++ (acc ++ [UInt8.ofNat (dg / 256 ^ j)]) = A ++ be 2 tag ++ acc ++ [UInt8.ofNat (dg / 256 ^ j)]) := (List.append_assoc _ _ _).symm
            generalize A ++ be 2 tag ++ acc = F at *
            go_wp2_with (at_builtin; refine wpList_append_own _ rfl _ _ 41 rfl (w.heap.size + 1) 5 i0 (.int .u8 0) 1 1 Try.underlying41 hi hz0 hz1 hz2 rfl (by decide) u3 _ _ rfl (HS.out.own.alloc _) ⟨wr.heap.size, 0, none⟩ 1 1 ([.int .u8 ((dg : Int) / 2 ^ (8 * j) % 256)]) rfl rfl (cell_one_new _ _ _) (fun x hx => by simp at hx; rcases hx with rfl; rfl) (by unfold maxLen; omega) (by omega) (by have := HS.out.size; simp; omega) ?_; intro v5 w5 hown5 hgrow5 hnil5)
            have HS5 : Hid (ESt w _ v5 _ w5) := HS.out.grown1 hgrow5 (acc' := F ++ [UInt8.ofNat (dg / 256 ^ j)]) (by rw [byte_be] at hown5; rw [bs_append, List.length_append]; exact hown5)
            have HQ2 : Hid ((acc ++ [UInt8.ofNat (dg / 256 ^ j)]) ++ be j dg = be 8 dg) := by
              show _ = _
              rw [← HQ.out, List.append_assoc]; rfl
            clear hown5 hgrow5 hnil5 HS q10
            go_wp2_with fail
            refine ⟨⟨j, _, by omega, by go_num, HQ2, ?_⟩, by simp [intOf]⟩
            show ESt w _ v5 _ w5
            rw [HA2.out]
            exact HS5.out
end Go.Proofs.Ytaplnbofglljdaa
