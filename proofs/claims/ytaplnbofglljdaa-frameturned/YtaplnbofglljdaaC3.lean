/- What the law FrameTurned answers: true, for every frame, place and byte. -/
import Derived.Test.YtaplnbofglljdaaC1
set_option linter.unusedVariables false
set_option linter.unusedSimpArgs false
namespace Go.Proofs.Ytaplnbofglljdaa
open Go.RowKit Go.Joins

/-- '[]byte(s)': a row of its own, whose cells are the bytes. -/
theorem bytes_new (s : ByteArray) (w : World) : ∃ W cap, (convert 9 41 (.string s)).run Try.prog w = .ok (.slice (some ⟨w.heap.size, 0, none⟩) s.size cap) W ∧
    (∀ j (h : j < s.size), W.cell? ⟨w.heap.size, j, none⟩ = some (.int .u8 (s[j].toNat : Int)) ∧ W.frozen? ⟨w.heap.size, j, none⟩ = false) ∧ Below w.heap.size w W ∧ w.heap.size < W.heap.size := by
  refine ⟨_, _, run_bytes_of_string w 9 41 5 s Try.underlying9 Try.underlying41 Try.underlying5, fun j h => ⟨?_, ?_⟩, ?_, ?_⟩
  · have := World.cell?_alloc_mark w.drew (bytesRow s (grownCap w s.size 0 5)) 5 ((bytesRow s (grownCap w s.size 0 5)).size, (bytesRow s (grownCap w s.size 0 5)).size + 1) j
    exact this.trans (bytesRow_at s _ j h)
  · have := World.frozen?_alloc_mark w.drew (bytesRow s (grownCap w s.size 0 5)) 5 (bytesRow s (grownCap w s.size 0 5)).size ((bytesRow s (grownCap w s.size 0 5)).size + 1) j
    refine this.trans ?_
    have hsz : s.size ≤ (bytesRow s (grownCap w s.size 0 5)).size := by
      generalize grownCap w s.size 0 5 = c
      unfold bytesRow
      rw [Array.size_append, Array.size_map]
      exact Nat.le_add_right _ _
    rw [decide_eq_false (by omega), Bool.false_and]
  · exact ((Below.refl _ _).drew).alloc (Nat.le_refl _) _
  · show w.heap.size < (w.drew.alloc _).heap.size
    show w.heap.size < (w.heap.push _).size
    simp
theorem xor_u8 (c x : UInt8) : bits BinOp.xor IntKind.u8 (c.toNat : Int) (x.toNat : Int) = ((c ^^^ x).toNat : Int) := by
  rw [u8_xor_nat _ _ c.toNat_lt x.toNat_lt, UInt8.toNat_xor]
theorem xor_ne (c x : UInt8) (h : x ≠ 0) : c ^^^ x ≠ c := by
  intro e
  apply h
  have : c ^^^ (c ^^^ x) = c ^^^ c := by rw [e]
  rw [← UInt8.xor_assoc, UInt8.xor_self, UInt8.zero_xor] at this
  exact this
/-- 'string(b)' behind one byte turned. -/
theorem conv_turned (s : ByteArray) (W : World) (g cap i : Nat) (x : UInt8) (hi : i < s.size) (hc : ∀ j (h : j < s.size), W.cell? ⟨g, j, none⟩ = some (.int .u8 (s[j].toNat : Int))) :
    (convert 41 9 (.slice (some ⟨g, 0, none⟩) s.size cap)).run Try.prog (W.setCell ⟨g, i, none⟩ (.int .u8 (x.toNat : Int))) = .ok (.string ⟨(s.data.toList.set i x).toArray⟩) (W.setCell ⟨g, i, none⟩ (.int .u8 (x.toNat : Int))) := by
  have hl : (s.data.toList.set i x).length = s.size := by simp
  have := run_convert_bytes_back (P := Try.prog) (W.setCell ⟨g, i, none⟩ (.int .u8 (x.toNat : Int))) 41 9 5 ⟨g, 0, none⟩ cap (s.data.toList.set i x) Try.underlying41 Try.underlying5 Try.underlying9 (fun j hj => ?_)
  · rw [hl] at this; exact this
  · rw [Addr.add_lit, Nat.zero_add]
    have hj' : j < s.size := by rw [hl] at hj; exact hj
    rw [List.getElem_set]
    by_cases hij : i = j
    · subst hij
      rw [if_pos rfl]
      exact World.cell?_setCell_same _ _ _ (hc i hi)
    · rw [if_neg hij]
      rw [World.cell?_setCell_other _ _ _ _ (by simp [hij])]
      exact hc j hj'
/-- 'string([]byte{x})'. -/
theorem conv_one (W : World) (x : UInt8) :
    (convert 41 9 (.slice (some ⟨W.heap.size, 0, none⟩) 1 1)).run Try.prog (W.alloc (.cells #[.int .u8 (x.toNat : Int)] 5)) = .ok (.string ⟨#[x]⟩) (W.alloc (.cells #[.int .u8 (x.toNat : Int)] 5)) := by
  refine run_convert_bytes_back (P := Try.prog) _ 41 9 5 ⟨W.heap.size, 0, none⟩ 1 [x] Try.underlying41 Try.underlying5 Try.underlying9 (fun j hj => ?_)
  have hj0 : j = 0 := by simpa using hj
  subst hj0
  exact cell_one_new W _ 5 0 _ rfl

set_option maxRecDepth 100000 in
set_option maxHeartbeats 1000000 in
theorem turned_zero (a0 a1 a2 a3 a4 a5 a6 a7 : Nat) (tg : Bool) (tag dg at_ : Nat) (w : World) (hok : (⟨a0, a1, a2, a3, a4, a5, a6, a7, tg, tag, dg⟩ : Fr).ok) :
    Calls Try.prog 5 #[frv a0 a1 a2 a3 a4 a5 a6 a7 tg tag dg, .int .u8 at_, .int .u8 0] w fun e w' => e = .returned (.bool true) ∧ Below w.heap.size w w' := by
  have HO : Hid ((⟨a0, a1, a2, a3, a4, a5, a6, a7, tg, tag, dg⟩ : Fr).ok) := hok
  clear hok
  unfold frv frc
  go_enter Try.func5, Try.ntmps5
  go_wp2_with fail
  have hrow : (w.alloc (.cells (frc a0 a1 a2 a3 a4 a5 a6 a7 tg tag dg) 28)).heap[w.heap.size]? = some (.cells (frc a0 a1 a2 a3 a4 a5 a6 a7 tg tag dg) 28) := heap_alloc_new _ _
  have HB1 : Hid (Below w.heap.size w (w.alloc (.cells (frc a0 a1 a2 a3 a4 a5 a6 a7 tg tag dg) 28))) := (Below.refl _ _).alloc (Nat.le_refl _) _
  refine (awake_any _).mono ?_
  rintro e w1 ⟨rfl, hb1⟩
  have hrow1 : w1.heap[w.heap.size]? = some (.cells (frc a0 a1 a2 a3 a4 a5 a6 a7 tg tag dg) 28) := by
    rw [hb1.block _ (heap_lt hrow)]; exact hrow
  have HB2 : Hid (Below w.heap.size w w1) := HB1.out.trans (hb1.mono HB1.out.size)
  clear hrow hb1 HB1
  obtain ⟨⟨q0, q1, q2, q3, q4, q5, q6, q7, q8, q9, q10⟩, hsz⟩ := row11 hrow1
  clear hrow1
  go_wp2_with fail
  refine (encode_any a0 a1 a2 a3 a4 a5 a6 a7 tg tag dg _ HO.out).mono ?_
  rintro e w2 ⟨rfl, hb2⟩
  clear q0 q1 q2 q3 q4 q5 q6 q7 q8 q9 q10 hsz
  go_wp2_with fail
  go_ret
  exact ⟨rfl, HB2.out.trans (hb2.mono HB2.out.size)⟩
set_option maxRecDepth 100000 in
set_option maxHeartbeats 1000000 in
theorem turned_false (a0 a1 a2 a3 a4 a5 a6 a7 : Nat) (tag dg at_ : Nat) (x : UInt8) (w : World) (hok : (⟨a0, a1, a2, a3, a4, a5, a6, a7, false, tag, dg⟩ : Fr).ok) (hat : at_ < 256) (hx : x ≠ 0) :
    Calls Try.prog 5 #[frv a0 a1 a2 a3 a4 a5 a6 a7 false tag dg, .int .u8 at_, .int .u8 (x.toNat : Int)] w fun e w' => e = .returned (.bool true) ∧ Below w.heap.size w w' := by
  have HO : Hid ((⟨a0, a1, a2, a3, a4, a5, a6, a7, false, tag, dg⟩ : Fr).ok) := hok
  clear hok
  have HX : Hid (x ≠ 0) := hx
  have hx0 : ((x.toNat : Int) == 0) = false := by
    have : x.toNat ≠ 0 := fun h => hx (UInt8.toNat_inj.1 (by simpa using h))
    simp; omega
  clear hx
  obtain ⟨l, hl⟩ : ∃ l, encOf ⟨a0, a1, a2, a3, a4, a5, a6, a7, false, tag, dg⟩ = l := ⟨_, rfl⟩
  have HL : Hid (encOf ⟨a0, a1, a2, a3, a4, a5, a6, a7, false, tag, dg⟩ = l) := hl
  have HF : Hid (isF l = true) := by show _ = _; rw [← hl]; exact isF_enc _
  have HLn : Hid (l.length = 16) := by show _ = _; rw [← hl, encOf_length]; rfl
  clear hl
  obtain ⟨i, hi⟩ : ∃ i, i = at_ % 16 := ⟨_, rfl⟩
  have hin : i < 16 := by omega
  have hmod : (at_ : Int) % 16 = (i : Int) := by omega
  clear hi
  obtain ⟨s, hs⟩ : ∃ s, ByteArray.mk l.toArray = s := ⟨_, rfl⟩
  have HS : Hid (ByteArray.mk l.toArray = s) := hs
  have hsz : s.size = 16 := by rw [← hs, size_mk]; exact HLn.out
  have HD : Hid (s.data.toList = l) := by show _ = _; rw [← hs]
  have HX1 : Hid (s.extract 0 i = ⟨(l.take i).toArray⟩) := by show _ = _; rw [← hs, extract_to]
  clear hs
  unfold frv frc
  go_enter Try.func5, Try.ntmps5
  go_wp2_with fail
  have hrow : (w.alloc (.cells (frc a0 a1 a2 a3 a4 a5 a6 a7 false tag dg) 28)).heap[w.heap.size]? = some (.cells (frc a0 a1 a2 a3 a4 a5 a6 a7 false tag dg) 28) := heap_alloc_new _ _
  have HB1 : Hid (Below w.heap.size w (w.alloc (.cells (frc a0 a1 a2 a3 a4 a5 a6 a7 false tag dg) 28))) := (Below.refl _ _).alloc (Nat.le_refl _) _
  refine (awake_any _).mono ?_
  rintro e w1 ⟨rfl, hb1⟩
  have hrow1 : w1.heap[w.heap.size]? = some (.cells (frc a0 a1 a2 a3 a4 a5 a6 a7 false tag dg) 28) := by
    rw [hb1.block _ (heap_lt hrow)]; exact hrow
  have HB2 : Hid (Below w.heap.size w w1) := HB1.out.trans (hb1.mono HB1.out.size)
  clear hrow hb1 HB1
  obtain ⟨⟨q0, q1, q2, q3, q4, q5, q6, q7, q8, q9, q10⟩, hsz1⟩ := row11 hrow1
  clear hrow1
  go_wp2_with fail
  refine (encode_any a0 a1 a2 a3 a4 a5 a6 a7 false tag dg _ HO.out).mono ?_
  rintro e w2 ⟨rfl, hb2⟩
  have HB3 : Hid (Below w.heap.size w w2) := HB2.out.trans (hb2.mono HB2.out.size)
  clear q0 q1 q2 q3 q4 q5 q6 q7 q8 q9 q10 hsz1 hb2 HB2
  rw [HL.out, HS.out]
  have his : i < s.size := by rw [hsz]; exact hin
  have hil : i < l.length := by rw [HLn.out]; exact hin
  obtain ⟨W, cap, hcv, hcell, hbW, hWs⟩ := bytes_new s w2
  have hci := (hcell i his).1
  have hfi := (hcell i his).2
  have hxor := xor_u8 s[i] x
  have HNE : Hid (s[i] ^^^ x ≠ l[i]) := by
    have e : s[i] = l[i] := by
      have h1 : l[i]? = some s[i] := by rw [← HD.out, List.getElem?_eq_getElem (by simpa using his)]; rfl
      rw [List.getElem?_eq_getElem hil] at h1
      injection h1 with h1
      exact h1.symm
    show _ ≠ _
    rw [e]; exact xor_ne _ _ HX.out
  have hcv2 := conv_turned s W w2.heap.size cap i (s[i] ^^^ x) his (fun j h => (hcell j h).1)
  rw [HD.out] at hcv2
  have HT : Hid (isF (l.set i (s[i] ^^^ x)) = false) := turned_no HF.out i hil _ HNE.out
  rw [hsz] at hcv hcv2
  generalize s[i] ^^^ x = y at *
  generalize s[i] = c at *
  have HBW : Hid (Below w.heap.size w W) := HB3.out.trans (hbW.mono HB3.out.size)
  have HBW2 : Hid (Below w.heap.size w (W.setCell ⟨w2.heap.size, i, none⟩ (.int .u8 (y.toNat : Int)))) := HBW.out.setCell HB3.out.size _
  clear hcell hbW HNE HB3 HBW
  go_wp2_with fail
  refine (decode_none (l.set i y) HT.out (by rw [List.length_set, HLn.out]; decide) _).mono ?_
  rintro e w3 ⟨rfl, hb3⟩
  have HB4 : Hid (Below w.heap.size w w3) := HBW2.out.trans (hb3.mono HBW2.out.size)
  clear hb3 HBW2 hcv hcv2 hci hfi hxor HT hWs
  rw [show zeroFr.v = .agg zeroC from rfl]
  go_wp2_with fail
  rw [HX1.out]
  refine (decode_none (l.take i) (cut_no HF.out i hil) (by rw [List.length_take, HLn.out]; omega) _).mono ?_
  rintro e w4 ⟨rfl, hb4⟩
  have HB5 : Hid (Below w.heap.size w w4) := (HB4.out.alloc HB4.out.size _).trans (hb4.mono (HB4.out.alloc HB4.out.size _).size)
  clear hb4 HB4
  rw [show zeroFr.v = .agg zeroC from rfl]
  have hcv3 : ∀ o : Obj, (convert 41 9 (.slice (some ⟨w4.heap.size + 1, 0, none⟩) 1 1)).run Try.prog ((w4.alloc o).alloc (.cells #[.int .u8 (x.toNat : Int)] 5)) = .ok (.string ⟨#[x]⟩) ((w4.alloc o).alloc (.cells #[.int .u8 (x.toNat : Int)] 5)) := by
    intro o
    have h := conv_one (w4.alloc o) x
    rw [show (w4.alloc o).heap.size = w4.heap.size + 1 by simp] at h
    exact h
  have HA : Hid (s ++ ⟨#[x]⟩ = ⟨(l ++ [x]).toArray⟩) := by
    show _ = _
    rw [← bytes_eta (s ++ ⟨#[x]⟩), data_append, HD.out]
  go_wp2_with fail
  rw [HA.out]
  refine (decode_none (l ++ [x]) (more_no HF.out x) (by rw [List.length_append, HLn.out, List.length_singleton]; decide) _).mono ?_
  rintro e w5 ⟨rfl, hb5⟩
  rw [show zeroFr.v = .agg zeroC from rfl]
  clear hcv3
  have HB6 : Hid (Below w.heap.size w w5) := ((HB5.out.alloc HB5.out.size _).alloc (by have := HB5.out.size; simp; omega) _).trans (hb5.mono ((HB5.out.alloc HB5.out.size _).alloc (by have := HB5.out.size; simp; omega) _).size)
  clear hb5 HB5
  go_wp2_with fail
  go_ret
  exact ⟨rfl, HB6.out.alloc HB6.out.size _⟩
set_option maxRecDepth 100000 in
set_option maxHeartbeats 1000000 in
theorem turned_true (a0 a1 a2 a3 a4 a5 a6 a7 : Nat) (tag dg at_ : Nat) (x : UInt8) (w : World) (hok : (⟨a0, a1, a2, a3, a4, a5, a6, a7, true, tag, dg⟩ : Fr).ok) (hat : at_ < 256) (hx : x ≠ 0) :
    Calls Try.prog 5 #[frv a0 a1 a2 a3 a4 a5 a6 a7 true tag dg, .int .u8 at_, .int .u8 (x.toNat : Int)] w fun e w' => e = .returned (.bool true) ∧ Below w.heap.size w w' := by
  have HO : Hid ((⟨a0, a1, a2, a3, a4, a5, a6, a7, true, tag, dg⟩ : Fr).ok) := hok
  clear hok
  have HX : Hid (x ≠ 0) := hx
  have hx0 : ((x.toNat : Int) == 0) = false := by
    have : x.toNat ≠ 0 := fun h => hx (UInt8.toNat_inj.1 (by simpa using h))
    simp; omega
  clear hx
  obtain ⟨l, hl⟩ : ∃ l, encOf ⟨a0, a1, a2, a3, a4, a5, a6, a7, true, tag, dg⟩ = l := ⟨_, rfl⟩
  have HL : Hid (encOf ⟨a0, a1, a2, a3, a4, a5, a6, a7, true, tag, dg⟩ = l) := hl
  have HF : Hid (isF l = true) := by show _ = _; rw [← hl]; exact isF_enc _
  have HLn : Hid (l.length = 26) := by show _ = _; rw [← hl, encOf_length]; rfl
  clear hl
  obtain ⟨i, hi⟩ : ∃ i, i = at_ % 26 := ⟨_, rfl⟩
  have hin : i < 26 := by omega
  have hmod : (at_ : Int) % 26 = (i : Int) := by omega
  clear hi
  obtain ⟨s, hs⟩ : ∃ s, ByteArray.mk l.toArray = s := ⟨_, rfl⟩
  have HS : Hid (ByteArray.mk l.toArray = s) := hs
  have hsz : s.size = 26 := by rw [← hs, size_mk]; exact HLn.out
  have HD : Hid (s.data.toList = l) := by show _ = _; rw [← hs]
  have HX1 : Hid (s.extract 0 i = ⟨(l.take i).toArray⟩) := by show _ = _; rw [← hs, extract_to]
  clear hs
  unfold frv frc
  go_enter Try.func5, Try.ntmps5
  go_wp2_with fail
  have hrow : (w.alloc (.cells (frc a0 a1 a2 a3 a4 a5 a6 a7 true tag dg) 28)).heap[w.heap.size]? = some (.cells (frc a0 a1 a2 a3 a4 a5 a6 a7 true tag dg) 28) := heap_alloc_new _ _
  have HB1 : Hid (Below w.heap.size w (w.alloc (.cells (frc a0 a1 a2 a3 a4 a5 a6 a7 true tag dg) 28))) := (Below.refl _ _).alloc (Nat.le_refl _) _
  refine (awake_any _).mono ?_
  rintro e w1 ⟨rfl, hb1⟩
  have hrow1 : w1.heap[w.heap.size]? = some (.cells (frc a0 a1 a2 a3 a4 a5 a6 a7 true tag dg) 28) := by
    rw [hb1.block _ (heap_lt hrow)]; exact hrow
  have HB2 : Hid (Below w.heap.size w w1) := HB1.out.trans (hb1.mono HB1.out.size)
  clear hrow hb1 HB1
  obtain ⟨⟨q0, q1, q2, q3, q4, q5, q6, q7, q8, q9, q10⟩, hsz1⟩ := row11 hrow1
  clear hrow1
  go_wp2_with fail
  refine (encode_any a0 a1 a2 a3 a4 a5 a6 a7 true tag dg _ HO.out).mono ?_
  rintro e w2 ⟨rfl, hb2⟩
  have HB3 : Hid (Below w.heap.size w w2) := HB2.out.trans (hb2.mono HB2.out.size)
  clear q0 q1 q2 q3 q4 q5 q6 q7 q8 q9 q10 hsz1 hb2 HB2
  rw [HL.out, HS.out]
  have his : i < s.size := by rw [hsz]; exact hin
  have hil : i < l.length := by rw [HLn.out]; exact hin
  obtain ⟨W, cap, hcv, hcell, hbW, hWs⟩ := bytes_new s w2
  have hci := (hcell i his).1
  have hfi := (hcell i his).2
  have hxor := xor_u8 s[i] x
  have HNE : Hid (s[i] ^^^ x ≠ l[i]) := by
    have e : s[i] = l[i] := by
      have h1 : l[i]? = some s[i] := by rw [← HD.out, List.getElem?_eq_getElem (by simpa using his)]; rfl
      rw [List.getElem?_eq_getElem hil] at h1
      injection h1 with h1
      exact h1.symm
    show _ ≠ _
    rw [e]; exact xor_ne _ _ HX.out
  have hcv2 := conv_turned s W w2.heap.size cap i (s[i] ^^^ x) his (fun j h => (hcell j h).1)
  rw [HD.out] at hcv2
  have HT : Hid (isF (l.set i (s[i] ^^^ x)) = false) := turned_no HF.out i hil _ HNE.out
  rw [hsz] at hcv hcv2
  generalize s[i] ^^^ x = y at *
  generalize s[i] = c at *
  have HBW : Hid (Below w.heap.size w W) := HB3.out.trans (hbW.mono HB3.out.size)
  have HBW2 : Hid (Below w.heap.size w (W.setCell ⟨w2.heap.size, i, none⟩ (.int .u8 (y.toNat : Int)))) := HBW.out.setCell HB3.out.size _
  clear hcell hbW HNE HB3 HBW
  go_wp2_with fail
  refine (decode_none (l.set i y) HT.out (by rw [List.length_set, HLn.out]; decide) _).mono ?_
  rintro e w3 ⟨rfl, hb3⟩
  have HB4 : Hid (Below w.heap.size w w3) := HBW2.out.trans (hb3.mono HBW2.out.size)
  clear hb3 HBW2 hcv hcv2 hci hfi hxor HT hWs
  rw [show zeroFr.v = .agg zeroC from rfl]
  go_wp2_with fail
  rw [HX1.out]
  refine (decode_none (l.take i) (cut_no HF.out i hil) (by rw [List.length_take, HLn.out]; omega) _).mono ?_
  rintro e w4 ⟨rfl, hb4⟩
  have HB5 : Hid (Below w.heap.size w w4) := (HB4.out.alloc HB4.out.size _).trans (hb4.mono (HB4.out.alloc HB4.out.size _).size)
  clear hb4 HB4
  rw [show zeroFr.v = .agg zeroC from rfl]
  have hcv3 : ∀ o : Obj, (convert 41 9 (.slice (some ⟨w4.heap.size + 1, 0, none⟩) 1 1)).run Try.prog ((w4.alloc o).alloc (.cells #[.int .u8 (x.toNat : Int)] 5)) = .ok (.string ⟨#[x]⟩) ((w4.alloc o).alloc (.cells #[.int .u8 (x.toNat : Int)] 5)) := by
    intro o
    have h := conv_one (w4.alloc o) x
    rw [show (w4.alloc o).heap.size = w4.heap.size + 1 by simp] at h
    exact h
  have HA : Hid (s ++ ⟨#[x]⟩ = ⟨(l ++ [x]).toArray⟩) := by
    show _ = _
    rw [← bytes_eta (s ++ ⟨#[x]⟩), data_append, HD.out]
  go_wp2_with fail
  rw [HA.out]
  refine (decode_none (l ++ [x]) (more_no HF.out x) (by rw [List.length_append, HLn.out, List.length_singleton]; decide) _).mono ?_
  rintro e w5 ⟨rfl, hb5⟩
  rw [show zeroFr.v = .agg zeroC from rfl]
  clear hcv3
  have HB6 : Hid (Below w.heap.size w w5) := ((HB5.out.alloc HB5.out.size _).alloc (by have := HB5.out.size; simp; omega) _).trans (hb5.mono ((HB5.out.alloc HB5.out.size _).alloc (by have := HB5.out.size; simp; omega) _).size)
  clear hb5 HB5
  go_wp2_with fail
  go_ret
  exact ⟨rfl, HB6.out.alloc HB6.out.size _⟩
end Go.Proofs.Ytaplnbofglljdaa
