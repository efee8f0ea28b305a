/- What the document's Digits and Names answer; numbers up to 65535. -/
import Derived.Test.YtebpapmnkbehnaaDoorV1
import Derived.Lib.SmallJoins
import Derived.Lib.QuietBelow
import Derived.Deep.RegionWith
import Derived.Lib.ItoaLen
import Derived.Test.YtebpapmnkbehnaaDoorV4
set_option linter.unusedVariables false
set_option linter.unusedSimpArgs false
namespace Go.Proofs.YtebpapmnkbehnaaDoor
open Go.RowKit Go.Joins

/-! ### Digits -/
theorem cat_one (X : List UInt8) (c : UInt8) : Ending.returned (.string ((⟨X.toArray⟩ : ByteArray) ++ ⟨#[c]⟩)) = .returned (.string ⟨(X ++ [c]).toArray⟩) := by
  have e : ((⟨X.toArray⟩ : ByteArray) ++ ⟨#[c]⟩) = ⟨(X ++ [c]).toArray⟩ := by
    apply ByteArray.ext
    rw [ByteArray.data_append]
    simp
  rw [e]
theorem conv_byte (W : World) (b : Nat) (z : Int) (h : W.cell? ⟨b, 0, none⟩ = some (.int .u8 z)) :
    (convert 48 9 (.slice (some ⟨b, 0, none⟩) 1 1)).run Tryd.prog W = .ok (.string ⟨#[UInt8.ofNat z.toNat]⟩) W := by
  have := run_convert_bytes_arg (P := Tryd.prog) W 48 5 Tryd.underlying48 Tryd.underlying5 b 0 1 1 [z] rfl (fun i hi => by
    obtain rfl : i = 0 := by omega
    simpa using h) 9 Tryd.underlying9
  rw [this]; rfl

set_option maxRecDepth 100000 in
set_option maxHeartbeats 400000 in
theorem digits_small (n : Nat) (h : n < 10) (w : World) : Calls Tryd.prog 22 #[.int .i64 n] w fun e w' => e = .returned (.string ⟨(Lib.decDigits n).toArray⟩) ∧ Below w.heap.size w w' := by
  have d : decide ((n : Int) < 10) = true := by simp; omega
  have hcv := fun W b => conv_byte W b (48 + (n : Int))
  have hd : Hid (Lib.decDigits n = [UInt8.ofNat (48 + (n : Int)).toNat]) := by
    show _ = _
    rw [Lib.decDigits_one h]
    congr 2
  generalize UInt8.ofNat (48 + (n : Int)).toNat = c at *
  go_enter Tryd.func22, Tryd.ntmps22
  go_wp2
  go_ret
  exact ⟨by rw [hd.out]; rfl, (Below.refl _ _).alloc (Nat.le_refl _) _⟩

set_option maxRecDepth 100000 in
set_option maxHeartbeats 1000000 in
theorem digits_step (n : Nat) (h : ¬ n < 10) (hn : n ≤ 65535) (w : World) (ih : Hid (∀ w : World, Calls Tryd.prog 22 #[.int .i64 ((n : Int) / 10)] w fun e w' => e = .returned (.string ⟨(Lib.decDigits (n / 10)).toArray⟩) ∧ Below w.heap.size w w')) :
    Calls Tryd.prog 22 #[.int .i64 n] w fun e w' => e = .returned (.string ⟨(Lib.decDigits n).toArray⟩) ∧ Below w.heap.size w w' := by
  have d : decide ((n : Int) < 10) = false := by simp; omega
  have hcv := fun W b => conv_byte W b (48 + (n : Int) % 10)
  have hd : Hid (Lib.decDigits n = Lib.decDigits (n / 10) ++ [UInt8.ofNat (48 + (n : Int) % 10).toNat]) := by
    show _ = _
    rw [Lib.decDigits, dif_neg h]
    congr 3
  have hlen : (Lib.decDigits (n / 10)).length ≤ 20 := by
    have := digits_len5 (n / 10) (by omega)
    omega
  generalize UInt8.ofNat (48 + (n : Int) % 10).toNat = c at *
  generalize Lib.decDigits (n / 10) = X at *
  have e1 : (n : Int).tmod 10 = (n : Int) % 10 := Int.tmod_eq_emod_of_nonneg (by omega)
  have e2 : IntKind.i64.wrap ((n : Int) / 10) = (n : Int) / 10 := wr64 _ (by omega) (by omega)
  have e3 : IntKind.i64.wrap (48 + (n : Int) % 10) = 48 + (n : Int) % 10 := wr64 _ (by omega) (by omega)
  have e4 : IntKind.u8.wrap (48 + (n : Int) % 10) = 48 + (n : Int) % 10 := wr8 _ (by omega) (by omega)
  go_enter Tryd.func22, Tryd.ntmps22
  go_wp2
  go_region_with (go_at_call 22; refine (ih.out _).mono ?_; rintro e w1 ⟨rfl, hb1⟩; (first | (have hc1 := hb1.cell (p := ⟨w.heap.size, 0, none⟩) (lt_alloc w _); simp at hc1) | skip))
  all_goals
    go_wp2
    go_ret
    refine ⟨by rw [hd.out]; exact cat_one X c, ?_⟩
  · have hb : Below w.heap.size w w1 := (Below.refl _ w).drew.trans hb1
    exact hb.alloc hb.size _
  · exact (((Below.refl _ w).alloc (Nat.le_refl _) _).drew).trans (hb1.mono (Nat.le_of_lt (lt_alloc w _)))
  · exact (((Below.refl _ w).alloc (Nat.le_refl _) _).drew).trans (hb1.mono (Nat.le_of_lt (lt_alloc w _)))

theorem digits_any : ∀ (n : Nat), n ≤ 65535 → ∀ w : World, Calls Tryd.prog 22 #[.int .i64 n] w fun e w' => e = .returned (.string ⟨(Lib.decDigits n).toArray⟩) ∧ Below w.heap.size w w' := by
  intro n
  induction n using Nat.strongRecOn with
  | ind n ih =>
    intro hn w
    by_cases h : n < 10
    · exact digits_small n h w
    · refine digits_step n h hn w (fun w => ?_)
      have := ih (n / 10) (by omega) (by omega) w
      rw [show ((n : Int) / 10) = ((n / 10 : Nat) : Int) from by omega]
      exact this
/-- The names as cells. -/
def nmCells : Array Value := #[.string ⟨#[115, 119]⟩, .string ⟨#[112, 116]⟩, .string ⟨#[115, 114, 99]⟩, .string ⟨#[100, 115, 116]⟩, .string ⟨#[116, 121, 112]⟩, .string ⟨#[115, 118, 99]⟩, .string ⟨#[118, 105, 100]⟩, .string ⟨#[111, 112, 116]⟩]
theorem nmCells_at (k : Nat) (hk : k < 8) : nmCells[k]? = some (.string ⟨(nm8.getD k []).toArray⟩) := by
  match k, hk with
  | 0, _ => rfl
  | 1, _ => rfl
  | 2, _ => rfl
  | 3, _ => rfl
  | 4, _ => rfl
  | 5, _ => rfl
  | 6, _ => rfl
  | 7, _ => rfl
set_option maxRecDepth 100000 in
set_option maxHeartbeats 400000 in
theorem rnames_any (w : World) : Calls Tryd.prog 23 #[] w fun e w' => e = .returned (.slice (some ⟨w.heap.size, 0, none⟩) 8 8) ∧ w' = w.alloc (.cells nmCells 9) := by
  go_enter Tryd.func23, Tryd.ntmps23
  go_wp2
  go_ret
  exact ⟨rfl, rfl⟩

end Go.Proofs.YtebpapmnkbehnaaDoor
/- What the document's within answers, and how texts are put together piece by piece. -/
set_option linter.unusedVariables false
set_option linter.unusedSimpArgs false
namespace Go.Proofs.YtebpapmnkbehnaaDoor
open Go.RowKit Go.Joins Go.Lib Go.Sort

theorem joinS_snoc (sep : List UInt8) (l : List (List UInt8)) (x : List UInt8) : joinS sep (l ++ [x]) = if l = [] then x else joinS sep l ++ (sep ++ x) := by
  cases l with
  | nil => simp [joinS]
  | cons a r => simp [joinS]
theorem joinS_first (sep : List UInt8) (l : List (List UInt8)) (h : 0 < l.length) : joinS sep (l.take (0 + 1)) = l[0] := by
  cases l with
  | nil => simp at h
  | cons a r => simp [joinS]
theorem joinS_next (sep : List UInt8) (l : List (List UInt8)) (k : Nat) (h : k < l.length) (h0 : 0 < k) : joinS sep (l.take (k + 1)) = joinS sep (l.take k) ++ (sep ++ l[k]) := by
  rw [List.take_add_one, List.getElem?_eq_getElem h]
  show joinS sep (l.take k ++ [l[k]]) = _
  rw [joinS_snoc, if_neg]
  intro e
  have := congrArg List.length e
  simp only [List.length_take, List.length_nil] at this
  omega
theorem joinS_take_le (sep : List UInt8) (q : Nat) (l : List (List UInt8)) (k : Nat) (hq : ∀ x ∈ l, x.length ≤ q) : (joinS sep (l.take k)).length ≤ l.length * (sep.length + q) := by
  have h1 := joinS_le sep q (l.take k) (fun x hx => hq x (List.mem_of_mem_take hx))
  have h2 : (l.take k).length ≤ l.length := by simp; omega
  exact Nat.le_trans h1 (Nat.mul_le_mul_right _ h2)
/-- A kid stands between ( and ), in a sum or not. -/
def opS (s : Bool) (K : Pl) : Bool := decide (K.op = 7) || (decide (K.op = 6) && !s)

set_option maxHeartbeats 1000000 in
theorem rwithin_any (s : Bool) (yo yf yn : Int) (s2 : Option Addr) (n2 c2 : Nat) (K : Pl) (hop : yo = K.op) (hl : (textP K).length ≤ 100000) (w : World)
    (c : ∀ W, Below w.heap.size w W → Calls Tryd.prog 17 #[nv ⟨yo, yf, yn, .slice s2 n2 c2⟩] W fun e w' => e = .returned (.string ⟨(textP K).toArray⟩) ∧ Below W.heap.size W w') :
    Calls Tryd.prog 35 #[nv ⟨yo, yf, yn, .slice s2 n2 c2⟩, .bool s] w fun e w' => e = .returned (.string ⟨(wrapB (opS s K) (textP K)).toArray⟩) ∧ Below w.heap.size w w' := by
  have HB0 : Hid (Below w.heap.size w (w.alloc (pobj ⟨yo, yf, yn, .slice s2 n2 c2⟩))) := (Below.refl _ w).alloc (Nat.le_refl _) _
  have C := c _ HB0.out
  unfold opS
  rw [← hop]
  clear c hop
  by_cases h7 : yo = 7
  · subst h7
    simp only [decide_true, Bool.true_or]
    go_enter Tryd.func35, Tryd.ntmps35
    go_wp2_with fail
    refine C.mono ?_
    rintro e w2 ⟨rfl, hb2⟩
    have HB2 : Hid (Below w.heap.size w w2) := HB0.out.trans (hb2.mono HB0.out.size)
    clear hb2 C
    go_wp2
    go_ret
    exact ⟨by rw [par_str]; rfl, HB2.out⟩
  have d7 : (yo == 7) = false := by simpa using h7
  have e7 : decide (yo = 7) = false := by simpa using h7
  rw [e7, Bool.false_or]
  by_cases h6 : yo = 6
  · subst h6
    cases s with
    | true =>
      simp only [decide_true, Bool.not_true, Bool.and_false]
      go_enter Tryd.func35, Tryd.ntmps35
      go_wp2_with fail
      refine C.mono ?_
      rintro e w2 ⟨rfl, hb2⟩
      have HB2 : Hid (Below w.heap.size w w2) := HB0.out.trans (hb2.mono HB0.out.size)
      clear hb2 C
      go_wp2
      go_ret
      exact ⟨rfl, HB2.out⟩
    | false =>
      simp only [decide_true, Bool.not_false, Bool.and_true]
      go_enter Tryd.func35, Tryd.ntmps35
      go_wp2_with fail
      refine C.mono ?_
      rintro e w2 ⟨rfl, hb2⟩
      have HB2 : Hid (Below w.heap.size w w2) := HB0.out.trans (hb2.mono HB0.out.size)
      clear hb2 C
      go_wp2
      go_ret
      exact ⟨by rw [par_str]; rfl, HB2.out⟩
  have d6 : (yo == 6) = false := by simpa using h6
  have e6 : decide (yo = 6) = false := by simpa using h6
  rw [e6, Bool.false_and]
  go_enter Tryd.func35, Tryd.ntmps35
  go_wp2_with fail
  refine C.mono ?_
  rintro e w2 ⟨rfl, hb2⟩
  have HB2 : Hid (Below w.heap.size w w2) := HB0.out.trans (hb2.mono HB0.out.size)
  clear hb2 C
  go_wp2
  go_ret
  exact ⟨rfl, HB2.out⟩
end Go.Proofs.YtebpapmnkbehnaaDoor
/- What the document's text answers of a leaf. -/
set_option linter.unusedVariables false
set_option linter.unusedSimpArgs false
namespace Go.Proofs.YtebpapmnkbehnaaDoor
open Go.RowKit Go.Joins Go.Lib Go.Sort

theorem rnames_at (F : Nat) (hF : F < 8) (w : World) : Calls Tryd.prog 23 #[] w fun e w' => ∃ B : Nat, e = .returned (.slice (some ⟨B, 0, none⟩) 8 8) ∧ w'.cell? ⟨B, F, none⟩ = some (.string ⟨(nm8.getD F []).toArray⟩) ∧ Below w.heap.size w w' := by
  refine (rnames_any w).mono ?_
  rintro e w' ⟨rfl, rfl⟩
  refine ⟨w.heap.size, rfl, ?_, (Below.refl _ w).alloc (Nat.le_refl _) _⟩
  rw [cell_of_row _ _ _ _ _ _ (heap_alloc_new w _)]
  exact nmCells_at F hF
set_option maxRecDepth 100000 in
set_option maxHeartbeats 4000000 in
theorem rtext_test (F : Nat) (N : Nat) (hN : N ≤ 65535) (hF : F < 8) (sa : Option Addr) (n sc : Nat) (w : World) :
    Calls Tryd.prog 17 #[nv ⟨2, (F : Int), N, .slice sa n sc⟩] w fun e w' => e = .returned (.string ⟨(nm8.getD F [] ++ 61 :: decDigits N).toArray⟩) ∧ Below w.heap.size w w' := by
  have hb0 : Below w.heap.size w (w.alloc (pobj ⟨2, (F : Int), (N : Int), .slice sa n sc⟩)) := (Below.refl _ w).alloc (Nat.le_refl _) _
  have HB0 : Hid _ := hb0
  have HR0 : Hid ((w.alloc (pobj ⟨2, (F : Int), (N : Int), .slice sa n sc⟩)).heap[w.heap.size]? = some (pobj ⟨2, (F : Int), (N : Int), .slice sa n sc⟩)) := heap_alloc_new w _
  have cD := digits_any N hN (w.alloc (pobj ⟨2, (F : Int), (N : Int), .slice sa n sc⟩))
  have hd5 := digits_len5 N hN
  have cN := rnames_at F hF
  have hnl : (nm8.getD F []).length ≤ 3 := by have := nmB_len (F : Int); unfold nmB at this; simpa using this
  generalize nm8.getD F [] = X at *
  have CN : Hid (∀ W : World, Calls Tryd.prog 23 #[] W fun e w' => ∃ B : Nat, e = .returned (.slice (some ⟨B, 0, none⟩) 8 8) ∧ w'.cell? ⟨B, F, none⟩ = some (.string ⟨X.toArray⟩) ∧ Below W.heap.size W w') := cN
  clear cN
  clear hb0
  go_enter Tryd.func17, Tryd.ntmps17
  go_wp2_with fail
  refine cD.mono ?_
  rintro e w1 ⟨rfl, hb1⟩
  have HB1 : Hid (Below w.heap.size w w1) := HB0.out.trans (hb1.mono HB0.out.size)
  have HR1 : Hid (w1.heap[w.heap.size]? = some (pobj ⟨2, (F : Int), (N : Int), .slice sa n sc⟩)) := (hb1.block _ (heap_lt HR0.out)).trans HR0.out
  obtain ⟨q0, q1, q2, q3⟩ := row4 HR1.out
  clear hb1 cD HB0 HR0
  have HBd : Hid (Below w.heap.size w w1.drew) := below_drewN HB1.out 1
  have HRd : Hid (w1.drew.heap[w.heap.size]? = some (pobj ⟨2, (F : Int), (N : Int), .slice sa n sc⟩)) := HR1.out
  go_wp2_with fail
  go_region_with (go_at_call 23; refine (CN.out _).mono ?_; rintro e w2 ⟨B, rfl, hc, hb2⟩; have HB2 : Hid (Below w.heap.size w w2) := HBd.out.trans (hb2.mono HBd.out.size); obtain ⟨p0, p1, p2, p3⟩ := row4 ((hb2.block _ (heap_lt HRd.out)).trans HRd.out); clear hb2)
  all_goals
    go_wp2
    go_ret
    exact ⟨by rw [show X ++ 61 :: decDigits N = X ++ [61] ++ decDigits N by simp, ← sh_cat, ← sh_cat]; rfl, HB2.out⟩
set_option maxRecDepth 100000 in
set_option maxHeartbeats 4000000 in
theorem rtext_put (F : Nat) (N : Nat) (hN : N ≤ 65535) (hF : F < 8) (sa : Option Addr) (n sc : Nat) (w : World) :
    Calls Tryd.prog 17 #[nv ⟨5, (F : Int), N, .slice sa n sc⟩] w fun e w' => e = .returned (.string ⟨(nm8.getD F [] ++ 58 :: 61 :: decDigits N).toArray⟩) ∧ Below w.heap.size w w' := by
  have hb0 : Below w.heap.size w (w.alloc (pobj ⟨5, (F : Int), (N : Int), .slice sa n sc⟩)) := (Below.refl _ w).alloc (Nat.le_refl _) _
  have HB0 : Hid _ := hb0
  have HR0 : Hid ((w.alloc (pobj ⟨5, (F : Int), (N : Int), .slice sa n sc⟩)).heap[w.heap.size]? = some (pobj ⟨5, (F : Int), (N : Int), .slice sa n sc⟩)) := heap_alloc_new w _
  have cD := digits_any N hN (w.alloc (pobj ⟨5, (F : Int), (N : Int), .slice sa n sc⟩))
  have hd5 := digits_len5 N hN
  have cN := rnames_at F hF
  have hnl : (nm8.getD F []).length ≤ 3 := by have := nmB_len (F : Int); unfold nmB at this; simpa using this
  generalize nm8.getD F [] = X at *
  have CN : Hid (∀ W : World, Calls Tryd.prog 23 #[] W fun e w' => ∃ B : Nat, e = .returned (.slice (some ⟨B, 0, none⟩) 8 8) ∧ w'.cell? ⟨B, F, none⟩ = some (.string ⟨X.toArray⟩) ∧ Below W.heap.size W w') := cN
  clear cN
  clear hb0
  go_enter Tryd.func17, Tryd.ntmps17
  go_wp2_with fail
  refine cD.mono ?_
  rintro e w1 ⟨rfl, hb1⟩
  have HB1 : Hid (Below w.heap.size w w1) := HB0.out.trans (hb1.mono HB0.out.size)
  have HR1 : Hid (w1.heap[w.heap.size]? = some (pobj ⟨5, (F : Int), (N : Int), .slice sa n sc⟩)) := (hb1.block _ (heap_lt HR0.out)).trans HR0.out
  obtain ⟨q0, q1, q2, q3⟩ := row4 HR1.out
  clear hb1 cD HB0 HR0
  have HBd : Hid (Below w.heap.size w w1.drew) := below_drewN HB1.out 1
  have HRd : Hid (w1.drew.heap[w.heap.size]? = some (pobj ⟨5, (F : Int), (N : Int), .slice sa n sc⟩)) := HR1.out
  go_wp2_with fail
  go_region_with (go_at_call 23; refine (CN.out _).mono ?_; rintro e w2 ⟨B, rfl, hc, hb2⟩; have HB2 : Hid (Below w.heap.size w w2) := HBd.out.trans (hb2.mono HBd.out.size); obtain ⟨p0, p1, p2, p3⟩ := row4 ((hb2.block _ (heap_lt HRd.out)).trans HRd.out); clear hb2)
  all_goals
    go_wp2
    go_ret
    exact ⟨by rw [show X ++ 58 :: 61 :: decDigits N = X ++ [58, 61] ++ decDigits N by simp, ← sh_cat, ← sh_cat]; rfl, HB2.out⟩
set_option maxRecDepth 100000 in
set_option maxHeartbeats 4000000 in
theorem rtext_part (F : Nat) (N : Nat) (hN : N ≤ 65535) (hF : F ≤ 65535) (sa : Option Addr) (n sc : Nat) (w : World) :
    Calls Tryd.prog 17 #[nv ⟨3, (F : Int), N, .slice sa n sc⟩] w fun e w' => e = .returned (.string ⟨(64 :: (decDigits F ++ 61 :: decDigits N)).toArray⟩) ∧ Below w.heap.size w w' := by
  have HB0 : Hid (Below w.heap.size w (w.alloc (pobj ⟨3, (F : Int), (N : Int), .slice sa n sc⟩))) := (Below.refl _ w).alloc (Nat.le_refl _) _
  have HR0 : Hid ((w.alloc (pobj ⟨3, (F : Int), (N : Int), .slice sa n sc⟩)).heap[w.heap.size]? = some (pobj ⟨3, (F : Int), (N : Int), .slice sa n sc⟩)) := heap_alloc_new w _
  have cD := digits_any N hN (w.alloc (pobj ⟨3, (F : Int), (N : Int), .slice sa n sc⟩))
  have CF : Hid _ := digits_any F hF
  have hd5 := digits_len5 N hN
  have hf5 := digits_len5 F hF
  go_enter Tryd.func17, Tryd.ntmps17
  go_wp2_with fail
  refine cD.mono ?_
  rintro e w1 ⟨rfl, hb1⟩
  have HB1 : Hid (Below w.heap.size w w1) := HB0.out.trans (hb1.mono HB0.out.size)
  obtain ⟨q0, q1, q2, q3⟩ := row4 ((hb1.block _ (heap_lt HR0.out)).trans HR0.out)
  clear hb1 cD HB0 HR0
  go_wp2_with fail
  refine Calls.mono (CF.out w1) ?_
  rintro e w2 ⟨rfl, hb2⟩
  have HB2 : Hid (Below w.heap.size w w2) := HB1.out.trans (hb2.mono HB1.out.size)
  clear hb2
  go_wp2
  go_ret
  exact ⟨by rw [show 64 :: (decDigits F ++ 61 :: decDigits N) = [64] ++ decDigits F ++ [61] ++ decDigits N by simp, ← sh_cat, ← sh_cat, ← sh_cat]; rfl, HB2.out⟩
set_option maxRecDepth 100000 in
set_option maxHeartbeats 4000000 in
theorem rtext_drop (f : Int) (N : Nat) (hN : N ≤ 65535) (sa : Option Addr) (n sc : Nat) (w : World) :
    Calls Tryd.prog 17 #[nv ⟨0, f, N, .slice sa n sc⟩] w fun e w' => e = .returned (.string ⟨[100, 114, 111, 112].toArray⟩) ∧ Below w.heap.size w w' := by
  have HB0 : Hid (Below w.heap.size w (w.alloc (pobj ⟨0, f, (N : Int), .slice sa n sc⟩))) := (Below.refl _ w).alloc (Nat.le_refl _) _
  have HR0 : Hid ((w.alloc (pobj ⟨0, f, (N : Int), .slice sa n sc⟩)).heap[w.heap.size]? = some (pobj ⟨0, f, (N : Int), .slice sa n sc⟩)) := heap_alloc_new w _
  have cD := digits_any N hN (w.alloc (pobj ⟨0, f, (N : Int), .slice sa n sc⟩))
  go_enter Tryd.func17, Tryd.ntmps17
  go_wp2_with fail
  refine cD.mono ?_
  rintro e w1 ⟨rfl, hb1⟩
  have HB1 : Hid (Below w.heap.size w w1) := HB0.out.trans (hb1.mono HB0.out.size)
  obtain ⟨q0, q1, q2, q3⟩ := row4 ((hb1.block _ (heap_lt HR0.out)).trans HR0.out)
  clear hb1 cD HB0 HR0
  go_wp2
  go_ret
  exact ⟨rfl, HB1.out⟩
set_option maxRecDepth 100000 in
set_option maxHeartbeats 4000000 in
theorem rtext_id (f : Int) (N : Nat) (hN : N ≤ 65535) (sa : Option Addr) (n sc : Nat) (w : World) :
    Calls Tryd.prog 17 #[nv ⟨1, f, N, .slice sa n sc⟩] w fun e w' => e = .returned (.string ⟨[105, 100].toArray⟩) ∧ Below w.heap.size w w' := by
  have HB0 : Hid (Below w.heap.size w (w.alloc (pobj ⟨1, f, (N : Int), .slice sa n sc⟩))) := (Below.refl _ w).alloc (Nat.le_refl _) _
  have HR0 : Hid ((w.alloc (pobj ⟨1, f, (N : Int), .slice sa n sc⟩)).heap[w.heap.size]? = some (pobj ⟨1, f, (N : Int), .slice sa n sc⟩)) := heap_alloc_new w _
  have cD := digits_any N hN (w.alloc (pobj ⟨1, f, (N : Int), .slice sa n sc⟩))
  go_enter Tryd.func17, Tryd.ntmps17
  go_wp2_with fail
  refine cD.mono ?_
  rintro e w1 ⟨rfl, hb1⟩
  have HB1 : Hid (Below w.heap.size w w1) := HB0.out.trans (hb1.mono HB0.out.size)
  obtain ⟨q0, q1, q2, q3⟩ := row4 ((hb1.block _ (heap_lt HR0.out)).trans HR0.out)
  clear hb1 cD HB0 HR0
  go_wp2
  go_ret
  exact ⟨rfl, HB1.out⟩
end Go.Proofs.YtebpapmnkbehnaaDoor
