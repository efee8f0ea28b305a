/- What lex.Join answers: the tokens' text; lists of up to 5000 tokens with texts of up to 1000 bytes. -/
import Derived.Test.YtajdhpdbekigkaaDoorB2
set_option linter.unusedVariables false
set_option linter.unusedSimpArgs false
namespace Go.Proofs.YtajdhpdbekigkaaDoor
open Go.RowKit Go.Joins Go.Lib

theorem itoa_any (n : Nat) (hn : n ≤ 65535) (w : World) (h : Env w) : Calls Tryd.prog 12 #[.int .i64 (n : Int)] w fun e w' => e = .returned (str (decDigits n)) ∧ Below w.heap.size w w' := by
  refine (Tryd.strconv_Itoa (n : Int) (by omega) (by omega) w h.pow).mono ?_
  rintro e w' ⟨he, k, os, hw⟩
  refine ⟨?_, by rw [hw]; exact below_grown w k os⟩
  rw [he]
  unfold Lib.itoa
  rw [if_neg (by omega), Int.toNat_natCast]

/-- A builder that holds these bytes. -/
def Bd (B : Nat) (acc : List UInt8) (w : World) : Prop := Lib.IsBuilderF 37 5 B B (Lib.byteCells acc) w
theorem cells_cat (a x : List UInt8) : Lib.byteCells (a ++ x) = Lib.byteCells a ++ Lib.strCells ⟨x.toArray⟩ := by
  simp [Lib.byteCells, Lib.strCells]
theorem write_byte (B : Nat) (acc : List UInt8) (hl : acc.length ≤ 100000000) (w : World) (h : Bd B acc w) (hB : B ≤ w.heap.size) :
    Calls Tryd.prog 10 #[.pointer (some ⟨B, 0, none⟩), .int .u8 32] w fun e w' => e = .returned .nilIface ∧ Bd B (acc ++ [32]) w' ∧ Below B w w' ∧ Lib.OthersKept 5 (some B) w w' := by
  refine (Tryd.Builder_WriteByte_k B B _ 32 w h (by rw [Lib.byteCells_length]; omega) hB).mono ?_
  rintro e w' ⟨he, h1, h2, h3⟩
  refine ⟨he, ?_, h2, h3⟩
  unfold Bd
  rw [show Lib.byteCells (acc ++ [32]) = Lib.byteCells acc ++ [.int .u8 32] by simp [Lib.byteCells]]
  exact Or.inr h1
theorem write_string (B : Nat) (acc x : List UInt8) (hl : acc.length ≤ 100000000) (hx : x.length ≤ 100000000) (w : World) (h : Bd B acc w) (hB : B ≤ w.heap.size) :
    Calls Tryd.prog 11 #[.pointer (some ⟨B, 0, none⟩), str x] w fun e w' => e = .returned (.tuple #[.int .i64 (x.length : Int), .nilIface]) ∧ Bd B (acc ++ x) w' ∧ Below B w w' ∧ Lib.OthersKept 5 (some B) w w' := by
  refine (Tryd.Builder_WriteString_k B B _ ⟨x.toArray⟩ w h (by rw [Lib.byteCells_length, size_mk]; omega) hB).mono ?_
  rintro e w' ⟨he, h1, h2, h3⟩
  rw [size_mk] at he
  refine ⟨he, ?_, h2, h3⟩
  unfold Bd
  rw [cells_cat]
  exact Or.inr h1
theorem builder_below {T e : TypeId} {B b : Nat} {p : Value} {bs : List Value} {w w' : World} (h : Lib.BuilderAtF T e B b p bs w) (hw : Below w.heap.size w w') : Lib.BuilderAtF T e B b p bs w' := by
  obtain ⟨hB, v, hb, hown, hne⟩ := h
  refine ⟨hB, v, (hw.block _ (heap_lt hb)).trans hb, ⟨hown.1, ?_⟩, hne⟩
  rcases hown.2 with hn | ⟨g, cap, cur, fz, hv, hbg, hg, rest⟩
  · exact .inl hn
  · exact .inr ⟨g, cap, cur, fz, hv, hbg, (hw.block _ (heap_lt hg)).trans hg, rest⟩
theorem Bd.below {B : Nat} {acc : List UInt8} {w w' : World} (h : Bd B acc w) (hb : Below w.heap.size w w') : Bd B acc w' := by
  unfold Bd at h ⊢
  rcases h with h | h
  · exact .inl (builder_below h hb)
  · exact .inr (builder_below h hb)
theorem Bd.lt {B : Nat} {acc : List UInt8} {w : World} (h : Bd B acc w) : B < w.heap.size := by
  unfold Bd at h
  rcases h with h | h
  · exact h.lt
  · exact h.lt
theorem kept_row {B g : Nat} {cs : Array Value} {w w' : World} (h : Lib.OthersKept 5 (some B) w w') (hg : w.heap[g]? = some (.cells cs 26)) (hne : g ≠ B) : w'.heap[g]? = some (.cells cs 26) :=
  h g _ hg (fun e => hne (Option.some.inj e)) (fun c fz e => by cases e)

set_option maxRecDepth 100000 in
set_option maxHeartbeats 1000000 in
theorem join_any (v : Value) (L : List Tk) (hlen : L.length ≤ 5000) (hok : ∀ t ∈ L, okT t) (w : World) (hE : Env w) (h : Tks w v L) :
    Calls Tryd.prog 6 #[v] w fun e w' => e = .returned (str (joinT L)) ∧ Below w.heap.size w w' := by
  obtain ⟨sa, sc, rfl, hc⟩ := h
  have HE : Hid (Env w) := hE
  clear hE
  go_enter Tryd.func6, Tryd.ntmps6
  go_wp2_with fail
  go_loopw [8] (fun i wr => ∃ (k : Nat) (acc : List UInt8), k ≤ L.length ∧ i = .int .i64 (k : Int) ∧ acc.length ≤ k * 1001 ∧ Hid (acc ++ jr k (L.drop k) = joinT L) ∧ Hid (Bd w.heap.size acc wr) ∧ Hid (Below w.heap.size w wr)) (fun i _ => L.length - (intOf i).toNat)
  case atStart => exact ⟨0, [], Nat.zero_le _, rfl, by simp, rfl, Lib.IsBuilderF.of (Lib.fresh_isBuilder 37 5 w), (Below.refl _ _).alloc (Nat.le_refl _) _⟩
  case round =>
    obtain ⟨k, acc, hk, rfl, hal, HJ, HD, HB⟩ := hrel
    have hws := HB.out.size
    by_cases hlt : k < L.length
    · obtain ⟨b, off, rfl, hb, ha⟩ := hc k hlt
      have HDr : Hid (L.drop k = L[k] :: L.drop (k + 1)) := List.drop_eq_getElem_cons hlt
      have hot := hok L[k] (List.getElem_mem hlt)
      obtain ⟨q0, q1, q2⟩ := ha.below HB.out hb
      generalize L[k] = t at *
      clear hc hok ha
      have ht := txt_len hot
      have hT := heap_alloc_new wr (.cells #[.int .i64 t.kind, .string ⟨t.s.toArray⟩, .int .u16 (t.n : Int)] 26)
      have HD0 : Hid (Bd w.heap.size acc (wr.alloc (.cells #[.int .i64 t.kind, .string ⟨t.s.toArray⟩, .int .u16 (t.n : Int)] 26))) := HD.out.below ((Below.refl _ _).alloc (Nat.le_refl _) _)
      have HB0 : Hid (Below w.heap.size w (wr.alloc (.cells #[.int .i64 t.kind, .string ⟨t.s.toArray⟩, .int .u16 (t.n : Int)] 26))) := HB.out.alloc hws _
      by_cases h0 : t.kind = 0
      · have HJ1 : Hid (joinT L = acc) := by show _ = _; rw [← HJ.out, HDr.out, jr_end k t _ h0, List.append_nil]
        have d0 : (t.kind == 0) = true := by simp [h0]
        clear h0
        go_wp2_with fail
        refine (Tryd.Builder_String_any_k w.heap.size w.heap.size acc _ HD0.out HB0.out.size).mono ?_
        rintro e w2 ⟨rfl, _, hb2, _⟩
        go_wp2
        go_ret
        exact ⟨by rw [HJ1.out]; rfl, HB0.out.trans hb2⟩
      · have HJ1 : Hid (acc ++ gap k ++ txt t ++ jr (k + 1) (L.drop (k + 1)) = joinT L) := by show _ = _; rw [← HJ.out, HDr.out, jr_cons k t _ h0]; simp
        have d0 : (t.kind == 0) = false := by simp [h0]
        have ew : wrap64 (t.n : Int) = (t.n : Int) := by have := hot.1; unfold wrap64; omega
        have hgt : w.heap.size < wr.heap.size := HD.out.lt
        clear h0 HJ HDr HD HB
        by_cases hk0 : k = 0
        · have dk : decide (0 < k) = false := by simp; omega
          have HG : Hid (gap k = []) := by show _ = _; unfold gap; rw [if_pos hk0]
          clear hk0
          obtain ⟨⟨c0, c1, c2⟩, _⟩ := row3 hT
          by_cases h2 : t.kind = 2
          · have d2 : (t.kind == 2) = true := by simp [h2]
            have HT : Hid (txt t = decDigits t.n) := by show _ = _; unfold txt; rw [if_pos h2]
            have hl5 := digits_len5 t.n hot.1
            clear h2
            go_wp2_with fail
            rw [ew]
            refine (itoa_any t.n hot.1 _ (HE.out.below HB0.out)).mono ?_
            rintro e w3 ⟨rfl, hb3⟩
            have HD3 : Hid (Bd w.heap.size acc w3) := HD0.out.below hb3
            have HB3 : Hid (Below w.heap.size w w3) := HB0.out.trans (hb3.mono HB0.out.size)
            clear hb3
            go_wp2_with fail
            refine (write_string w.heap.size acc (decDigits t.n) (by (try rw [List.length_append, List.length_singleton]); omega) (by omega) w3 HD3.out HB3.out.size).mono ?_
            rintro e w4 ⟨rfl, hd4, hb4, hk4⟩
            have HD4 : Hid (Bd w.heap.size (acc ++ decDigits t.n) w4) := hd4
            have HB4 : Hid (Below w.heap.size w w4) := HB3.out.trans hb4
            clear hd4 hb4 hk4 HD3 HB3
            go_wp2
            go_roundw
            case rel => exact ⟨k + 1, acc ++ gap k ++ txt t, by omega, by go_num, by have := gap_len k; simp only [List.length_append]; omega, HJ1, by rw [HT.out, HG.out]; (first | exact HD4 | (rw [List.append_nil]; exact HD4)), HB4⟩
            case measure => simp [intOf]; omega
          · have d2 : (t.kind == 2) = false := by simp [h2]
            have HT : Hid (txt t = t.s) := by show _ = _; unfold txt; rw [if_neg h2]
            have hl5 := hot.2
            clear h2
            go_wp2_with fail
            refine (write_string w.heap.size acc t.s (by (try rw [List.length_append, List.length_singleton]); omega) (by omega) _ HD0.out HB0.out.size).mono ?_
            rintro e w4 ⟨rfl, hd4, hb4, hk4⟩
            have HD4 : Hid (Bd w.heap.size (acc ++ t.s) w4) := hd4
            have HB4 : Hid (Below w.heap.size w w4) := HB0.out.trans hb4
            clear hd4 hb4 hk4
            go_wp2
            go_roundw
            case rel => exact ⟨k + 1, acc ++ gap k ++ txt t, by omega, by go_num, by have := gap_len k; simp only [List.length_append]; omega, HJ1, by rw [HT.out, HG.out]; (first | exact HD4 | (rw [List.append_nil]; exact HD4)), HB4⟩
            case measure => simp [intOf]; omega
        · have dk : decide (0 < k) = true := by simp; omega
          have HG : Hid (gap k = [32]) := by show _ = _; unfold gap; rw [if_neg hk0]
          clear hk0
          go_wp2_with fail
          refine (write_byte w.heap.size acc (by omega) _ HD0.out HB0.out.size).mono ?_
          rintro e w2 ⟨rfl, hd2, hb2, hk2⟩
          have HD2 : Hid (Bd w.heap.size (acc ++ [32]) w2) := hd2
          have HB2 : Hid (Below w.heap.size w w2) := HB0.out.trans hb2
          have hT2 := kept_row hk2 hT (by omega)
          clear hd2 hb2 hk2 hT HD0 HB0
          obtain ⟨⟨c0, c1, c2⟩, _⟩ := row3 hT2
          by_cases h2 : t.kind = 2
          · have d2 : (t.kind == 2) = true := by simp [h2]
            have HT : Hid (txt t = decDigits t.n) := by show _ = _; unfold txt; rw [if_pos h2]
            have hl5 := digits_len5 t.n hot.1
            clear h2
            go_wp2_with fail
            rw [ew]
            refine (itoa_any t.n hot.1 _ (HE.out.below HB2.out)).mono ?_
            rintro e w3 ⟨rfl, hb3⟩
            have HD3 : Hid (Bd w.heap.size (acc ++ [32]) w3) := HD2.out.below hb3
            have HB3 : Hid (Below w.heap.size w w3) := HB2.out.trans (hb3.mono HB2.out.size)
            clear hb3
            go_wp2_with fail
            refine (write_string w.heap.size (acc ++ [32]) (decDigits t.n) (by (try rw [List.length_append, List.length_singleton]); omega) (by omega) w3 HD3.out HB3.out.size).mono ?_
            rintro e w4 ⟨rfl, hd4, hb4, hk4⟩
            have HD4 : Hid (Bd w.heap.size ((acc ++ [32]) ++ decDigits t.n) w4) := hd4
            have HB4 : Hid (Below w.heap.size w w4) := HB3.out.trans hb4
            clear hd4 hb4 hk4 HD3 HB3
            go_wp2
            go_roundw
            case rel => exact ⟨k + 1, acc ++ gap k ++ txt t, by omega, by go_num, by have := gap_len k; simp only [List.length_append]; omega, HJ1, by rw [HT.out, HG.out]; (first | exact HD4 | (rw [List.append_nil]; exact HD4)), HB4⟩
            case measure => simp [intOf]; omega
          · have d2 : (t.kind == 2) = false := by simp [h2]
            have HT : Hid (txt t = t.s) := by show _ = _; unfold txt; rw [if_neg h2]
            have hl5 := hot.2
            clear h2
            go_wp2_with fail
            refine (write_string w.heap.size (acc ++ [32]) t.s (by (try rw [List.length_append, List.length_singleton]); omega) (by omega) _ HD2.out HB2.out.size).mono ?_
            rintro e w4 ⟨rfl, hd4, hb4, hk4⟩
            have HD4 : Hid (Bd w.heap.size ((acc ++ [32]) ++ t.s) w4) := hd4
            have HB4 : Hid (Below w.heap.size w w4) := HB2.out.trans hb4
            clear hd4 hb4 hk4
            go_wp2
            go_roundw
            case rel => exact ⟨k + 1, acc ++ gap k ++ txt t, by omega, by go_num, by have := gap_len k; simp only [List.length_append]; omega, HJ1, by rw [HT.out, HG.out]; (first | exact HD4 | (rw [List.append_nil]; exact HD4)), HB4⟩
            case measure => simp [intOf]; omega
    · have hkl : k = L.length := by omega
      subst hkl
      have HJ1 : Hid (joinT L = acc) := by show _ = _; rw [← HJ.out, List.drop_length, jr_nil, List.append_nil]
      clear hc HJ
      go_wp2_with fail
      refine (Tryd.Builder_String_any_k w.heap.size w.heap.size acc wr HD.out hws).mono ?_
      rintro e w2 ⟨rfl, _, hb2, _⟩
      go_wp2
      go_ret
      exact ⟨by rw [HJ1.out]; rfl, HB.out.trans hb2⟩
end Go.Proofs.YtajdhpdbekigkaaDoor
