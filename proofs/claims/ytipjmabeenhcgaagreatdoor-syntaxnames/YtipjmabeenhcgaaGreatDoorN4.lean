/- What the law SyntaxNames answers: true, for every text and number, wherever the listed variables hold what the row lists. -/
import Derived.Test.YtipjmabeenhcgaaGreatDoorN3
set_option linter.unusedVariables false
set_option linter.unusedSimpArgs false
namespace Go.Proofs.YtipjmabeenhcgaaGreatDoor
open Go.RowKit Go.Joins Go.Lib

theorem b128 {s : List UInt8} (h : Small s) {m : Nat} (hm : m < 10) : (∀ b ∈ b1 s m, b.toNat < 128) ∧ (∀ b ∈ b2 s m, b.toNat < 128) ∧ ∀ b ∈ b3 s, b.toNat < 128 := by
  have hs : ∀ b ∈ s, b.toNat < 128 := fun b hb => by have := h.2.2 b hb; omega
  have hd := (dgt_no ⟨m, hm⟩).2
  have hi : ∀ b ∈ bInit, b.toNat < 128 := by decide
  have hI : ∀ b ∈ bId, b.toNat < 128 := by decide
  have hl : ∀ b ∈ bLet s m, b.toNat < 128 := by
    intro b hb
    simp only [bLet, List.mem_append, List.mem_cons, List.mem_nil_iff, or_false] at hb
    rcases hb with (rfl | rfl | rfl) | rfl | hb | rfl | rfl | rfl | rfl | rfl | rfl
    all_goals first | decide | exact hs _ hb | exact hd
  have hp : ∀ b ∈ bPol s, b.toNat < 128 := by
    intro b hb
    simp only [bPol, List.mem_append, List.mem_cons, List.mem_nil_iff, or_false] at hb
    rcases hb with (rfl | rfl | rfl | rfl | rfl | rfl) | rfl | ((rfl | rfl | rfl | rfl) | hb) | rfl | rfl
    all_goals first | decide | exact hs _ hb
  refine ⟨fun b hb => ?_, fun b hb => ?_, fun b hb => ?_⟩
  · simp only [b1, List.mem_append, List.mem_cons] at hb
    rcases hb with hb | rfl | hb | rfl | hb
    all_goals first | decide | exact hi _ hb | exact hl _ hb | exact hp _ hb
  · simp only [b2, List.mem_append, List.mem_cons] at hb
    rcases hb with hb | rfl | hb | rfl | hb | rfl | hb
    all_goals first | decide | exact hi _ hb | exact hl _ hb | exact hI _ hb
  · simp only [b3, List.mem_append, List.mem_cons] at hb
    rcases hb with hb | rfl | hb
    all_goals first | decide | exact hi _ hb | exact hp _ hb
/-- Parse, where the model's answer is known. -/
theorem parse_ans {b : List UInt8} {l : List Tk} {E : Nat} {B : ByteArray} (hB : B = ⟨b.toArray⟩) (h128 : ∀ x ∈ b, x.toNat < 128) (hlen : b.length ≤ 4000) (hlex : lexS 0 (asc b) = .ok l) (ha : ansB l E = true) (w : World) (h : Env w) :
    Calls Tryz.prog 17 #[.string B] w fun e w' => (∃ si ni sci xo xf xn sk kn skc sr rn scr, e = .returned (.tuple #[pgv (.slice si ni sci) ⟨xo, xf, xn, .slice sk kn skc⟩ (.slice sr rn scr), .int .i64 (E : Int)]) ∧ (E = 0 → xn = (progOf l).1.pol.n)) ∧ Below w.heap.size w w' := by
  obtain ⟨hm, hE, hs⟩ := ans_of ha
  have := parse_ok (asc b) (good_asc b h128) (by rw [fl_asc]; exact hlen) l hlex hm hs w h
  rw [fl_asc, hE] at this
  subst hB
  refine Calls.mono this ?_
  rintro e w1 ⟨⟨iv, ⟨xo, xf, xn, xk⟩, rv, he, ⟨⟨si, ni, sci, e1⟩, ⟨sk, kn, skc, e2⟩, ⟨sr, rn, scr, e3⟩⟩, hP⟩, hb⟩
  dsimp only at e2
  subst e1 e2 e3
  exact ⟨⟨si, ni, sci, xo, xf, xn, sk, kn, skc, sr, rn, scr, he, fun h0 => (hP h0).pol.shape.2.2.1⟩, hb⟩
abbrev letB (s : List UInt8) (m : Nat) : ByteArray := (⟨#[108, 101, 116, 32]⟩ : ByteArray) ++ ⟨s.toArray⟩ ++ ⟨#[32, 61, 32]⟩ ++ ⟨#[dgt m]⟩ ++ ⟨#[32, 46, 32]⟩
theorem eB1 (s : List UInt8) (m : Nat) : (⟨#[105, 110, 105, 116, 32, 48, 32, 46, 32]⟩ : ByteArray) ++ letB s m ++ ⟨#[112, 111, 108, 105, 99, 121, 32, 100, 115, 116, 61]⟩ ++ ⟨s.toArray⟩ ++ ⟨#[32, 46]⟩ = ⟨(b1 s m).toArray⟩ := by
  apply ByteArray.ext
  apply Array.toList_inj.1
  simp [b1, bInit, bLet, bPol, ByteArray.data_append]
theorem eB2 (s : List UInt8) (m : Nat) : (⟨#[105, 110, 105, 116, 32, 48, 32, 46, 32]⟩ : ByteArray) ++ letB s m ++ letB s m ++ ⟨#[112, 111, 108, 105, 99, 121, 32, 105, 100, 32, 46]⟩ = ⟨(b2 s m).toArray⟩ := by
  apply ByteArray.ext
  apply Array.toList_inj.1
  simp [b2, bInit, bLet, bId, ByteArray.data_append]
theorem eB3 (s : List UInt8) : (⟨#[105, 110, 105, 116, 32, 48, 32, 46, 32, 112, 111, 108, 105, 99, 121, 32, 100, 115, 116, 61]⟩ : ByteArray) ++ ⟨s.toArray⟩ ++ ⟨#[32, 46]⟩ = ⟨(b3 s).toArray⟩ := by
  apply ByteArray.ext
  apply Array.toList_inj.1
  simp [b3, bInit, bPol, ByteArray.data_append]
theorem byteAt (x : List UInt8) (k : Nat) (h : k < x.length) : (⟨x.toArray⟩ : ByteArray)[k]'(by simpa [ByteArray.size] using h) = x[k] := rfl
set_option maxRecDepth 100000 in
set_option maxHeartbeats 4000000 in
theorem names_any5 (s : List UInt8) (n : Nat) (hn : n ≤ 255) (hs : s.length ≤ 9223372036854775807) (w : World) (h : Env w) :
    Calls Tryz.prog 5 #[.string ⟨s.toArray⟩, .int .u8 (n : Int)] w fun e w' => e = .returned (.bool true) ∧ Below w.heap.size w w' := by
  have cA := awake_any w h
  have HE : Hid (Env w) := h
  clear h
  by_cases h1 : s.length < 1
  · have d1 : decide (((⟨s.toArray⟩ : ByteArray).size : Int) < 1) = true := by simp [ByteArray.size]; omega
    go_enter Tryz.func5, Tryz.ntmps5
    go_wp2_with fail
    refine cA.mono ?_
    rintro e w1 ⟨rfl, hb1⟩
    go_wp2
    go_ret
    exact ⟨rfl, hb1⟩
  · by_cases h2 : 20 < s.length
    · have d1 : decide (((⟨s.toArray⟩ : ByteArray).size : Int) < 1) = false := by simp [ByteArray.size]; omega
      have d2 : decide ((20 : Int) < ((⟨s.toArray⟩ : ByteArray).size : Int)) = true := by simp [ByteArray.size]; omega
      go_enter Tryz.func5, Tryz.ntmps5
      go_wp2_with fail
      refine cA.mono ?_
      rintro e w1 ⟨rfl, hb1⟩
      go_wp2
      go_ret
      exact ⟨rfl, hb1⟩
    · have d1 : decide (((⟨s.toArray⟩ : ByteArray).size : Int) < 1) = false := by simp [ByteArray.size]; omega
      have d2 : decide ((20 : Int) < ((⟨s.toArray⟩ : ByteArray).size : Int)) = false := by simp [ByteArray.size]; omega
      go_enter Tryz.func5, Tryz.ntmps5
      go_wp2_with fail
      refine cA.mono ?_
      rintro e w1 ⟨rfl, hb1⟩
      go_wp2_with fail
      go_loop [26] (fun i => ∃ k : Nat, k ≤ s.length ∧ i = .int .i64 k ∧ Hid (∀ j (hj : j < s.length), j < k → 97 ≤ s[j].toNat ∧ s[j].toNat ≤ 122)) (fun i => s.length - (intOf i).toNat)
      case atStart => exact ⟨0, Nat.zero_le _, rfl, fun j hj h => by omega⟩
      case round =>
        obtain ⟨k, hk, rfl, HJ⟩ := hrel
        by_cases hlt : k < s.length
        · have hby := byteAt s k hlt
          have HB : Hid ((⟨s.toArray⟩ : ByteArray)[k]'(by simpa [ByteArray.size] using hlt) = s[k]) := hby
          clear hby
          go_wp2
          · go_ret
            exact ⟨rfl, hb1⟩
          · rename_i _ hgood
            rw [HB.out] at hgood
            refine ⟨⟨k + 1, by omega, by go_num, fun j hj h => ?_⟩, by simp [intOf]; omega⟩
            by_cases e : j = k
            · subst e; omega
            · exact HJ.out j hj (by omega)
          · go_ret
            exact ⟨rfl, hb1⟩
        · have hkl : k = s.length := by omega
          subst hkl
          have HS : Hid (Small s) := ⟨fun e => by rw [e] at h1; simp at h1, by omega, fun b hb => by
            obtain ⟨j, hj, rfl⟩ := List.getElem_of_mem hb
            exact HJ.out j hj hj⟩
          obtain ⟨m, hm⟩ : ∃ m, n % 10 = m := ⟨_, rfl⟩
          have hm10 : m < 10 := by omega
          have hmi : (n : Int) % 10 = (m : Int) := by omega
          have hconv := run_convert_bytes_back (P := Tryz.prog) (w1.alloc (.cells #[.int .u8 (48 + (m : Int))] 5)) 42 9 5 ⟨w1.heap.size, 0, none⟩ 1 [dgt m] Tryz.underlying42 Tryz.underlying5 Tryz.underlying9 (by
            intro j hj
            obtain rfl : j = 0 := by simpa using hj
            show (w1.alloc (.cells #[.int .u8 (48 + (m : Int))] 5)).cell? ⟨w1.heap.size, 0, none⟩ = _
            rw [cell_of_row _ _ _ _ _ _ (heap_alloc_new w1 _)]
            show some (Value.int .u8 (48 + (m : Int))) = some (.int .u8 ((dgt m).toNat : Int))
            unfold dgt
            rw [ofNat_digit m hm10]; simp)
          have HB2 : Hid (Below w.heap.size w (w1.alloc (.cells #[.int .u8 (48 + (m : Int))] 5))) := hb1.alloc hb1.size _
          simp only [List.length_cons, List.length_nil] at hconv
          clear hb1
          have l1 : (b1 s m).length ≤ 4000 := by simp [b1, bInit, bLet, bPol]; omega
          have l2 : (b2 s m).length ≤ 4000 := by simp [b2, bInit, bLet, bId]; omega
          have l3 : (b3 s).length ≤ 4000 := by simp [b3, bInit, bPol]; omega
          cases hr : resv s with
          | true =>
            have A1 : ansB (t1 s m) 10 = true := by have := bad_of hr hm10; unfold badB at this; rw [Bool.and_eq_true, Bool.and_eq_true] at this; exact this.1.1
            have A2 : ansB (t2 s m) 10 = true := by have := bad_of hr hm10; unfold badB at this; rw [Bool.and_eq_true, Bool.and_eq_true] at this; exact this.1.2
            have A3 : ansB (t3 s) 10 = true := by have := bad_of hr hm10; unfold badB at this; rw [Bool.and_eq_true, Bool.and_eq_true] at this; exact this.2
            have c1 := parse_ans (eB1 s m) (b128 HS.out hm10).1 l1 (lex_1 HS.out m hm10) A1
            have c2 := parse_ans (eB2 s m) (b128 HS.out hm10).2.1 l2 (lex_2 HS.out m hm10) A2
            have c3 := parse_ans (eB3 s) (b128 HS.out hm10).2.2 l3 (lex_3 HS.out) A3
            clear A1 A2 A3 l1 l2 l3
            have cR := rresv_any s
            rw [hr] at cR
            go_wp2_with fail
            refine (c1 _ (HE.out.below HB2.out)).mono ?_
            rintro e w2 ⟨⟨si, ni, sci, xo, xf, xn, sk, kn, skc, sr, rn, scr, rfl, -⟩, hb2⟩
            obtain ⟨ob, hob⟩ : ∃ ob, gobj (.slice si ni sci) ⟨xo, xf, xn, .slice sk kn skc⟩ (.slice sr rn scr) = ob := ⟨_, rfl⟩
            have HB3 : Hid (Below w.heap.size w (w2.alloc ob)) := (HB2.out.trans (hb2.mono HB2.out.size)).alloc (HB2.out.trans (hb2.mono HB2.out.size)).size _
            have hrow := heap_alloc_new w2 ob
            rw [← hob] at HB3 hrow
            have HR3 : Hid _ := hrow
            clear hb2 hob c1 hrow hconv
            go_wp2_with fail
            refine (c2 _ (HE.out.below HB3.out)).mono ?_
            rintro e w3 ⟨⟨si3, ni3, sci3, xo3, xf3, xn3, sk3, kn3, skc3, sr3, rn3, scr3, rfl, -⟩, hb3⟩
            have HR4 : Hid _ := ((hb3.block _ (heap_lt HR3.out)).trans HR3.out)
            obtain ⟨ob, hob⟩ : ∃ ob, gobj (.slice si3 ni3 sci3) ⟨xo3, xf3, xn3, .slice sk3 kn3 skc3⟩ (.slice sr3 rn3 scr3) = ob := ⟨_, rfl⟩
            have HB4 : Hid (Below w.heap.size w (w3.alloc ob)) := (HB3.out.trans (hb3.mono HB3.out.size)).alloc (HB3.out.trans (hb3.mono HB3.out.size)).size _
            have HR5 : Hid _ := (((Below.refl _ w3).alloc (Nat.le_refl _) ob).block _ (heap_lt HR4.out)).trans HR4.out
            rw [← hob] at HB4 HR5
            clear hb3 hob c2 HR3 HR4 HB3
            go_wp2_with fail
            refine (c3 _ (HE.out.below HB4.out)).mono ?_
            rintro e w4 ⟨⟨si4, ni4, sci4, xo4, xf4, xn4, sk4, kn4, skc4, sr4, rn4, scr4, rfl, -⟩, hb4⟩
            have HR6 : Hid _ := ((hb4.block _ (heap_lt HR5.out)).trans HR5.out)
            obtain ⟨ob, hob⟩ : ∃ ob, gobj (.slice si4 ni4 sci4) ⟨xo4, xf4, xn4, .slice sk4 kn4 skc4⟩ (.slice sr4 rn4 scr4) = ob := ⟨_, rfl⟩
            have HB5 : Hid (Below w.heap.size w (w4.alloc ob)) := (HB4.out.trans (hb4.mono HB4.out.size)).alloc (HB4.out.trans (hb4.mono HB4.out.size)).size _
            have HR7 : Hid _ := (((Below.refl _ w4).alloc (Nat.le_refl _) ob).block _ (heap_lt HR6.out)).trans HR6.out
            rw [← hob] at HB5 HR7
            clear hb4 hob c3 HR5 HR6 HB4
            go_wp2_with fail
            refine (cR _).mono ?_
            rintro e w5 ⟨rfl, hb5⟩
            have HB6 : Hid (Below w.heap.size w w5) := HB5.out.trans (hb5.mono HB5.out.size)
            obtain ⟨q0, q1, q2, q3, q4, q5⟩ := row6 ((hb5.block _ (heap_lt HR7.out)).trans HR7.out)
            clear hb5 HR7 HB5 cR
            go_wp2
            go_ret
            exact ⟨rfl, HB6.out⟩
          | false =>
            have A1 : ansB (t1 s m) 0 = true := ans1 hr m
            have A2 : ansB (t2 s m) 12 = true := ans2 hr m
            have A3 : ansB (t3 s) 12 = true := ans3 hr
            have c1 := parse_ans (eB1 s m) (b128 HS.out hm10).1 l1 (lex_1 HS.out m hm10) A1
            have c2 := parse_ans (eB2 s m) (b128 HS.out hm10).2.1 l2 (lex_2 HS.out m hm10) A2
            have c3 := parse_ans (eB3 s) (b128 HS.out hm10).2.2 l3 (lex_3 HS.out) A3
            rw [prog1 hr m] at c1
            clear A1 A2 A3 l1 l2 l3
            have cR := rresv_any s
            rw [hr] at cR
            go_wp2_with fail
            refine (c1 _ (HE.out.below HB2.out)).mono ?_
            rintro e w2 ⟨⟨si, ni, sci, xo, xf, xn, sk, kn, skc, sr, rn, scr, rfl, hxn⟩, hb2⟩
            obtain rfl : xn = (m : Int) := hxn (by first | rfl | trivial)
            clear hxn
            obtain ⟨ob, hob⟩ : ∃ ob, gobj (.slice si ni sci) ⟨xo, xf, (m : Int), .slice sk kn skc⟩ (.slice sr rn scr) = ob := ⟨_, rfl⟩
            have HB3 : Hid (Below w.heap.size w (w2.alloc ob)) := (HB2.out.trans (hb2.mono HB2.out.size)).alloc (HB2.out.trans (hb2.mono HB2.out.size)).size _
            have hrow := heap_alloc_new w2 ob
            rw [← hob] at HB3 hrow
            have HR3 : Hid _ := hrow
            clear hb2 hob c1 hrow hconv
            go_wp2_with fail
            refine (c2 _ (HE.out.below HB3.out)).mono ?_
            rintro e w3 ⟨⟨si3, ni3, sci3, xo3, xf3, xn3, sk3, kn3, skc3, sr3, rn3, scr3, rfl, -⟩, hb3⟩
            have HR4 : Hid _ := ((hb3.block _ (heap_lt HR3.out)).trans HR3.out)
            obtain ⟨ob, hob⟩ : ∃ ob, gobj (.slice si3 ni3 sci3) ⟨xo3, xf3, xn3, .slice sk3 kn3 skc3⟩ (.slice sr3 rn3 scr3) = ob := ⟨_, rfl⟩
            have HB4 : Hid (Below w.heap.size w (w3.alloc ob)) := (HB3.out.trans (hb3.mono HB3.out.size)).alloc (HB3.out.trans (hb3.mono HB3.out.size)).size _
            have HR5 : Hid _ := (((Below.refl _ w3).alloc (Nat.le_refl _) ob).block _ (heap_lt HR4.out)).trans HR4.out
            rw [← hob] at HB4 HR5
            clear hb3 hob c2 HR3 HR4 HB3
            go_wp2_with fail
            refine (c3 _ (HE.out.below HB4.out)).mono ?_
            rintro e w4 ⟨⟨si4, ni4, sci4, xo4, xf4, xn4, sk4, kn4, skc4, sr4, rn4, scr4, rfl, -⟩, hb4⟩
            have HR6 : Hid _ := ((hb4.block _ (heap_lt HR5.out)).trans HR5.out)
            obtain ⟨ob, hob⟩ : ∃ ob, gobj (.slice si4 ni4 sci4) ⟨xo4, xf4, xn4, .slice sk4 kn4 skc4⟩ (.slice sr4 rn4 scr4) = ob := ⟨_, rfl⟩
            have HB5 : Hid (Below w.heap.size w (w4.alloc ob)) := (HB4.out.trans (hb4.mono HB4.out.size)).alloc (HB4.out.trans (hb4.mono HB4.out.size)).size _
            have HR7 : Hid _ := (((Below.refl _ w4).alloc (Nat.le_refl _) ob).block _ (heap_lt HR6.out)).trans HR6.out
            rw [← hob] at HB5 HR7
            clear hb4 hob c3 HR5 HR6 HB4
            go_wp2_with fail
            refine (cR _).mono ?_
            rintro e w5 ⟨rfl, hb5⟩
            have HB6 : Hid (Below w.heap.size w w5) := HB5.out.trans (hb5.mono HB5.out.size)
            obtain ⟨q0, q1, q2, q3, q4, q5⟩ := row6 ((hb5.block _ (heap_lt HR7.out)).trans HR7.out)
            clear hb5 HR7 HB5 cR
            go_wp2
            go_ret
            exact ⟨rfl, HB6.out⟩
end Go.Proofs.YtipjmabeenhcgaaGreatDoor
