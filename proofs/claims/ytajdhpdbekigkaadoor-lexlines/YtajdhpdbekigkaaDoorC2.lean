/- What the law LexBack answers: true, for every text and every list of tokens, wherever the listed variables hold what the row lists. -/
import Derived.Test.YtajdhpdbekigkaaDoorC1
set_option linter.unusedVariables false
set_option linter.unusedSimpArgs false
namespace Go.Proofs.YtajdhpdbekigkaaDoor
open Go.RowKit Go.Joins Go.Lib

theorem fst1_small {x : R} {t : List R} {tk : Tk} {n : Nat} (hg : Good (x :: t)) (h : fst1 x t = .ok (tk, n)) : tk.s.length ≤ (fl (x :: t)).length := by
  have hx := hg.head.1
  have h2 : ∀ y, hd t = y → y ≠ 0 → 2 ≤ (fl (x :: t)).length := by
    intro y hy h0
    cases t with
    | nil => exact absurd hy.symm h0
    | cons z u =>
      have := hg.tail.head.1
      rw [fl_cons, fl_cons, List.length_append, List.length_append]; omega
  unfold fst1 wordOf numOf signOf at h
  repeat' split at h
  all_goals (first | (cases h; done) | skip)
  · simp only [Except.ok.injEq, Prod.mk.injEq] at h
    rw [← h.1, fl_split x t (span iw t).length, ← span_take, List.length_append]
    exact Nat.le_add_right _ _
  · simp only [Except.ok.injEq, Prod.mk.injEq] at h
    rw [← h.1]; exact Nat.zero_le _
  · rename_i hh
    simp only [Except.ok.injEq, Prod.mk.injEq] at h
    rw [← h.1]; exact h2 61 hh.2 (by decide)
  · rename_i hh
    simp only [Except.ok.injEq, Prod.mk.injEq] at h
    rw [← h.1]; exact h2 62 hh.2 (by decide)
  · simp only [Except.ok.injEq, Prod.mk.injEq] at h
    rw [← h.1, fl_cons, List.length_append]
    exact Nat.le_add_right _ _
theorem lex_small : ∀ (cs : List R) (k : Nat) (l : List Tk), Good cs → lexS k cs = .ok l → ∀ t ∈ l, t.s.length ≤ (fl cs).length
  | [], k, l, _, h => by
    rw [lexS_nil, Except.ok.injEq] at h
    subst h
    intro t ht; cases ht
  | x :: t, k + 1, l, hg, h => by
    rw [lexS_skip] at h
    intro y hy
    have := lex_small t k l hg.tail h y hy
    rw [fl_cons, List.length_append]; omega
  | x :: t, 0, l, hg, h => by
    have up : ∀ (l : List Tk), (∀ y ∈ l, y.s.length ≤ (fl t).length) → ∀ y ∈ l, y.s.length ≤ (fl (x :: t)).length := by
      intro l hl y hy
      have := hl y hy
      rw [fl_cons, List.length_append]; omega
    rw [lexS_zero] at h
    split at h
    · exact up l (lex_small t 0 l hg.tail h)
    · split at h
      · exact up l (lex_small t _ l hg.tail h)
      · cases hf : fst1 x t with
        | error e => rw [hf] at h; cases h
        | ok y =>
          obtain ⟨tk, n⟩ := y
          rw [hf] at h
          dsimp only at h
          cases hl : lexS n t with
          | error e => rw [hl] at h; cases h
          | ok m =>
            rw [hl] at h
            simp only [Except.ok.injEq] at h
            subst h
            intro y hy
            rcases List.mem_cons.1 hy with rfl | hy
            · exact fst1_small hg hf
            · exact up m (lex_small t n m hg.tail hl) y hy
theorem lex_err : ∀ (cs : List R) (k e : Nat), lexS k cs = .error e → e ≠ 0 ∧ e < 1000
  | [], k, e, h => by rw [lexS_nil] at h; cases h
  | x :: t, k + 1, e, h => by
    rw [lexS_skip] at h
    exact lex_err t k e h
  | x :: t, 0, e, h => by
    rw [lexS_zero] at h
    split at h
    · exact lex_err t 0 e h
    · split at h
      · exact lex_err t _ e h
      · cases hf : fst1 x t with
        | error e' =>
          rw [hf] at h
          simp only [Except.error.injEq] at h
          subst h
          exact fst1_err hf
        | ok y =>
          obtain ⟨tk, n⟩ := y
          rw [hf] at h
          dsimp only at h
          cases hl : lexS n t with
          | error e' =>
            rw [hl] at h
            simp only [Except.error.injEq] at h
            subst h
            exact lex_err t n _ hl
          | ok m => rw [hl] at h; cases h
theorem jn_len : ∀ l : List Tk, (∀ t ∈ l, t.kind ≠ 0) → l.length ≤ (jn l).length
  | [], _ => Nat.zero_le _
  | t :: r, h => by
    have := jn_len r (fun y hy => h y (by simp [hy]))
    rw [jn_cons, if_neg (h t (by simp)), List.length_cons, List.length_cons, List.length_append]; omega

/-- What Tokens answers of any text. -/
theorem tokens_all (s : List UInt8) (hl : s.length ≤ 4000) : ∃ r, (∀ w, Env w → Calls Tryd.prog 8 #[str s] w fun e w' => TokRes r e w' ∧ Below w.heap.size w w') ∧ (∀ l, r = .ok l → ∃ cs, Good cs ∧ s = fl cs ∧ lexS 0 cs = .ok l) ∧ (∀ e, r = .error e → e ≠ 0 ∧ e < 1000) := by
  cases hv : validD s with
  | false => exact ⟨.error 10, fun w h => tokens_bad s hl hv w h, fun l h => (by cases h), fun e h => by cases h; decide⟩
  | true =>
    obtain ⟨cs, hg, hcs⟩ := valid_split s.length s (Nat.le_refl _) hv
    refine ⟨lexS 0 cs, fun w h => ?_, fun l h => ⟨cs, hg, hcs, h⟩, fun e h => lex_err cs 0 e h⟩
    rw [hcs] at hl ⊢
    exact tokens_good cs hg hl w h
/-- What Join of a text's tokens is, and what it is read as. -/
theorem back_text {cs : List R} (hg : Good cs) (hl : (fl cs).length ≤ 500) {l : List Tk} (h : lexS 0 cs = .ok l) :
    (∀ t ∈ l ++ [tkEnd], okT t) ∧ l.length ≤ 3000 ∧ ∃ J, Good J ∧ joinT (l ++ [tkEnd]) = fl J ∧ (fl J).length ≤ 4000 ∧ lexS 0 J = .ok l := by
  obtain ⟨h1, h2⟩ := lex_toks cs 0 l hg h
  rw [List.drop_zero] at h2
  have hk : ∀ t ∈ l, t.kind ≠ 0 := fun t ht => (h1 t ht).1
  have h3 := jn_len l hk
  obtain ⟨⟨J, hJ, hfJ, hlJ⟩, _⟩ := join_lex l h1
  refine ⟨fun t ht => ?_, by omega, J, hJ, by rw [joinT_end l hk, hfJ], by have := joinT_le l; rw [hfJ]; omega, hlJ⟩
  rcases List.mem_append.1 ht with ht | ht
  · exact ⟨(h1 t ht).2.1, by have := lex_small cs 0 l hg h t ht; omega⟩
  · rw [List.mem_singleton] at ht; subst ht; exact ⟨by decide, by decide⟩

set_option maxRecDepth 100000 in
set_option maxHeartbeats 1000000 in
theorem back_longs (s : List UInt8) (sa : Option Addr) (n sc : Nat) (w : World) (h : Env w) (hs : 500 < s.length) (hs63 : s.length ≤ 9223372036854775807) :
    Calls Tryd.prog 3 #[str s, .slice sa n sc] w fun e w' => e = .returned (.bool true) ∧ Below w.heap.size w w' := by
  have hsz : (ByteArray.mk s.toArray).size = s.length := size_mk s
  have d : decide (500 < s.length) = true := by simp; omega
  go_enter Tryd.func3, Tryd.ntmps3
  go_wp2_with fail
  refine (awake_any _ h).mono ?_
  rintro e w1 ⟨rfl, hb1⟩
  clear h
  go_wp2
  go_ret
  exact ⟨rfl, hb1⟩

set_option maxRecDepth 100000 in
set_option maxHeartbeats 1000000 in
theorem back_longl (s : List UInt8) (sa : Option Addr) (n sc : Nat) (w : World) (h : Env w) (hs : s.length ≤ 500) (hn : 30 < n) (hn63 : n ≤ 9223372036854775807) :
    Calls Tryd.prog 3 #[str s, .slice sa n sc] w fun e w' => e = .returned (.bool true) ∧ Below w.heap.size w w' := by
  have hsz : (ByteArray.mk s.toArray).size = s.length := size_mk s
  have d : decide (500 < s.length) = false := by simp; omega
  have d2 : decide (30 < n) = true := by simp; omega
  go_enter Tryd.func3, Tryd.ntmps3
  go_wp2_with fail
  refine (awake_any _ h).mono ?_
  rintro e w1 ⟨rfl, hb1⟩
  clear h
  go_wp2
  go_ret
  exact ⟨rfl, hb1⟩

set_option maxRecDepth 100000 in
set_option maxHeartbeats 1000000 in
theorem back_short (s : List UInt8) (v : Value) (L : List Tk) (w : World) (h : Env w) (hs : s.length ≤ 500) (hn : L.length ≤ 30) (hT : Tks w v L) (hN : ∀ t ∈ L, t.n ≤ 65535) (hS : ∀ t ∈ L, t.s.length ≤ 9223372036854775807) :
    Calls Tryd.prog 3 #[str s, v] w fun e w' => e = .returned (.bool true) ∧ Below w.heap.size w w' := by
  have hsz : (ByteArray.mk s.toArray).size = s.length := size_mk s
  have d : decide (500 < s.length) = false := by simp; omega
  have d2 : decide (30 < L.length) = false := by simp; omega
  have HT : Hid (Tks w v L) := hT
  obtain ⟨sa, sc, rfl, hc⟩ := hT
  have HC : Hid (∀ k (hk : k < L.length), ∃ b off, sa = some ⟨b, off, none⟩ ∧ b < w.heap.size ∧ At3 w b (off + k * 3) L[k]) := hc
  have HE : Hid (Env w) := h
  have HN : Hid (∀ t ∈ L, t.n ≤ 65535) := hN
  have HS : Hid (∀ t ∈ L, t.s.length ≤ 9223372036854775807) := hS
  clear hc hN hS
  go_enter Tryd.func3, Tryd.ntmps3
  go_wp2_with fail
  refine (awake_any _ h).mono ?_
  rintro e w1 ⟨rfl, hb1⟩
  have HB1 : Hid (Below w.heap.size w w1) := hb1
  clear h hb1
  go_wp2_with fail
  go_loopw [23] (fun i wr => ∃ k : Nat, k ≤ L.length ∧ i = .int .i64 (k : Int) ∧ Hid (∀ t ∈ L.take k, t.s.length ≤ 100) ∧ Hid (Below w.heap.size w wr)) (fun i _ => L.length - (intOf i).toNat)
  case atStart => exact ⟨0, Nat.zero_le _, rfl, (fun t ht => by simp at ht), HB1⟩
  case round =>
    obtain ⟨k, hk, rfl, HK, HB⟩ := hrel
    have hws := HB.out.size
    by_cases hlt : k < L.length
    · obtain ⟨b, off, rfl, hb, ha⟩ := HC.out k hlt
      have HK2 : Hid (L[k].s.length ≤ 100 → ∀ t ∈ L.take (k + 1), t.s.length ≤ 100) := by
        intro h1 t ht
        rw [List.take_succ_eq_append_getElem hlt, List.mem_append, List.mem_singleton] at ht
        rcases ht with ht | rfl
        · exact HK.out t ht
        · exact h1
      have hS63 := HS.out L[k] (List.getElem_mem hlt)
      obtain ⟨q0, q1, q2⟩ := ha.below HB.out hb
      generalize L[k] = t at *
      have hsz2 : (ByteArray.mk t.s.toArray).size = t.s.length := size_mk t.s
      clear ha
      by_cases h100 : 100 < t.s.length
      · have d3 : decide (100 < t.s.length) = true := by simp; omega
        clear HK2
        go_wp2
        go_ret
        exact ⟨rfl, HB.out.alloc hws _⟩
      · have d3 : decide (100 < t.s.length) = false := by simp; omega
        have HK3 : Hid (∀ t ∈ L.take (k + 1), t.s.length ≤ 100) := HK2.out (by omega)
        clear HK2
        go_wp2
        go_roundw
        case rel => exact ⟨k + 1, by omega, by go_num, HK3, HB.out.alloc hws _⟩
        case measure => simp [intOf]; omega
    · have hkl : k = L.length := by omega
      subst hkl
      have HO : Hid (∀ t ∈ L, okT t) := fun t ht => ⟨HN.out t ht, by
        have h1 := HK.out
        rw [List.take_length] at h1
        have := h1 t ht; omega⟩
      clear HK HC HN HS
      obtain ⟨r, cT, hok, herr⟩ := tokens_all s (by omega)
      have HOK : Hid (∀ l, r = .ok l → ∃ cs, Good cs ∧ s = fl cs ∧ lexS 0 cs = .ok l) := hok
      clear hok
      go_wp2_with fail
      refine (join_any _ L (by omega) HO.out _ (HE.out.below HB.out) (HT.out.below HB.out)).mono ?_
      rintro e w2 ⟨rfl, hb2⟩
      have HB2 : Hid (Below w.heap.size w w2) := HB.out.trans (hb2.mono HB.out.size)
      clear hb2
      go_wp2_with fail
      refine (rjoin_any _ L (by omega) HO.out _ (HT.out.below HB2.out)).mono ?_
      rintro e w3 ⟨rfl, hb3⟩
      have HB3 : Hid (Below w.heap.size w w3) := HB2.out.trans (hb3.mono HB2.out.size)
      clear hb3 HB2 HB
      generalize joinT L = JL at *
      go_wp2_with fail
      refine (cT _ (HE.out.below HB3.out)).mono ?_
      rintro e w4 ⟨hres, hb4⟩
      have HB4 : Hid (Below w.heap.size w w4) := HB3.out.trans (hb4.mono HB3.out.size)
      clear hb4 HB3 cT
      cases r with
      | error er =>
        have he : e = .returned (.tuple #[.slice none 0 0, .int .i64 (er : Int)]) := hres
        subst he
        have dne : (((er : Nat) : Int) != 0) = true := by have := herr er rfl; simp; omega
        clear hres herr HOK
        go_wp2
        go_ret
        exact ⟨rfl, HB4.out⟩
      | ok l =>
        obtain ⟨ma, mc, he, hcap, hTm⟩ := hres
        subst he
        obtain ⟨cs, hg, hcs, hlex⟩ := HOK.out l rfl
        obtain ⟨hot, hl3, J, hJ, hfJ, hlJ, hlexJ⟩ := back_text hg (by rw [← hcs]; exact hs) hlex
        have HTm : Hid (Tks w4 (.slice ma (l.length + 1) mc) (l ++ [tkEnd])) := hTm
        have cJ : ∀ w v, Env w → Tks w v (l ++ [tkEnd]) → Calls Tryd.prog 6 #[v] w fun e w' => e = .returned (str (fl J)) ∧ Below w.heap.size w w' := fun w v h hT => by
          have := join_any v (l ++ [tkEnd]) (by rw [List.length_append]; simp; omega) hot w h hT
          rw [hfJ] at this
          exact this
        have cT2 : ∀ w, Env w → Calls Tryd.prog 8 #[str (fl J)] w fun e w' => TokRes (.ok l) e w' ∧ Below w.heap.size w w' := fun w h => by
          have := tokens_good J hJ hlJ w h
          rw [hlexJ] at this
          exact this
        clear hTm HOK herr hot hJ hfJ hlJ hlexJ hg hcs hlex
        generalize fl J = TJ at *
        go_wp2_with fail
        refine (cJ _ _ (HE.out.below HB4.out) HTm.out).mono ?_
        rintro e w5 ⟨rfl, hb5⟩
        have HB5 : Hid (Below w.heap.size w w5) := HB4.out.trans (hb5.mono HB4.out.size)
        have HTm5 : Hid (Tks w5 (.slice ma (l.length + 1) mc) (l ++ [tkEnd])) := HTm.out.below hb5
        clear hb5 HB4 HTm cJ
        go_wp2_with fail
        refine (cT2 _ (HE.out.below HB5.out)).mono ?_
        rintro e w6 ⟨⟨na, nc, he, hcap2, hTn⟩, hb6⟩
        subst he
        have HB6 : Hid (Below w.heap.size w w6) := HB5.out.trans (hb6.mono HB5.out.size)
        have HTm6 : Hid (Tks w6 (.slice ma (l.length + 1) mc) (l ++ [tkEnd])) := HTm5.out.below hb6
        have HTn6 : Hid (Tks w6 (.slice na (l.length + 1) nc) (l ++ [tkEnd])) := hTn
        clear hb6 HB5 HTm5 hTn cT2
        go_wp2_with fail
        refine (same_any _ _ (l ++ [tkEnd]) (by rw [List.length_append]; simp; omega) _ HTm6.out HTn6.out).mono ?_
        rintro e w7 ⟨rfl, hb7⟩
        have HB7 : Hid (Below w.heap.size w w7) := HB6.out.trans (hb7.mono HB6.out.size)
        clear hb7
        go_wp2
        go_ret
        exact ⟨rfl, HB7.out⟩
end Go.Proofs.YtajdhpdbekigkaaDoor
