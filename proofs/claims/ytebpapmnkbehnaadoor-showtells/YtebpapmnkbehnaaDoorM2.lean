/- The tokens of a row of code points, as the document says them; two rows in lines of their own have the tokens of both; tokens as a text have these tokens; no conditions. -/
import Derived.Test.YtebpapmnkbehnaaDoorM1
import Derived.Lib.ParseIntB
import Derived.Lib.ItoaNum
set_option linter.unusedVariables false
set_option linter.unusedSimpArgs false
namespace Go.Proofs.YtebpapmnkbehnaaDoor
open Go.Lib

/-- A token: its kind, its text, its number. -/
structure Tk where
  kind : Int
  s : List UInt8
  n : Nat

/-- A letter? -/
def lt (r : Nat) : Bool := isLetterU (r : Int)
/-- A digit? -/
def dg (r : Nat) : Bool := decide (48 ≤ r) && decide (r ≤ 57)
/-- Of a word, behind its first letter? -/
def iw (r : Nat) : Bool := lt r || dg r || decide (r = 95)
/-- A blank? -/
def bl (r : Nat) : Bool := decide (r = 32) || decide (r = 9) || decide (r = 10) || decide (r = 13)
/-- No end of a line? -/
def il (r : Nat) : Bool := !decide (r = 10)
/-- A sign alone? -/
def sg (r : Nat) : Bool := [40, 41, 59, 43, 33, 61, 64, 46, 38, 58, 45].contains r
/-- The first ones that belong to it. -/
def span (p : Nat → Bool) (cs : List R) : List R := cs.takeWhile fun x => p x.1
/-- The first one's number (0: there is none). -/
def hd : List R → Nat
  | [] => 0
  | y :: _ => y.1

def wordOf (x : R) (t : List R) : Except Nat (Tk × Nat) :=
  if 20 < (span iw t).length + 1 then .error 2 else .ok (⟨1, fl (x :: span iw t), 0⟩, (span iw t).length)
def numOf (x : R) (t : List R) : Except Nat (Tk × Nat) :=
  if span iw (t.drop (span dg t).length) ≠ [] then .error 10
  else match parseUintB 16 (fl (x :: span dg t)) with
    | .ok n => .ok (⟨2, [], n⟩, (span dg t).length)
    | _ => .error 2
def signOf (x : R) (t : List R) : Except Nat (Tk × Nat) :=
  if x.1 = 58 ∧ hd t = 61 then .ok (⟨3, [58, 61], 0⟩, 1)
  else if x.1 = 61 ∧ hd t = 62 then .ok (⟨3, [61, 62], 0⟩, 1)
  else if sg x.1 then .ok (⟨3, x.2, 0⟩, 0)
  else .error 10
/-- The token that begins here, and of how many code points behind the first one it is. -/
def fst1 (x : R) (t : List R) : Except Nat (Tk × Nat) :=
  if lt x.1 then wordOf x t else if dg x.1 then numOf x t else signOf x t

/-- The tokens, behind so many code points. -/
def lexS : Nat → List R → Except Nat (List Tk)
  | _, [] => .ok []
  | k + 1, _ :: t => lexS k t
  | 0, x :: t =>
    if bl x.1 then lexS 0 t
    else if x.1 = 35 then lexS (span il t).length t
    else match fst1 x t with
      | .error e => .error e
      | .ok (tk, n) => match lexS n t with
        | .error e => .error e
        | .ok l => .ok (tk :: l)

theorem lexS_nil (k : Nat) : lexS k [] = .ok [] := by cases k <;> rfl
theorem lexS_skip (k : Nat) (x : R) (t : List R) : lexS (k + 1) (x :: t) = lexS k t := rfl
theorem lexS_zero (x : R) (t : List R) : lexS 0 (x :: t) = if bl x.1 then lexS 0 t
    else if x.1 = 35 then lexS (span il t).length t
    else match fst1 x t with
      | .error e => .error e
      | .ok (tk, n) => match lexS n t with
        | .error e => .error e
        | .ok l => .ok (tk :: l) := rfl
theorem lexS_drop : ∀ (k : Nat) (cs : List R), lexS k cs = lexS 0 (cs.drop k)
  | 0, _ => rfl
  | k + 1, [] => by simp [lexS_nil]
  | k + 1, x :: t => by rw [lexS_skip, List.drop_succ_cons]; exact lexS_drop k t

theorem span_app (p : Nat → Bool) (c : R) (C : List R) (hc : p c.1 = false) : ∀ A, span p (A ++ c :: C) = span p A
  | [] => by simp [span, List.takeWhile_cons, hc]
  | x :: t => by
    have ih := span_app p c C hc t
    simp only [span] at ih ⊢
    rw [List.cons_append, List.takeWhile_cons, List.takeWhile_cons, ih]
theorem span_all (p : Nat → Bool) : ∀ A, (∀ x ∈ A, p x.1 = true) → span p A = A
  | [], _ => rfl
  | x :: t, h => by
    have ih := span_all p t (fun y hy => h y (by simp [hy]))
    simp only [span] at ih ⊢
    rw [List.takeWhile_cons, if_pos (h x (by simp)), ih]
theorem span_le (p : Nat → Bool) (A : List R) : (span p A).length ≤ A.length := by
  unfold span; exact (List.takeWhile_sublist _).length_le
theorem span_mem (p : Nat → Bool) (A : List R) : ∀ x ∈ span p A, p x.1 = true := by
  intro x hx; unfold span at hx
  induction A with
  | nil => cases hx
  | cons y t ih =>
    rw [List.takeWhile_cons] at hx
    split at hx
    · rename_i h
      rcases List.mem_cons.1 hx with rfl | h2
      · exact h
      · exact ih h2
    · cases hx
theorem span_take (p : Nat → Bool) : ∀ A : List R, span p A = A.take (span p A).length
  | [] => rfl
  | y :: t => by
    have ih := span_take p t
    by_cases h : p y.1 = true
    · have e : span p (y :: t) = y :: span p t := by simp [span, List.takeWhile_cons, h]
      rw [e, List.length_cons, List.take_succ_cons, ← ih]
    · have e : span p (y :: t) = [] := by simp [span, List.takeWhile_cons, h]
      rw [e]; rfl
theorem Good.span {p : Nat → Bool} {A : List R} (h : Good A) : Good (span p A) := fun x hx => h x ((List.takeWhile_sublist _).subset hx)
theorem Good.drop {k : Nat} {A : List R} (h : Good A) : Good (A.drop k) := fun x hx => h x (List.mem_of_mem_drop hx)
theorem Good.take {k : Nat} {A : List R} (h : Good A) : Good (A.take k) := fun x hx => h x (List.mem_of_mem_take hx)

theorem fst1_le (x : R) (t : List R) (tk : Tk) (n : Nat) (h : fst1 x t = .ok (tk, n)) : n ≤ t.length := by
  unfold fst1 at h
  split at h
  · unfold wordOf at h
    split at h
    · cases h
    · simp only [Except.ok.injEq, Prod.mk.injEq] at h
      rw [← h.2]; exact span_le _ _
  · split at h
    · unfold numOf at h
      split at h
      · cases h
      · split at h
        · simp only [Except.ok.injEq, Prod.mk.injEq] at h
          rw [← h.2]; exact span_le _ _
        · cases h
    · unfold signOf at h
      split at h
      · rename_i hh
        simp only [Except.ok.injEq, Prod.mk.injEq] at h
        rw [← h.2]
        cases t with
        | nil => simp [hd] at hh
        | cons y u => simp
      · split at h
        · rename_i hh
          simp only [Except.ok.injEq, Prod.mk.injEq] at h
          rw [← h.2]
          cases t with
          | nil => simp [hd] at hh
          | cons y u => simp
        · split at h
          · simp only [Except.ok.injEq, Prod.mk.injEq] at h
            rw [← h.2]; exact Nat.zero_le _
          · cases h

/-- What follows a blank plays no part. -/
theorem fst1_app (x : R) (t : List R) (c : R) (C : List R) (h1 : iw c.1 = false) (h2 : dg c.1 = false) (h3 : c.1 ≠ 61) (h4 : c.1 ≠ 62) : fst1 x (t ++ c :: C) = fst1 x t := by
  unfold fst1
  have e1 : wordOf x (t ++ c :: C) = wordOf x t := by
    unfold wordOf; rw [span_app iw c C h1]
  have e2 : numOf x (t ++ c :: C) = numOf x t := by
    unfold numOf
    rw [span_app dg c C h2, List.drop_append_of_le_length (span_le dg t), span_app iw c C h1]
  have e3 : signOf x (t ++ c :: C) = signOf x t := by
    unfold signOf
    cases t with
    | nil => simp [hd, h3, h4]
    | cons y u => rfl
  rw [e1, e2, e3]

def cat (a : Except Nat (List Tk)) (b : Except Nat (List Tk)) : Except Nat (List Tk) :=
  match a with
  | .error e => .error e
  | .ok l => match b with
    | .error e => .error e
    | .ok m => .ok (l ++ m)

theorem ascii_letter : ∀ r : Fin 128, lt r.val = (decide (65 ≤ r.val ∧ r.val ≤ 90) || decide (97 ≤ r.val ∧ r.val ≤ 122)) := by decide +kernel
theorem lt_ascii (r : Nat) (h : r < 128) : lt r = (decide (65 ≤ r ∧ r ≤ 90) || decide (97 ≤ r ∧ r ≤ 122)) := ascii_letter ⟨r, h⟩
theorem iw10 : iw 10 = false := by decide +kernel
theorem iw32 : iw 32 = false := by decide +kernel

/-- A line's end cuts a row of code points in two. -/
theorem lex_app (C : List R) : ∀ (A : List R) (k : Nat), k ≤ A.length → lexS k (A ++ (10, [10]) :: C) = cat (lexS k A) (lexS 0 C)
  | [], k, hk => by
    obtain rfl : k = 0 := by simpa using hk
    rw [List.nil_append, lexS_zero, if_pos (by decide), lexS_nil]
    unfold cat
    cases lexS 0 C <;> rfl
  | x :: t, k + 1, hk => by
    rw [List.cons_append, lexS_skip, lexS_skip]
    exact lex_app C t k (by simpa using hk)
  | x :: t, 0, _ => by
    rw [List.cons_append, lexS_zero, lexS_zero]
    by_cases hb : bl x.1 = true
    · rw [if_pos hb, if_pos hb]; exact lex_app C t 0 (Nat.zero_le _)
    · rw [if_neg hb, if_neg hb]
      by_cases hr : x.1 = 35
      · rw [if_pos hr, if_pos hr, span_app il _ C (by decide)]
        exact lex_app C t _ (span_le _ _)
      · rw [if_neg hr, if_neg hr, fst1_app x t _ C iw10 (by decide) (by decide) (by decide)]
        cases hf : fst1 x t with
        | error e => rfl
        | ok y =>
          obtain ⟨tk, n⟩ := y
          have hn := fst1_le x t tk n hf
          dsimp only
          rw [lex_app C t n hn]
          cases lexS n t with
          | error e => rfl
          | ok l =>
            unfold cat
            cases lexS 0 C with
            | error e => rfl
            | ok m => rfl

/-- Two rows in lines of their own, with a remark between. -/
theorem lex_lines (A B rem : List R) (hrem : ∀ x ∈ rem, x.1 ≠ 10) : lexS 0 (A ++ (10, [10]) :: (35, [35]) :: (rem ++ (10, [10]) :: B)) = cat (lexS 0 A) (lexS 0 B) := by
  rw [lex_app _ A 0 (Nat.zero_le _)]
  congr 1
  rw [lexS_zero, if_neg (by decide), if_pos rfl, span_app il _ B (by decide), span_all il rem (fun x hx => by simp [il, hrem x hx]), lexS_drop, List.drop_left, lexS_zero, if_pos (by decide)]

/-! ### Tokens as a text -/
/-- A token's text. -/
def txt (t : Tk) : List UInt8 := if t.kind = 2 then decDigits t.n else t.s
/-- Tokens as a text, a blank ahead of each. -/
def jn : List Tk → List UInt8
  | [] => []
  | t :: r => if t.kind = 0 then [] else 32 :: (txt t ++ jn r)
def joinT : List Tk → List UInt8
  | [] => []
  | t :: r => if t.kind = 0 then [] else txt t ++ jn r

theorem jn_cons (t : Tk) (r : List Tk) : jn (t :: r) = if t.kind = 0 then [] else 32 :: (txt t ++ jn r) := rfl
theorem joinT_cons (t : Tk) (r : List Tk) : joinT (t :: r) = if t.kind = 0 then [] else txt t ++ jn r := rfl
theorem parseM_cons (M acc : Nat) (c : UInt8) (r : List UInt8) : parseUintM M acc (c :: r) = if 48 ≤ c.toNat ∧ c.toNat ≤ 57 then (if 1844674407370955162 ≤ acc then .range else if M < acc * 10 + (c.toNat - 48) then .range else parseUintM M (acc * 10 + (c.toNat - 48)) r) else parseUintM M acc (c :: r) := by
  by_cases h : 48 ≤ c.toNat ∧ c.toNat ≤ 57
  · rw [if_pos h]; conv => lhs; unfold parseUintM
    rw [if_pos h]
  · rw [if_neg h]
theorem parseM_app (M : Nat) (b : List UInt8) : ∀ (a : List UInt8) (acc v : Nat), parseUintM M acc a = .ok v → parseUintM M acc (a ++ b) = parseUintM M v b
  | [], acc, v, h => by
    simp only [parseUintM, NumEnd.ok.injEq] at h
    rw [List.nil_append, h]
  | c :: r, acc, v, h => by
    rw [List.cons_append]
    by_cases hc : 48 ≤ c.toNat ∧ c.toNat ≤ 57
    · rw [parseM_cons, if_pos hc] at h ⊢
      split at h
      · cases h
      · rename_i h2
        rw [if_neg h2]
        split at h
        · cases h
        · rename_i h3
          rw [if_neg h3]
          exact parseM_app M b r _ v h
    · unfold parseUintM at h
      rw [if_neg hc] at h
      cases h
theorem ofNat_digit (d : Nat) (h : d < 10) : (UInt8.ofNat (48 + d)).toNat = 48 + d := by
  rw [UInt8.toNat_ofNat']; omega
theorem parse_digits : ∀ (k n : Nat), n < k → n ≤ 65535 → parseUintM 65535 0 (decDigits n) = .ok n
  | 0, n, h, _ => by omega
  | k + 1, n, hk, hn => by
    by_cases h10 : n < 10
    · rw [decDigits_one h10]
      unfold parseUintM
      rw [ofNat_digit n h10, if_pos (by omega), if_neg (by omega), if_neg (by omega)]
      unfold parseUintM
      congr 1; omega
    · rw [decDigits, dif_neg h10, parseM_app 65535 _ _ 0 (n / 10) (parse_digits k (n / 10) (by omega) (by omega))]
      unfold parseUintM
      rw [ofNat_digit (n % 10) (by omega), if_pos (by omega), if_neg (by omega), if_neg (by omega)]
      unfold parseUintM
      congr 1; omega
theorem digits_ne : ∀ n, decDigits n ≠ [] := by
  intro n
  rw [decDigits]
  split <;> simp
theorem digits_all : ∀ (k n : Nat), n < k → ∀ b ∈ decDigits n, 48 ≤ b.toNat ∧ b.toNat ≤ 57
  | 0, n, h => by omega
  | k + 1, n, hk => by
    intro b hb
    by_cases h10 : n < 10
    · rw [decDigits_one h10, List.mem_singleton] at hb
      subst hb; rw [ofNat_digit n h10]; omega
    · rw [decDigits, dif_neg h10, List.mem_append, List.mem_singleton] at hb
      rcases hb with hb | rfl
      · exact digits_all k (n / 10) (by omega) b hb
      · rw [ofNat_digit (n % 10) (by omega)]; omega
theorem digits_len5 (n : Nat) (h : n ≤ 65535) : (decDigits n).length ≤ 5 := by
  have step : ∀ m, (decDigits m).length = if m < 10 then 1 else (decDigits (m / 10)).length + 1 := by
    intro m
    by_cases h10 : m < 10
    · rw [decDigits_one h10, if_pos h10]; rfl
    · rw [decDigits, dif_neg h10, if_neg h10, List.length_append]; rfl
  rw [step]; split
  · omega
  · rw [step]; split
    · omega
    · rw [step]; split
      · omega
      · rw [step]; split
        · omega
        · rw [step, if_pos (by omega)]; omega
theorem parseM_le (M : Nat) : ∀ (l : List UInt8) (acc v : Nat), acc ≤ M → parseUintM M acc l = .ok v → v ≤ M
  | [], acc, v, ha, h => by
    simp only [parseUintM, NumEnd.ok.injEq] at h
    omega
  | c :: r, acc, v, ha, h => by
    unfold parseUintM at h
    split at h
    · split at h
      · cases h
      · split at h
        · cases h
        · exact parseM_le M r _ v (by omega) h
    · cases h
theorem parseB_le {l : List UInt8} {v : Nat} (h : parseUintB 16 l = .ok v) : v ≤ 65535 := by
  unfold parseUintB at h
  split at h
  · cases h
  · exact parseM_le (2 ^ 16 - 1) l 0 v (Nat.zero_le _) h

/-- It is a token of some text: its own text, behind which a blank or nothing stands, begins with it. -/
def TokOK (t : Tk) : Prop :=
  t.kind ≠ 0 ∧ t.n ≤ 65535 ∧ ∃ (x : R) (c : List R), Good (x :: c) ∧ fl (x :: c) = txt t ∧ bl x.1 = false ∧ x.1 ≠ 35 ∧ fst1 x c = .ok (t, c.length)

theorem good_small {x : R} (h : good x) (hs : x.1 < 128) : x.2 = [x.1.toUInt8] := by
  have h0 := h.2.2 []
  rw [List.append_nil, decodeL_N] at h0
  have hl := h.1
  rcases decodeN_shape x.2.length (x.2.getD 0 0).toNat (x.2.getD 1 0).toNat (x.2.getD 2 0).toNat (x.2.getD 3 0).toNat with ⟨c, e⟩ | ⟨c1, c2, c3, cv, e⟩ | ⟨c1, c2, c3, c4, cv, cs, e⟩ | ⟨c1, c2, c3, c4, c5, cv, cw, e⟩ | e
  · rw [e] at h0
    simp only [Prod.mk.injEq] at h0
    have ht := takeA x.2 (by omega)
    rw [List.take_of_length_le (by omega)] at ht
    rw [ht, ← h0.1]
    simp
  · rw [e] at h0; simp only [Prod.mk.injEq] at h0; omega
  · rw [e] at h0; simp only [Prod.mk.injEq] at h0; omega
  · rw [e] at h0; simp only [Prod.mk.injEq] at h0; omega
  · rw [e] at h0; simp only [Prod.mk.injEq] at h0; omega

theorem dg_bl {r : Nat} (h : dg r = true) : bl r = false := by
  simp only [dg, Bool.and_eq_true, decide_eq_true_eq] at h
  simp only [bl, Bool.or_eq_false_iff, decide_eq_false_iff_not]; omega
theorem lt_bl {r : Nat} (h : lt r = true) : bl r = false ∧ r ≠ 35 := by
  by_cases hs : r < 128
  · rw [lt_ascii r hs] at h
    simp only [Bool.or_eq_true, decide_eq_true_eq] at h
    simp only [bl, Bool.or_eq_false_iff, decide_eq_false_iff_not]; omega
  · simp only [bl, Bool.or_eq_false_iff, decide_eq_false_iff_not]; omega
theorem dg_lt {r : Nat} (h : dg r = true) : lt r = false := by
  simp only [dg, Bool.and_eq_true, decide_eq_true_eq] at h
  rw [lt_ascii r (by omega)]
  simp only [Bool.or_eq_false_iff, decide_eq_false_iff_not]; omega
theorem sg_in {r : Nat} (h : sg r = true) : r < 128 ∧ lt r = false ∧ dg r = false ∧ bl r = false ∧ r ≠ 35 := by
  have h' : r ∈ [40, 41, 59, 43, 33, 61, 64, 46, 38, 58, 45] := by simpa [sg] using h
  simp only [List.mem_cons, List.mem_nil_iff, or_false] at h'
  rcases h' with rfl | rfl | rfl | rfl | rfl | rfl | rfl | rfl | rfl | rfl | rfl <;> decide +kernel

theorem fst1_ok (x : R) (t : List R) (tk : Tk) (n : Nat) (hg : Good (x :: t)) (h : fst1 x t = .ok (tk, n)) : TokOK tk ∧ (txt tk).length + 1 ≤ 6 * (fl (x :: t.take n)).length := by
  have hx := hg.head
  have hpos : ∀ m, 1 ≤ (fl (x :: t.take m)).length := by
    intro m
    rw [fl_cons, List.length_append]
    have := hx.1
    omega
  unfold fst1 at h
  split at h
  · rename_i hl
    unfold wordOf at h
    split at h
    · cases h
    · rename_i h20
      simp only [Except.ok.injEq, Prod.mk.injEq] at h
      obtain ⟨rfl, rfl⟩ := h
      have hs : span iw (span iw t) = span iw t := span_all iw _ (span_mem iw t)
      refine ⟨⟨by show (1 : Int) ≠ 0; decide, Nat.zero_le _, x, span iw t, Good.cons hx hg.tail.span, by simp [txt], (lt_bl hl).1, (lt_bl hl).2, ?_⟩, ?_⟩
      · unfold fst1
        rw [if_pos hl]
        unfold wordOf
        rw [hs, if_neg h20]
      · have hp := hpos (span iw t).length
        rw [← span_take] at hp ⊢
        have e : txt ⟨1, fl (x :: span iw t), 0⟩ = fl (x :: span iw t) := by simp [txt]
        rw [e]; omega
  · rename_i hl
    split at h
    · rename_i hd
      unfold numOf at h
      split at h
      · cases h
      · split at h
        · rename_i hnw v hv
          simp only [Except.ok.injEq, Prod.mk.injEq] at h
          obtain ⟨rfl, rfl⟩ := h
          have hv5 := parseB_le hv
          have htx : txt ⟨2, [], v⟩ = decDigits v := by simp [txt]
          refine ⟨⟨by show (2 : Int) ≠ 0; decide, hv5, ?_⟩, ?_⟩
          · rw [htx]
            obtain ⟨b, u, hbu⟩ := List.exists_cons_of_ne_nil (digits_ne v)
            have hall : ∀ y ∈ b :: u, 48 ≤ y.toNat ∧ y.toNat ≤ 57 := by rw [← hbu]; exact digits_all (v + 1) v (by omega)
            have hga : Good (asc (b :: u)) := good_asc _ (fun y hy => by have := hall y hy; omega)
            have hdb : dg b.toNat = true := by have := hall b (by simp); simp [dg, this.1, this.2]
            have hsu : span dg (asc u) = asc u := span_all dg _ (fun y hy => by
              obtain ⟨z, hz, rfl⟩ := List.mem_map.1 hy
              have := hall z (by simp [hz])
              simp [dg, this.1, this.2])
            refine ⟨(b.toNat, [b]), asc u, hga, ?_, dg_bl hdb, ?_, ?_⟩
            · rw [hbu]; exact fl_asc (b :: u)
            · have := hall b (by simp); show b.toNat ≠ 35; omega
            · unfold fst1
              rw [if_neg (by rw [dg_lt hdb]; decide), if_pos hdb]
              unfold numOf
              rw [hsu, List.drop_length, if_neg (by simp [span])]
              have e : fl ((b.toNat, [b]) :: asc u) = decDigits v := by rw [hbu]; exact fl_asc (b :: u)
              rw [e]
              have e2 : parseUintB 16 (decDigits v) = .ok v := by
                unfold parseUintB
                rw [if_neg (digits_ne v)]
                exact parse_digits (v + 1) v (by omega) hv5
              rw [e2]
          · rw [htx]
            have := digits_len5 v hv5
            have := hpos (span dg t).length
            omega
        · cases h
    · rename_i hd
      unfold signOf at h
      split at h
      · rename_i hh
        simp only [Except.ok.injEq, Prod.mk.injEq] at h
        obtain ⟨rfl, rfl⟩ := h
        refine ⟨⟨by show (3 : Int) ≠ 0; decide, Nat.zero_le _, (58, [58]), [(61, [61])], good_asc [58, 61] (by decide), rfl, by decide, by decide, ?_⟩, ?_⟩
        · have e1 : lt 58 = false := by decide +kernel
          simp [fst1, e1, signOf, hd, Proofs.YtebpapmnkbehnaaDoor.hd, dg]
        · have := hpos 1
          have e : (txt ⟨3, [58, 61], 0⟩).length = 2 := rfl
          omega
      · split at h
        · simp only [Except.ok.injEq, Prod.mk.injEq] at h
          obtain ⟨rfl, rfl⟩ := h
          refine ⟨⟨by show (3 : Int) ≠ 0; decide, Nat.zero_le _, (61, [61]), [(62, [62])], good_asc [61, 62] (by decide), rfl, by decide, by decide, ?_⟩, ?_⟩
          · have e1 : lt 61 = false := by decide +kernel
            simp [fst1, e1, signOf, Proofs.YtebpapmnkbehnaaDoor.hd, dg]
          · have := hpos 1
            have e : (txt ⟨3, [61, 62], 0⟩).length = 2 := rfl
            omega
        · split at h
          · rename_i hs
            simp only [Except.ok.injEq, Prod.mk.injEq] at h
            obtain ⟨rfl, rfl⟩ := h
            obtain ⟨g1, g2, g3, g4, g5⟩ := sg_in hs
            have htx : txt ⟨3, x.2, 0⟩ = x.2 := by simp [txt]
            refine ⟨⟨by show (3 : Int) ≠ 0; decide, Nat.zero_le _, x, [], Good.cons hx Good.nil, by rw [htx, fl_cons, fl_nil, List.append_nil], g4, g5, ?_⟩, ?_⟩
            · simp [fst1, g2, g3, signOf, Proofs.YtebpapmnkbehnaaDoor.hd, hs]
            · rw [htx]
              have := hx.1
              rw [fl_cons, List.length_append]
              omega
          · cases h

theorem lex_toks : ∀ (cs : List R) (k : Nat) (l : List Tk), Good cs → lexS k cs = .ok l → (∀ t ∈ l, TokOK t) ∧ (jn l).length ≤ 6 * (fl (cs.drop k)).length
  | [], k, l, _, h => by
    rw [lexS_nil, Except.ok.injEq] at h
    subst h
    exact ⟨fun _ h => (by cases h), by simp [jn]⟩
  | x :: t, k + 1, l, hg, h => by
    rw [lexS_skip] at h
    rw [List.drop_succ_cons]
    exact lex_toks t k l hg.tail h
  | x :: t, 0, l, hg, h => by
    rw [List.drop_zero]
    rw [lexS_zero] at h
    split at h
    · obtain ⟨h1, h2⟩ := lex_toks t 0 l hg.tail h
      rw [List.drop_zero] at h2
      rw [fl_cons, List.length_append]
      exact ⟨h1, by omega⟩
    · split at h
      · obtain ⟨h1, h2⟩ := lex_toks t _ l hg.tail h
        refine ⟨h1, ?_⟩
        have e : fl t = fl (t.take (span il t).length) ++ fl (t.drop (span il t).length) := by rw [← fl_append, List.take_append_drop]
        rw [fl_cons, List.length_append, e, List.length_append]; omega
      · cases hf : fst1 x t with
        | error e => rw [hf] at h; cases h
        | ok y =>
          obtain ⟨tk, n⟩ := y
          rw [hf] at h
          dsimp only at h
          obtain ⟨ho, hlen⟩ := fst1_ok x t tk n hg hf
          cases hl : lexS n t with
          | error e => rw [hl] at h; cases h
          | ok m =>
            rw [hl] at h
            simp only [Except.ok.injEq] at h
            subst h
            obtain ⟨h1, h2⟩ := lex_toks t n m hg.tail hl
            refine ⟨fun y hy => ?_, ?_⟩
            · rcases List.mem_cons.1 hy with rfl | hy
              · exact ho
              · exact h1 y hy
            · have e : fl (x :: t) = fl (x :: t.take n) ++ fl (t.drop n) := by rw [← fl_append, List.cons_append, List.take_append_drop]
              rw [e, List.length_append]
              rw [jn_cons, if_neg ho.1]
              simp only [List.length_cons, List.length_append]
              omega

/-- Tokens as a text have these tokens. -/
theorem join_lex : ∀ l : List Tk, (∀ t ∈ l, TokOK t) → (∃ J, Good J ∧ fl J = joinT l ∧ lexS 0 J = .ok l) ∧ (∃ J, Good J ∧ fl J = jn l ∧ (J = [] ∨ ∃ C, J = (32, [32]) :: C) ∧ lexS 0 J = .ok l)
  | [], _ => ⟨⟨[], Good.nil, rfl, rfl⟩, ⟨[], Good.nil, rfl, .inl rfl, rfl⟩⟩
  | t :: r, h => by
    obtain ⟨_, ⟨J, hJ, hf, hC, hl⟩⟩ := join_lex r (fun y hy => h y (by simp [hy]))
    obtain ⟨hk, hn, x, c, hg, hfx, hb, h35, hx⟩ := h t (by simp)
    have key : lexS 0 (x :: (c ++ J)) = .ok (t :: r) := by
      have e : fst1 x (c ++ J) = fst1 x c := by
        rcases hC with rfl | ⟨C, rfl⟩
        · rw [List.append_nil]
        · exact fst1_app x c _ C iw32 (by decide) (by decide) (by decide)
      rw [lexS_zero, if_neg (by rw [hb]; decide), if_neg h35, e, hx]
      dsimp only
      rw [lexS_drop, List.drop_left, hl]
    have hg2 : Good (x :: (c ++ J)) := by
      rw [← List.cons_append]; exact hg.append hJ
    have hfl : fl (x :: (c ++ J)) = txt t ++ jn r := by
      rw [← List.cons_append, fl_append, hfx, hf]
    refine ⟨⟨x :: (c ++ J), hg2, ?_, key⟩, ⟨(32, [32]) :: x :: (c ++ J), Good.cons (good_ascii 32 (by decide)) hg2, ?_, .inr ⟨_, rfl⟩, ?_⟩⟩
    · rw [joinT_cons, if_neg hk, hfl]
    · rw [fl_cons, hfl, jn_cons, if_neg hk]; rfl
    · rw [lexS_zero, if_pos (by decide), key]
theorem joinT_le (l : List Tk) : (joinT l).length ≤ (jn l).length := by
  cases l with
  | nil => simp [joinT]
  | cons t r =>
    rw [joinT_cons, jn_cons]
    split <;> simp
/-- An End behind the tokens. -/
def tkEnd : Tk := ⟨0, [], 0⟩
theorem jn_end : ∀ l : List Tk, (∀ t ∈ l, t.kind ≠ 0) → jn (l ++ [tkEnd]) = jn l
  | [], _ => rfl
  | t :: r, h => by
    have ih := jn_end r (fun y hy => h y (by simp [hy]))
    rw [List.cons_append, jn_cons, jn_cons, ih]
theorem joinT_end (l : List Tk) (h : ∀ t ∈ l, t.kind ≠ 0) : joinT (l ++ [tkEnd]) = joinT l := by
  cases l with
  | nil => rfl
  | cons t r =>
    have ih := jn_end r (fun y hy => h y (by simp [hy]))
    rw [List.cons_append, joinT_cons, joinT_cons, ih]
end Go.Proofs.YtebpapmnkbehnaaDoor
