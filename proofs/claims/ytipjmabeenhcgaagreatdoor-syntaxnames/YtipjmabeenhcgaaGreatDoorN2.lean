/- The three texts that SyntaxNames asks about, as tokens, and what the reader's model answers of them: for every word of up to 20 small letters and every digit. -/
import Derived.Test.YtipjmabeenhcgaaGreatDoorN1
import Derived.KernelRfl
set_option linter.unusedVariables false
set_option linter.unusedSimpArgs false
namespace Go.Proofs.YtipjmabeenhcgaaGreatDoor
open Go.RowKit Go.Joins Go.Lib

/-- A blank cuts a row of code points in two, where no remark stands. -/
theorem lex_cut (C : List R) : ∀ (A : List R) (k : Nat), (∀ x ∈ A, x.1 ≠ 35) → k ≤ A.length → lexS k (A ++ (32, [32]) :: C) = cat (lexS k A) (lexS 0 C)
  | [], k, _, hk => by
    obtain rfl : k = 0 := by simpa using hk
    rw [List.nil_append, lexS_zero, if_pos (by decide), lexS_nil]
    unfold cat
    cases lexS 0 C <;> rfl
  | x :: t, k + 1, hA, hk => by
    rw [List.cons_append, lexS_skip, lexS_skip]
    exact lex_cut C t k (fun y hy => hA y (List.mem_cons_of_mem _ hy)) (by simpa using hk)
  | x :: t, 0, hA, _ => by
    have hA' : ∀ y ∈ t, y.1 ≠ 35 := fun y hy => hA y (List.mem_cons_of_mem _ hy)
    rw [List.cons_append, lexS_zero, lexS_zero]
    by_cases hb : bl x.1 = true
    · rw [if_pos hb, if_pos hb]; exact lex_cut C t 0 hA' (Nat.zero_le _)
    · rw [if_neg hb, if_neg hb]
      have hr : ¬ x.1 = 35 := hA x (List.mem_cons_self ..)
      rw [if_neg hr, if_neg hr, fst1_app x t _ C iw32 (by decide) (by decide) (by decide)]
      cases hf : fst1 x t with
      | error e => rfl
      | ok y =>
        obtain ⟨tk, n⟩ := y
        have hn := fst1_le x t tk n hf
        dsimp only
        rw [lex_cut C t n hA' hn]
        cases lexS n t with
        | error e => rfl
        | ok l =>
          unfold cat
          cases lexS 0 C with
          | error e => rfl
          | ok m => rfl
theorem cat_ok (a b : List Tk) : cat (.ok a) (.ok b) = .ok (a ++ b) := rfl
theorem asc_app (a b : List UInt8) : asc (a ++ b) = asc a ++ asc b := by simp [asc]
theorem asc_len (a : List UInt8) : (asc a).length = a.length := by simp [asc]
theorem asc_no (a : List UInt8) (h : ∀ b ∈ a, b.toNat ≠ 35) : ∀ x ∈ asc a, x.1 ≠ 35 := by
  intro x hx
  obtain ⟨b, hb, rfl⟩ := List.mem_map.1 hx
  exact h b hb
/-- Two rows of bytes with a blank between. -/
theorem lex_two (a b : List UInt8) (la lb : List Tk) (ha : lexS 0 (asc a) = .ok la) (hb : lexS 0 (asc b) = .ok lb) (h : ∀ x ∈ a, x.toNat ≠ 35) : lexS 0 (asc (a ++ 32 :: b)) = .ok (la ++ lb) := by
  have e : asc (a ++ 32 :: b) = asc a ++ (32, [32]) :: asc b := by simp [asc]
  rw [e, lex_cut _ _ 0 (asc_no a h) (Nat.zero_le _), ha, hb]; rfl

/-- A word of small letters. -/
def Small (s : List UInt8) : Prop := s ≠ [] ∧ s.length ≤ 20 ∧ ∀ b ∈ s, 97 ≤ b.toNat ∧ b.toNat ≤ 122
theorem small_lt {b : UInt8} (h : 97 ≤ b.toNat ∧ b.toNat ≤ 122) : lt b.toNat = true := by
  rw [lt_ascii _ (by omega)]; simp; omega
theorem Small.no {s : List UInt8} (h : Small s) : ∀ x ∈ s, x.toNat ≠ 35 := fun x hx => by have := h.2.2 x hx; omega
theorem small_span {s : List UInt8} (h : ∀ b ∈ s, 97 ≤ b.toNat ∧ b.toNat ≤ 122) : span iw (asc s) = asc s := by
  refine span_all _ _ fun x hx => ?_
  obtain ⟨b, hb, rfl⟩ := List.mem_map.1 hx
  unfold iw
  rw [small_lt (h b hb)]; rfl
theorem lex_word {s : List UInt8} (h : Small s) : lexS 0 (asc s) = .ok [⟨1, s, 0⟩] := by
  obtain ⟨hne, hl, hs⟩ := h
  cases s with
  | nil => exact absurd rfl hne
  | cons c r =>
    have hc := hs c (List.mem_cons_self ..)
    have e : asc (c :: r) = (c.toNat, [c]) :: asc r := rfl
    have hb : bl c.toNat = false := (lt_bl (small_lt hc)).1
    have h35 := (lt_bl (small_lt hc)).2
    have hsp := small_span fun b hb => hs b (List.mem_cons_of_mem _ hb)
    have hf : fst1 (c.toNat, [c]) (asc r) = .ok (⟨1, c :: r, 0⟩, r.length) := by
      unfold fst1 wordOf
      rw [if_pos (small_lt hc), hsp, if_neg (by rw [asc_len]; simp at hl; omega), fl_cons, fl_asc, asc_len]; rfl
    rw [e, lexS_zero, if_neg (by rw [hb]; decide), if_neg h35, hf]
    dsimp only
    rw [lexS_drop, List.drop_of_length_le (by rw [asc_len]; exact Nat.le_refl _), lexS_nil]
theorem iw61 : iw 61 = false := by decide +kernel
theorem lex_dst {s : List UInt8} (h : Small s) : lexS 0 (asc ([100, 115, 116, 61] ++ s)) = .ok [⟨1, [100, 115, 116], 0⟩, ⟨3, [61], 0⟩, ⟨1, s, 0⟩] := by
  have e : asc ([100, 115, 116, 61] ++ s) = (100, [100]) :: (asc [115, 116] ++ (61, [61]) :: asc s) := by simp [asc]
  have hf : fst1 (100, [100]) (asc [115, 116] ++ (61, [61]) :: asc s) = .ok (⟨1, [100, 115, 116], 0⟩, 2) := by
    unfold fst1 wordOf
    rw [if_pos (show lt 100 = true by decide +kernel), span_app iw _ _ iw61]; kernel_rfl
  have hw := lex_word h
  have hd62 : hd (asc s) ≠ 62 ∧ hd (asc s) ≠ 61 := by
    obtain ⟨hne, -, hs⟩ := h
    cases s with
    | nil => exact absurd rfl hne
    | cons c r =>
      have := hs c (List.mem_cons_self ..)
      show c.toNat ≠ 62 ∧ c.toNat ≠ 61
      omega
  have hg : fst1 (61, [61]) (asc s) = .ok (⟨3, [61], 0⟩, 0) := by
    unfold fst1 signOf
    rw [if_neg (show ¬ lt 61 = true by decide +kernel), if_neg (by decide), if_neg (by rintro ⟨h, -⟩; exact absurd h (by decide)), if_neg (fun h => hd62.1 h.2), if_pos (by decide +kernel)]
  rw [e, lexS_zero, if_neg (by decide), if_neg (by decide), hf]
  dsimp only
  have e2 : lexS 2 (asc [115, 116] ++ (61, [61]) :: asc s) = lexS 0 ((61, [61]) :: asc s) := rfl
  rw [e2, lexS_zero, if_neg (by decide), if_neg (by decide), hg]
  dsimp only
  rw [hw]

def wd (l : List UInt8) : Tk := ⟨1, l, 0⟩
def sn (l : List UInt8) : Tk := ⟨3, l, 0⟩
def nb (n : Nat) : Tk := ⟨2, [], n⟩
/-- The digit as bytes. -/
def dgt (n : Nat) : UInt8 := UInt8.ofNat (48 + n)
theorem lex_digit : ∀ n : Fin 10, lexS 0 (asc [dgt n.val]) = .ok [nb n.val]
  | ⟨0, _⟩ => by kernel_rfl
  | ⟨1, _⟩ => by kernel_rfl
  | ⟨2, _⟩ => by kernel_rfl
  | ⟨3, _⟩ => by kernel_rfl
  | ⟨4, _⟩ => by kernel_rfl
  | ⟨5, _⟩ => by kernel_rfl
  | ⟨6, _⟩ => by kernel_rfl
  | ⟨7, _⟩ => by kernel_rfl
  | ⟨8, _⟩ => by kernel_rfl
  | ⟨9, _⟩ => by kernel_rfl
theorem dgt_no : ∀ n : Fin 10, (dgt n.val).toNat ≠ 35 ∧ (dgt n.val).toNat < 128 := by decide +kernel

/-- init 0 . -/
def bInit : List UInt8 := [105, 110, 105, 116, 32, 48, 32, 46]
def tInit : List Tk := [wd [105, 110, 105, 116], nb 0, sn [46]]
theorem lex_init : lexS 0 (asc bInit) = .ok tInit := by kernel_rfl
/-- let s = d . -/
def bLet (s : List UInt8) (n : Nat) : List UInt8 := [108, 101, 116] ++ 32 :: (s ++ 32 :: ([61] ++ 32 :: ([dgt n] ++ 32 :: [46])))
def tLet (s : List UInt8) (n : Nat) : List Tk := [wd [108, 101, 116], wd s, sn [61], nb n, sn [46]]
theorem lex_let {s : List UInt8} (h : Small s) (n : Nat) (hn : n < 10) : lexS 0 (asc (bLet s n)) = .ok (tLet s n) := by
  have h1 := lex_two [dgt n] [46] _ [sn [46]] (lex_digit ⟨n, hn⟩) (by kernel_rfl) (by simp; exact (dgt_no ⟨n, hn⟩).1)
  have h2 := lex_two [61] _ [sn [61]] _ (by kernel_rfl) h1 (by decide)
  have h3 := lex_two s _ _ _ (lex_word h) h2 h.no
  exact lex_two [108, 101, 116] _ [wd [108, 101, 116]] _ (by kernel_rfl) h3 (by decide)
theorem no_let {s : List UInt8} (h : Small s) (n : Nat) (hn : n < 10) : ∀ x ∈ bLet s n, x.toNat ≠ 35 := by
  intro x hx
  simp only [bLet, List.mem_append, List.mem_cons, List.mem_nil_iff, or_false] at hx
  have hd := (dgt_no ⟨n, hn⟩).1
  rcases hx with (rfl | rfl | rfl) | rfl | hx | rfl | rfl | rfl | rfl | rfl | rfl
  all_goals first | decide | exact h.no _ hx | exact hd
/-- policy dst=s . -/
def bPol (s : List UInt8) : List UInt8 := [112, 111, 108, 105, 99, 121] ++ 32 :: ([100, 115, 116, 61] ++ s ++ 32 :: [46])
def tPol (s : List UInt8) : List Tk := [wd [112, 111, 108, 105, 99, 121], wd [100, 115, 116], sn [61], wd s, sn [46]]
theorem lex_pol {s : List UInt8} (h : Small s) : lexS 0 (asc (bPol s)) = .ok (tPol s) := by
  have h1 := lex_two _ [46] _ [sn [46]] (lex_dst h) (by kernel_rfl) (by
    intro x hx
    rcases List.mem_append.1 hx with hx | hx
    · exact (show ∀ x ∈ ([100, 115, 116, 61] : List UInt8), x.toNat ≠ 35 by decide) x hx
    · exact h.no x hx)
  exact lex_two [112, 111, 108, 105, 99, 121] _ [wd [112, 111, 108, 105, 99, 121]] _ (by kernel_rfl) h1 (by decide)
/-- policy id . -/
def bId : List UInt8 := [112, 111, 108, 105, 99, 121, 32, 105, 100, 32, 46]
def tId : List Tk := [wd [112, 111, 108, 105, 99, 121], wd [105, 100], sn [46]]
theorem lex_id : lexS 0 (asc bId) = .ok tId := by kernel_rfl
theorem no_init : ∀ x ∈ bInit, x.toNat ≠ 35 := by decide

def b1 (s : List UInt8) (n : Nat) : List UInt8 := bInit ++ 32 :: (bLet s n ++ 32 :: bPol s)
def b2 (s : List UInt8) (n : Nat) : List UInt8 := bInit ++ 32 :: (bLet s n ++ 32 :: (bLet s n ++ 32 :: bId))
def b3 (s : List UInt8) : List UInt8 := bInit ++ 32 :: bPol s
def t1 (s : List UInt8) (n : Nat) : List Tk := tInit ++ (tLet s n ++ tPol s)
def t2 (s : List UInt8) (n : Nat) : List Tk := tInit ++ (tLet s n ++ (tLet s n ++ tId))
def t3 (s : List UInt8) : List Tk := tInit ++ tPol s
theorem lex_1 {s : List UInt8} (h : Small s) (n : Nat) (hn : n < 10) : lexS 0 (asc (b1 s n)) = .ok (t1 s n) :=
  lex_two _ _ _ _ lex_init (lex_two _ _ _ _ (lex_let h n hn) (lex_pol h) (no_let h n hn)) no_init
theorem lex_2 {s : List UInt8} (h : Small s) (n : Nat) (hn : n < 10) : lexS 0 (asc (b2 s n)) = .ok (t2 s n) :=
  lex_two _ _ _ _ lex_init (lex_two _ _ _ _ (lex_let h n hn) (lex_two _ _ _ _ (lex_let h n hn) lex_id (no_let h n hn)) (no_let h n hn)) no_init
theorem lex_3 {s : List UInt8} (h : Small s) : lexS 0 (asc (b3 s)) = .ok (t3 s) := lex_two _ _ _ _ lex_init (lex_pol h) no_init
end Go.Proofs.YtipjmabeenhcgaaGreatDoor
