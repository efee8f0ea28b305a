/- Plain laws on a packet's text: what packet.Read makes of a text is what the document's Read makes of it, and a packet's text is read as that packet; no conditions but that the numbers are from 0 to 65535. -/
import Derived.Test.YtcfploigpnjmoaaDoorA7
import Derived.Test.YtcfploigpnjmoaaDoorT0
set_option linter.unusedVariables false
set_option linter.unusedSimpArgs false
namespace Go.Proofs.YtcfploigpnjmoaaDoor
open Go

theorem rnum_eq (l : List UInt8) : rnum l = numDoc l := by
  unfold rnum numDoc
  by_cases h5 : 5 < l.length
  · rw [if_pos h5, if_pos (.inr (.inl h5))]
  · rw [if_neg h5]
    cases l with
    | nil => simp [Lib.parseUintB]
    | cons c r =>
      have hp : Lib.parseUintB 16 (c :: r) = Lib.parseUintM 65535 0 (c :: r) := by
        unfold Lib.parseUintB; rw [if_neg (by simp)]
      have hv := parse_val 65535 (by decide) (c :: r) 0 (Nat.zero_le _)
      rw [hp]
      show okOf _ = _
      rw [hv]
      generalize hvv : valOf 0 (c :: r) = V
      generalize hdd : (c :: r).all isDig = D
      have hlen : ¬ (c :: r).length < 1 := by simp
      by_cases hc : D = true ∧ V ≤ 65535
      · rw [if_pos hc, if_neg]
        rintro (h1 | h1 | h1 | h1)
        · exact hlen h1
        · exact h5 h1
        · rw [hc.1] at h1; cases h1
        · omega
      · rw [if_neg hc, if_pos]
        by_cases hD : D = true
        · exact .inr (.inr (.inr (by have : ¬ V ≤ 65535 := fun e => hc ⟨hD, e⟩; omega)))
        · exact .inr (.inr (.inl (by simpa using hD)))

/-- The document's pair. -/
def pairDoc (w : List UInt8) : Option (Nat × Nat) := match split 61 w with
  | [a, b] => match fieldOf a, numDoc b with
    | some f, some n => some (f, n)
    | _, _ => none
  | _ => none
theorem numDoc_eq61 (l : List UInt8) (h : 61 ∈ l) : numDoc l = none := by
  unfold numDoc
  rw [if_pos]
  refine .inr (.inr (.inl ?_))
  rw [List.all_eq_false]
  exact ⟨61, h, by decide⟩
theorem rpair_eq (w : List UInt8) : rpair w = pairDoc w := by
  unfold rpair pairDoc
  rcases part 61 w with h | ⟨a, b, rfl, ha⟩
  · rw [cut_none 61 w h, split_none 61 w h, rnum_eq]
    have : numDoc [] = none := by simp [numDoc]
    rw [this]
    cases fieldOf w <;> rfl
  · rw [cut_at 61 a b ha, split_at 61 a b ha, rnum_eq]
    rcases part 61 b with hb | ⟨x, y, rfl, hx⟩
    · rw [split_none 61 b hb]; rfl
    · rw [split_at 61 x y hx, numDoc_eq61 (x ++ 61 :: y) (by simp)]
      have hne := split_ne 61 y
      cases hs : split 61 y with
      | nil => exact absurd hs hne
      | cons z t => cases fieldOf a <;> rfl

/-- The document's Read, word by word. -/
def rw1 : List (List UInt8) → List Int → List Bool → Option (List Int)
  | [], p, _ => some p
  | w :: r, p, m => if w = [] then rw1 r p m else match pairDoc w with
    | none => none
    | some (f, x) => if m.getD f false = true then none else rw1 r (p.set f x) (m.set f true)
theorem rd_eq : ∀ (n : Nat) (l : List UInt8) (p : List Int) (m : List Bool), l.length < n → rd n l p m = rw1 (split 32 l) p m
  | 0, l, p, m, h => by omega
  | n + 1, l, p, m, h => by
    rw [rd]
    by_cases hl : l = []
    · subst hl; rw [if_pos rfl]; rfl
    · rw [if_neg hl]
      rcases part 32 l with hn | ⟨a, b, rfl, ha⟩
      · rw [cut_none 32 l hn, split_none 32 l hn]
        have hrest : ∀ p m, rd n [] p m = some p := by
          intro p m
          cases n with
          | zero => rfl
          | succ k => rw [rd, if_pos rfl]
        show (if l = [] then _ else _) = _
        rw [if_neg hl]
        unfold rw1
        rw [if_neg hl, rpair_eq]
        cases pairDoc l with
        | none => rfl
        | some fx =>
          obtain ⟨f, x⟩ := fx
          show (if _ then _ else _) = (if _ then _ else _)
          rw [hrest]; rfl
      · rw [cut_at 32 a b ha, split_at 32 a b ha]
        have hb : b.length < n := by simp at h; omega
        show (if a = [] then rd n b p m else _) = _
        unfold rw1
        by_cases hae : a = []
        · rw [if_pos hae, if_pos hae]; exact rd_eq n b p m hb
        · rw [if_neg hae, if_neg hae, rpair_eq]
          cases pairDoc a with
          | none => rfl
          | some fx =>
            obtain ⟨f, x⟩ := fx
            show (if _ then _ else _) = (if _ then _ else _)
            rw [rd_eq n b _ _ hb]
/-- packet.Read is the document's. -/
theorem readOf_eq (l : List UInt8) : readOf l = rw1 (split 32 l) zero8 none8 := rd_eq _ l _ _ (Nat.lt_succ_self _)

/-! The text of a packet is read as that packet. -/
theorem arith1 (acc n x : Nat) (h : x = 48 + n) : acc * 10 + (x - 48) = acc * 10 ^ 1 + n := by subst h; omega
theorem dec_digits : ∀ n : Nat, (Lib.decDigits n).all isDig = true ∧ (∀ acc, valOf acc (Lib.decDigits n) = acc * 10 ^ (Lib.decDigits n).length + n) ∧ Lib.decDigits n ≠ [] := by
  intro n
  induction n using Nat.strongRecOn with
  | ind n ih =>
    by_cases h : n < 10
    · rw [Lib.decDigits_one h]
      have hn : (UInt8.ofNat (48 + n)).toNat = 48 + n := by rw [UInt8.toNat_ofNat']; omega
      refine ⟨?_, ?_, by simp⟩
      · simp [isDig, hn]; omega
      · intro acc
        rw [valOf_one]
        exact arith1 acc n _ hn
    · rw [Lib.decDigits, dif_neg h]
      obtain ⟨h1, h2, h3⟩ := ih (n / 10) (by omega)
      have hn : (UInt8.ofNat (48 + n % 10)).toNat = 48 + n % 10 := by rw [UInt8.toNat_ofNat']; omega
      refine ⟨?_, ?_, by simp⟩
      · rw [List.all_append, h1]; simp [isDig, hn]; omega
      · intro acc
        rw [valOf_snoc, h2, hn, List.length_append, List.length_singleton, Nat.pow_succ, Nat.add_mul, Nat.mul_assoc]
        omega
theorem itoa_num (z : Int) (h0 : 0 ≤ z) (h1 : z ≤ 65535) : numDoc (Lib.itoa z) = some z.toNat := by
  obtain ⟨d1, d2, d3⟩ := dec_digits z.toNat
  have hlen : (Lib.decDigits z.toNat).length ≤ 5 := by
    rw [Lib.decDigits_length]
    have := nDigits_le 4 z.toNat (by omega)
    omega
  have hpos : 0 < (Lib.decDigits z.toNat).length := List.length_pos_iff.2 d3
  have hv := d2 0
  rw [Nat.zero_mul, Nat.zero_add] at hv
  unfold Lib.itoa
  rw [if_neg (by omega)]
  unfold numDoc
  rw [hv, d1, if_neg]
  rintro (h | h | h | h)
  · omega
  · omega
  · cases h
  · omega
theorem itoa_digs (z : Int) (h0 : 0 ≤ z) (c : UInt8) (hc : isDig c = false) : c ∉ Lib.itoa z := by
  unfold Lib.itoa
  rw [if_neg (by omega)]
  intro hm
  have := List.all_eq_true.1 (dec_digits z.toNat).1 c hm
  rw [hc] at this; cases this
theorem nm8_free (k : Nat) (hk : k < 8) : 61 ∉ nm8.getD k [] ∧ 32 ∉ nm8.getD k [] ∧ fieldOf (nm8.getD k []) = some k := by
  match k, hk with
  | 0, _ => decide +kernel
  | 1, _ => decide +kernel
  | 2, _ => decide +kernel
  | 3, _ => decide +kernel
  | 4, _ => decide +kernel
  | 5, _ => decide +kernel
  | 6, _ => decide +kernel
  | 7, _ => decide +kernel
/-- One field's word. -/
def wordOf (l : List Int) (k : Nat) : List UInt8 := nm8.getD k [] ++ 61 :: Lib.itoa (l.getD k 0)
theorem word_pair (l : List Int) (k : Nat) (hk : k < 8) (h0 : 0 ≤ l.getD k 0) (h1 : l.getD k 0 ≤ 65535) : pairDoc (wordOf l k) = some (k, (l.getD k 0).toNat) := by
  obtain ⟨f1, f2, f3⟩ := nm8_free k hk
  unfold pairDoc wordOf
  rw [split_at 61 _ _ f1, split_none 61 _ (itoa_digs _ h0 61 (by decide))]
  show (match fieldOf (nm8.getD k []), numDoc (Lib.itoa (l.getD k 0)) with | some f, some n => some (f, n) | _, _ => none) = _
  rw [f3, itoa_num _ h0 h1]
theorem word_free (l : List Int) (k : Nat) (hk : k < 8) (h0 : 0 ≤ l.getD k 0) : 32 ∉ wordOf l k := by
  unfold wordOf
  intro hm
  rw [List.mem_append, List.mem_cons] at hm
  rcases hm with hm | hm | hm
  · exact (nm8_free k hk).2.1 hm
  · exact absurd hm (by decide)
  · exact itoa_digs _ h0 32 (by decide) hm
theorem word_ne (l : List Int) (k : Nat) : wordOf l k ≠ [] := by unfold wordOf; simp
theorem piece_word (l : List Int) (k : Nat) : piece l k = if l.getD k 0 = 0 ∧ 2 ≤ k then [] else (if k = 0 then [] else [32]) ++ wordOf l k := by
  unfold piece wordOf
  split
  · rfl
  · simp
/-- What was read, and which fields were said, behind the words of the fields below k. -/
def stTo (l : List Int) : Nat → List Int
  | 0 => zero8
  | k + 1 => if l.getD k 0 = 0 ∧ 2 ≤ k then stTo l k else (stTo l k).set k (l.getD k 0)
def mkTo (l : List Int) : Nat → List Bool
  | 0 => none8
  | k + 1 => if l.getD k 0 = 0 ∧ 2 ≤ k then mkTo l k else (mkTo l k).set k true
theorem none8_at (j : Nat) : none8.getD j false = false := by
  by_cases h : j < 8
  · match j, h with
    | 0, _ => rfl
    | 1, _ => rfl
    | 2, _ => rfl
    | 3, _ => rfl
    | 4, _ => rfl
    | 5, _ => rfl
    | 6, _ => rfl
    | 7, _ => rfl
  · rw [List.getD_eq_getElem?_getD, List.getElem?_eq_none (by simp [none8]; omega)]; rfl
theorem mkTo_free (l : List Int) : ∀ k j, k ≤ j → (mkTo l k).getD j false = false
  | 0, j, _ => none8_at j
  | k + 1, j, h => by
    rw [mkTo]
    split
    · exact mkTo_free l k j (by omega)
    · have := mkTo_free l k j (by omega)
      rw [List.getD_eq_getElem?_getD] at this ⊢
      rw [List.getElem?_set_ne (by omega)]
      exact this
theorem read_words (l : List Int) (hr : ∀ k, 0 ≤ l.getD k 0 ∧ l.getD k 0 ≤ 65535) : ∀ k, k ≤ 8 → ∀ R, rw1 (split 32 (textTo l k) ++ R) zero8 none8 = rw1 R (stTo l k) (mkTo l k)
  | 0, _, R => by simp [textTo, split, rw1, stTo, mkTo]
  | k + 1, hk, R => by
    have ih := read_words l hr k (by omega)
    rw [textTo, piece_word, stTo, mkTo]
    by_cases hs : l.getD k 0 = 0 ∧ 2 ≤ k
    · rw [if_pos hs, if_pos hs, if_pos hs, List.append_nil]; exact ih R
    · rw [if_neg hs, if_neg hs, if_neg hs]
      have hstep : ∀ R, rw1 (wordOf l k :: R) (stTo l k) (mkTo l k) = rw1 R ((stTo l k).set k (l.getD k 0)) ((mkTo l k).set k true) := by
        intro R
        rw [rw1, if_neg (word_ne l k), word_pair l k (by omega) (hr k).1 (hr k).2]
        show (if (mkTo l k).getD k false = true then none else _) = _
        rw [mkTo_free l k k (Nat.le_refl _)]
        show rw1 R ((stTo l k).set k (((l.getD k 0).toNat : Nat) : Int)) _ = _
        rw [Int.toNat_of_nonneg (hr k).1]
      by_cases h0 : k = 0
      · subst h0
        rw [if_pos rfl, List.nil_append]
        show rw1 (split 32 ([] ++ wordOf l 0) ++ R) zero8 none8 = _
        rw [List.nil_append, split_none 32 _ (word_free l 0 (by decide) (hr 0).1)]
        exact hstep R
      · rw [if_neg h0]
        show rw1 (split 32 (textTo l k ++ 32 :: wordOf l k) ++ R) zero8 none8 = _
        rw [split_append, split_none 32 _ (word_free l k (by omega) (hr k).1), List.append_assoc, ih]
        exact hstep R
theorem stTo_all (a0 a1 a2 a3 a4 a5 a6 a7 : Int) : stTo [a0, a1, a2, a3, a4, a5, a6, a7] 8 = [a0, a1, a2, a3, a4, a5, a6, a7] := by
  have hset : ∀ (l : List Int) (k : Nat), 2 ≤ k → (stTo l k).getD k 0 = 0 → (stTo l k).length = 8 → k < 8 → stTo l (k + 1) = (stTo l k).set k (l.getD k 0) := by
    intro l k h2 hz hl hk
    rw [stTo]
    split
    · rename_i hs
      rw [hs.1]
      have hlt : k < (stTo l k).length := by omega
      rw [List.getD_eq_getElem?_getD, List.getElem?_eq_getElem hlt] at hz
      simp at hz
      rw [← hz, List.set_getElem_self]
    · rfl
  have s2 : stTo [a0, a1, a2, a3, a4, a5, a6, a7] 2 = [a0, a1, 0, 0, 0, 0, 0, 0] := by simp [stTo, zero8]
  have s3 : stTo [a0, a1, a2, a3, a4, a5, a6, a7] 3 = [a0, a1, a2, 0, 0, 0, 0, 0] := by rw [hset _ 2 (by decide) (by rw [s2]; rfl) (by rw [s2]; rfl) (by decide), s2]; rfl
  have s4 : stTo [a0, a1, a2, a3, a4, a5, a6, a7] 4 = [a0, a1, a2, a3, 0, 0, 0, 0] := by rw [hset _ 3 (by decide) (by rw [s3]; rfl) (by rw [s3]; rfl) (by decide), s3]; rfl
  have s5 : stTo [a0, a1, a2, a3, a4, a5, a6, a7] 5 = [a0, a1, a2, a3, a4, 0, 0, 0] := by rw [hset _ 4 (by decide) (by rw [s4]; rfl) (by rw [s4]; rfl) (by decide), s4]; rfl
  have s6 : stTo [a0, a1, a2, a3, a4, a5, a6, a7] 6 = [a0, a1, a2, a3, a4, a5, 0, 0] := by rw [hset _ 5 (by decide) (by rw [s5]; rfl) (by rw [s5]; rfl) (by decide), s5]; rfl
  have s7 : stTo [a0, a1, a2, a3, a4, a5, a6, a7] 7 = [a0, a1, a2, a3, a4, a5, a6, 0] := by rw [hset _ 6 (by decide) (by rw [s6]; rfl) (by rw [s6]; rfl) (by decide), s6]; rfl
  rw [hset _ 7 (by decide) (by rw [s7]; rfl) (by rw [s7]; rfl) (by decide), s7]; rfl
/-- Read of Text is the packet. -/
theorem read_text (a0 a1 a2 a3 a4 a5 a6 a7 : Int) (hr : ∀ k, 0 ≤ [a0, a1, a2, a3, a4, a5, a6, a7].getD k 0 ∧ [a0, a1, a2, a3, a4, a5, a6, a7].getD k 0 ≤ 65535) :
    readOf (textTo [a0, a1, a2, a3, a4, a5, a6, a7] 8) = some [a0, a1, a2, a3, a4, a5, a6, a7] := by
  have := read_words _ hr 8 (Nat.le_refl _) []
  rw [List.append_nil] at this
  rw [readOf_eq, this, stTo_all]; rfl
end Go.Proofs.YtcfploigpnjmoaaDoor
