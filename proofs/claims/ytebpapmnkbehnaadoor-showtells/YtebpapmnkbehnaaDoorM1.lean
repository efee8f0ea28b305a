/- Texts as code points: what the decoder hands back of bytes that are UTF-8 hangs on those bytes alone; a text that is UTF-8 is a row of code points, and one ASCII byte cuts a text in two that are UTF-8 just if it is; no conditions. -/
import Derived.Lib.ValidLaws
import Derived.Lib.IsU
set_option linter.unusedVariables false
namespace Go.Proofs.YtebpapmnkbehnaaDoor
open Go.Lib

/-- A code point: its number and its bytes. -/
abbrev R := Nat × List UInt8
/-- The bytes of a row of code points. -/
def fl (cs : List R) : List UInt8 := cs.flatMap fun x => x.2
/-- These bytes are decoded as that number, whatever follows. -/
def good (x : R) : Prop := 1 ≤ x.2.length ∧ ¬ (x.1 = 65533 ∧ x.2.length = 1) ∧ ∀ t, decodeL (x.2 ++ t) = (x.1, x.2.length)
def Good (cs : List R) : Prop := ∀ x ∈ cs, good x

theorem fl_nil : fl [] = [] := rfl
theorem fl_cons (x : R) (t : List R) : fl (x :: t) = x.2 ++ fl t := by simp [fl]
theorem fl_append (a b : List R) : fl (a ++ b) = fl a ++ fl b := by simp [fl]
theorem Good.nil : Good [] := fun _ h => by cases h
theorem Good.cons {x : R} {t : List R} (hx : good x) (ht : Good t) : Good (x :: t) := by
  intro y hy; rcases List.mem_cons.1 hy with rfl | h
  · exact hx
  · exact ht y h
theorem Good.head {x : R} {t : List R} (h : Good (x :: t)) : good x := h x (by simp)
theorem Good.tail {x : R} {t : List R} (h : Good (x :: t)) : Good t := fun y hy => h y (by simp [hy])
theorem Good.append {a b : List R} (ha : Good a) (hb : Good b) : Good (a ++ b) := by
  intro y hy; rcases List.mem_append.1 hy with h | h
  · exact ha y h
  · exact hb y h
theorem Good.left {a b : List R} (h : Good (a ++ b)) : Good a := fun y hy => h y (by simp [hy])
theorem Good.right {a b : List R} (h : Good (a ++ b)) : Good b := fun y hy => h y (by simp [hy])

/-- What is decoded as one code point of k bytes hangs on these k bytes alone. -/
theorem dec_pre (l m : List UInt8) (hne : l ≠ []) (hv : ¬ ((decodeL l).1 = 65533 ∧ (decodeL l).2 = 1)) (hk : (decodeL l).2 ≤ m.length) (he : ∀ i, i < (decodeL l).2 → m.getD i 0 = l.getD i 0) : decodeL m = decodeL l := by
  have hl : 0 < l.length := List.length_pos_iff.2 hne
  rw [decodeL_N] at hv hk he
  rw [decodeL_N m, decodeL_N l]
  rcases decodeN_shape l.length (l.getD 0 0).toNat (l.getD 1 0).toNat (l.getD 2 0).toNat (l.getD 3 0).toNat with ⟨c, e⟩ | ⟨c1, c2, c3, cv, e⟩ | ⟨c1, c2, c3, c4, cv, cs, e⟩ | ⟨c1, c2, c3, c4, c5, cv, cw, e⟩ | e
  · rw [e] at hv hk he ⊢
    dsimp only at hv hk he
    rw [he 0 (by omega), decodeN_ascii _ _ _ _ _ c]
  · rw [e] at hv hk he ⊢
    dsimp only at hv hk he
    rw [he 0 (by omega), he 1 (by omega)]
    unfold decodeN
    rw [if_neg (by omega), if_pos ⟨c1, by omega, c3⟩, if_pos (by omega)]
  · rw [e] at hv hk he ⊢
    dsimp only at hv hk he
    rw [he 0 (by omega), he 1 (by omega), he 2 (by omega)]
    unfold decodeN
    rw [if_neg (by omega), if_neg (by omega), if_pos ⟨c1, ⟨by omega, c3⟩, by omega, c4⟩, if_pos ⟨by omega, by omega⟩]
  · rw [e] at hv hk he ⊢
    dsimp only at hv hk he
    rw [he 0 (by omega), he 1 (by omega), he 2 (by omega), he 3 (by omega)]
    unfold decodeN
    rw [if_neg (by omega), if_neg (by omega), if_neg (by omega), if_pos ⟨c1, ⟨by omega, c3⟩, ⟨by omega, c4⟩, by omega, c5⟩, if_pos ⟨by omega, by omega⟩]
  · rw [e] at hv
    exact absurd ⟨rfl, rfl⟩ hv

/-- Behind the first byte of one code point no byte is ASCII. -/
theorem dec_cont (l : List UInt8) (i : Nat) (hi : 1 ≤ i) (hk : i < (decodeL l).2) : 128 ≤ (l.getD i 0).toNat := by
  rw [decodeL_N] at hk
  rcases decodeN_shape l.length (l.getD 0 0).toNat (l.getD 1 0).toNat (l.getD 2 0).toNat (l.getD 3 0).toNat with ⟨c, e⟩ | ⟨c1, c2, c3, cv, e⟩ | ⟨c1, c2, c3, c4, cv, cs, e⟩ | ⟨c1, c2, c3, c4, c5, cv, cw, e⟩ | e
  · rw [e] at hk; dsimp only at hk; omega
  · rw [e] at hk; dsimp only at hk
    obtain rfl : i = 1 := by omega
    omega
  · rw [e] at hk; dsimp only at hk
    rcases (show i = 1 ∨ i = 2 by omega) with rfl | rfl <;> omega
  · rw [e] at hk; dsimp only at hk
    rcases (show i = 1 ∨ i = 2 ∨ i = 3 by omega) with rfl | rfl | rfl <;> omega
  · rw [e] at hk; dsimp only at hk; omega

theorem getD_take_app (l : List UInt8) (k : Nat) (t : List UInt8) (hk : k ≤ l.length) (i : Nat) (hi : i < k) : (l.take k ++ t).getD i 0 = l.getD i 0 := by
  simp only [List.getD_eq_getElem?_getD]
  rw [List.getElem?_append_left (by rw [List.length_take]; omega), List.getElem?_take, if_pos hi]

theorem good_take (l : List UInt8) (hne : l ≠ []) (hv : ¬ ((decodeL l).1 = 65533 ∧ (decodeL l).2 = 1)) : good ((decodeL l).1, l.take (decodeL l).2) := by
  have hle := decodeL_le l hne
  have hw := decodeL_width l
  have hlen : (l.take (decodeL l).2).length = (decodeL l).2 := by rw [List.length_take]; omega
  refine ⟨by rw [hlen]; exact hw, by rw [hlen]; exact hv, fun t => ?_⟩
  rw [hlen]
  exact dec_pre l _ hne hv (by rw [List.length_append, hlen]; omega) (fun i hi => getD_take_app l _ t hle i hi)

/-- An ASCII byte is a code point. -/
theorem good_ascii (b : UInt8) (h : b.toNat < 128) : good (b.toNat, [b]) := by
  refine ⟨by simp, ?_, fun t => ?_⟩
  · rintro ⟨h1, _⟩
    have h2 : b.toNat = 65533 := h1
    omega
  · exact decodeL_ascii b t h

/-- A text that is UTF-8 is a row of code points. -/
theorem valid_split : ∀ (n : Nat) (l : List UInt8), l.length ≤ n → validD l = true → ∃ cs, Good cs ∧ l = fl cs
  | 0, l, hn, _ => ⟨[], Good.nil, List.eq_nil_of_length_eq_zero (by omega)⟩
  | n + 1, l, hn, hv => by
    by_cases hne : l = []
    · exact ⟨[], Good.nil, hne⟩
    · rw [validD_step l hne] at hv
      have hw := decodeL_width l
      split at hv
      · cases hv
      · rename_i hb
        obtain ⟨cs, hg, hcs⟩ := valid_split n (l.drop (decodeL l).2) (by rw [List.length_drop]; omega) hv
        refine ⟨((decodeL l).1, l.take (decodeL l).2) :: cs, Good.cons (good_take l hne hb) hg, ?_⟩
        rw [fl_cons, ← hcs, List.take_append_drop]

theorem good_valid : ∀ cs, Good cs → validD (fl cs) = true
  | [], _ => rfl
  | x :: t, h => by
    have hx := h.head
    have hne : x.2 ++ fl t ≠ [] := by
      intro e
      have := congrArg List.length e
      rw [List.length_append, List.length_nil] at this
      have := hx.1
      omega
    rw [fl_cons, validD_step _ hne, hx.2.2, if_neg hx.2.1, List.drop_left]
    exact good_valid t h.tail

/-- One ASCII byte cuts a text in two. -/
theorem valid_cut (c : UInt8) (hc : c.toNat < 128) (b : List UInt8) : ∀ (n : Nat) (a : List UInt8), a.length ≤ n → validD (a ++ c :: b) = (validD a && validD b)
  | 0, a, hn => by
    have : a = [] := List.eq_nil_of_length_eq_zero (by omega)
    subst this
    rw [List.nil_append, validD_cons c b hc, validD_nil, Bool.true_and]
  | n + 1, a, hn => by
    by_cases hne : a = []
    · subst hne
      rw [List.nil_append, validD_cons c b hc, validD_nil, Bool.true_and]
    · have hne' : a ++ c :: b ≠ [] := by simp
      have hla : 0 < a.length := List.length_pos_iff.2 hne
      by_cases hbad : (decodeL a).1 = 65533 ∧ (decodeL a).2 = 1
      · rw [validD_step a hne, if_pos hbad, Bool.false_and, validD_step _ hne']
        by_cases hb2 : (decodeL (a ++ c :: b)).1 = 65533 ∧ (decodeL (a ++ c :: b)).2 = 1
        · rw [if_pos hb2]
        · exfalso
          by_cases hk : (decodeL (a ++ c :: b)).2 ≤ a.length
          · have he := dec_pre (a ++ c :: b) a hne' hb2 hk (fun i hi => by
              simp only [List.getD_eq_getElem?_getD]
              rw [List.getElem?_append_left (by omega)])
            rw [← he] at hb2
            exact hb2 hbad
          · have h1 := dec_cont (a ++ c :: b) a.length hla (by omega)
            simp only [List.getD_eq_getElem?_getD] at h1
            rw [List.getElem?_append_right (Nat.le_refl _), Nat.sub_self] at h1
            simp at h1
            omega
      · have hle := decodeL_le a hne
        have hw := decodeL_width a
        have he := dec_pre a (a ++ c :: b) hne hbad (by rw [List.length_append]; omega) (fun i hi => by
          simp only [List.getD_eq_getElem?_getD]
          rw [List.getElem?_append_left (by omega)])
        rw [validD_step a hne, if_neg hbad, validD_step _ hne', he, if_neg hbad, List.drop_append_of_le_length hle]
        exact valid_cut c hc b n (a.drop (decodeL a).2) (by rw [List.length_drop]; omega)

theorem fl_len_pos {x : R} (h : good x) : 1 ≤ x.2.length := h.1
theorem fl_length_ge : ∀ cs, Good cs → cs.length ≤ (fl cs).length
  | [], _ => by simp [fl]
  | x :: t, h => by
    have := fl_length_ge t h.tail
    have := h.head.1
    rw [fl_cons, List.length_append, List.length_cons]; omega

/-- A text of ASCII bytes as code points. -/
def asc (l : List UInt8) : List R := l.map fun b => (b.toNat, [b])
theorem fl_asc : ∀ l, fl (asc l) = l
  | [] => rfl
  | b :: t => by
    have := fl_asc t
    rw [asc, List.map_cons, fl_cons]
    show [b] ++ fl (asc t) = _
    rw [this]; rfl
theorem good_asc (l : List UInt8) (h : ∀ b ∈ l, b.toNat < 128) : Good (asc l) := by
  intro x hx
  obtain ⟨b, hb, rfl⟩ := List.mem_map.1 hx
  exact good_ascii b (h b hb)
end Go.Proofs.YtebpapmnkbehnaaDoor
