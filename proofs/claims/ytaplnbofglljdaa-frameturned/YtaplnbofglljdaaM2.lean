/- Frames and their bytes: bytes of a frame are one's, and are read as it; what is read of a frame's bytes has just these bytes; a frame's bytes with one turned, cut or with more are no frame's; nothing of the program is in this text; numbers are of sixteen bits, digests of sixty-four. -/
import Derived.Test.YtaplnbofglljdaaM1
set_option linter.unusedVariables false
set_option linter.unusedSimpArgs false
namespace Go.Proofs.Ytaplnbofglljdaa

theorem kindB_inj {s t : Bool} (h : kindB s = kindB t) : s = t := by cases s <;> cases t <;> simp_all [kindB]
theorem shape_mk (t : Bool) (r : List UInt8) (h : r.length = bodyLen t) : shapeB (78 :: kindB t :: r) = true := by
  cases t <;> simp_all [shapeB, kindB, bodyLen]
theorem shape_of {l : List UInt8} (h : shapeB l = true) : ∃ t r, l = 78 :: kindB t :: r ∧ r.length = bodyLen t := by
  unfold shapeB at h
  split at h
  · split at h
    · rename_i k r hk; subst hk; exact ⟨false, r, rfl, by simpa [bodyLen] using h⟩
    · split at h
      · rename_i k r _ hk; subst hk; exact ⟨true, r, rfl, by simpa [bodyLen] using h⟩
      · cases h
  · cases h
theorem isF_shape {l : List UInt8} (h : isF l = true) : shapeB l = true := by simp only [isF, Bool.and_eq_true] at h; exact h.1
theorem isF_num {l : List UInt8} (h : isF l = true) : num (l.drop (l.length - 2)) = chk (l.take (l.length - 2)) := by simp only [isF, Bool.and_eq_true, decide_eq_true_eq] at h; exact h.2
theorem tgOf_shape (t : Bool) (r : List UInt8) (h : r.length = bodyLen t) : tgOf (78 :: kindB t :: r) = t := by
  cases t <;> simp_all [tgOf, bodyLen]
theorem len_of {l : List UInt8} (h : shapeB l = true) : l.length = bodyLen (tgOf l) + 2 := by
  obtain ⟨t, r, rfl, hr⟩ := shape_of h
  rw [tgOf_shape t r hr]; simp [hr]
theorem len_16_26 {l : List UInt8} (h : shapeB l = true) : (tgOf l = false ∧ l.length = 16) ∨ (tgOf l = true ∧ l.length = 26) := by
  have := len_of h
  cases ht : tgOf l <;> rw [ht] at this <;> simp_all [bodyLen]

theorem two_cons2 (x y : UInt8) (X : List UInt8) (i : Nat) : two (x :: y :: X) (i + 2) = two X i := rfl
theorem two_here (n : Nat) (X : List UInt8) (h : n < 65536) : two (be 2 n ++ X) 0 = n := by
  unfold two
  rw [List.drop_zero, List.take_left' (by rw [be_length]), num_be]
  exact Nat.mod_eq_of_lt h
theorem two_past (n : Nat) (X : List UInt8) (i : Nat) : two (be 2 n ++ X) (i + 2) = two X i := by
  unfold two
  rw [Nat.add_comm, ← List.drop_drop, List.drop_left' (by rw [be_length])]
theorem eight_here (n : Nat) (X : List UInt8) (h : n < 18446744073709551616) : num ((be 8 n ++ X).take 8) = n := by
  rw [List.take_left' (by rw [be_length]), num_be]
  exact Nat.mod_eq_of_lt h
theorem drop_past (n : Nat) (X : List UInt8) (i : Nat) : (be 2 n ++ X).drop (i + 2) = X.drop i := by
  rw [Nat.add_comm, ← List.drop_drop, List.drop_left' (by rw [be_length])]

theorem enc_form (f : Fr) : encOf f = 78 :: kindB f.tg :: (be 2 f.a2 ++ (be 2 f.a3 ++ (be 2 f.a4 ++ (be 2 f.a5 ++ (be 2 f.a6 ++ (be 2 f.a7 ++ ((if f.tg then be 2 f.tag ++ be 8 f.dg else []) ++ be 2 (chk (bodyOf f))))))))) := by
  unfold encOf
  generalize chk (bodyOf f) = c
  unfold bodyOf
  simp only [List.cons_append, List.append_assoc]
theorem shape_enc (f : Fr) : shapeB (encOf f) = true := by
  rw [enc_form]
  apply shape_mk
  cases f.tg <;> simp [be_length, bodyLen]
theorem tgOf_enc (f : Fr) : tgOf (encOf f) = f.tg := by
  unfold tgOf; rw [encOf_length]; cases f.tg <;> simp [bodyLen]
theorem isF_enc (f : Fr) : isF (encOf f) = true := by
  unfold isF
  rw [shape_enc]
  simp only [Bool.true_and, decide_eq_true_eq]
  have hl := encOf_length f
  have hb := bodyOf_length f
  rw [hl, Nat.add_sub_cancel]
  unfold encOf
  rw [List.drop_left' hb, List.take_left' hb, num_be]
  exact Nat.mod_eq_of_lt (by have := chk_lt (bodyOf f); omega)
theorem rd_enc (f : Fr) (h : f.ok) : rdOf f.tg (encOf f) = cleanOf f := by
  rw [enc_form]
  obtain ⟨a0, a1, a2, a3, a4, a5, a6, a7, tg, tag, dg⟩ := f
  obtain ⟨h0, h1, h2, h3, h4, h5, h6, h7, ht, hd⟩ := h
  simp only at h2 h3 h4 h5 h6 h7 ht hd
  unfold rdOf cleanOf
  simp only []
  have e2 : ∀ X : List UInt8, two (78 :: kindB tg :: X) 2 = two X 0 := fun X => two_cons2 _ _ X 0
  have e4 : ∀ X : List UInt8, two (78 :: kindB tg :: X) 4 = two X 2 := fun X => two_cons2 _ _ X 2
  have e6 : ∀ X : List UInt8, two (78 :: kindB tg :: X) 6 = two X 4 := fun X => two_cons2 _ _ X 4
  have e8 : ∀ X : List UInt8, two (78 :: kindB tg :: X) 8 = two X 6 := fun X => two_cons2 _ _ X 6
  have e10 : ∀ X : List UInt8, two (78 :: kindB tg :: X) 10 = two X 8 := fun X => two_cons2 _ _ X 8
  have e12 : ∀ X : List UInt8, two (78 :: kindB tg :: X) 12 = two X 10 := fun X => two_cons2 _ _ X 10
  have e14 : ∀ X : List UInt8, two (78 :: kindB tg :: X) 14 = two X 12 := fun X => two_cons2 _ _ X 12
  have d16 : ∀ X : List UInt8, (78 :: kindB tg :: X).drop 16 = X.drop 14 := fun X => rfl
  have p2 : ∀ n X, two (be 2 n ++ X) 2 = two X 0 := fun n X => two_past n X 0
  have p4 : ∀ n X, two (be 2 n ++ X) 4 = two X 2 := fun n X => two_past n X 2
  have p6 : ∀ n X, two (be 2 n ++ X) 6 = two X 4 := fun n X => two_past n X 4
  have p8 : ∀ n X, two (be 2 n ++ X) 8 = two X 6 := fun n X => two_past n X 6
  have p10 : ∀ n X, two (be 2 n ++ X) 10 = two X 8 := fun n X => two_past n X 8
  have p12 : ∀ n X, two (be 2 n ++ X) 12 = two X 10 := fun n X => two_past n X 10
  have q14 : ∀ n X, (be 2 n ++ X).drop 14 = X.drop 12 := fun n X => drop_past n X 12
  have q12 : ∀ n X, (be 2 n ++ X).drop 12 = X.drop 10 := fun n X => drop_past n X 10
  have q10 : ∀ n X, (be 2 n ++ X).drop 10 = X.drop 8 := fun n X => drop_past n X 8
  have q8 : ∀ n X, (be 2 n ++ X).drop 8 = X.drop 6 := fun n X => drop_past n X 6
  have q6 : ∀ n X, (be 2 n ++ X).drop 6 = X.drop 4 := fun n X => drop_past n X 4
  have q4 : ∀ n X, (be 2 n ++ X).drop 4 = X.drop 2 := fun n X => drop_past n X 2
  have q2 : ∀ n X, (be 2 n ++ X).drop 2 = X := fun n X => drop_past n X 0
  cases tg
  · simp only [e2, e4, e6, e8, e10, e12, p2, p4, p6, p8, p10, two_here _ _ h2, two_here _ _ h3, two_here _ _ h4, two_here _ _ h5, two_here _ _ h6, two_here _ _ h7, Bool.false_eq_true, if_false]
  · simp only [e2, e4, e6, e8, e10, e12, e14, p2, p4, p6, p8, p10, p12, two_here _ _ h2, two_here _ _ h3, two_here _ _ h4, two_here _ _ h5, two_here _ _ h6, two_here _ _ h7, if_true, List.append_assoc, two_here _ _ ht, d16, q14, q12, q10, q8, q6, q4, q2, eight_here _ _ hd]

theorem two_lt (l : List UInt8) (i : Nat) : two l i < 65536 := by
  have h := num_lt ((l.drop i).take 2)
  have : ((l.drop i).take 2).length ≤ 2 := List.length_take_le _ _
  have h2 : 256 ^ ((l.drop i).take 2).length ≤ 256 ^ 2 := Nat.pow_le_pow_right (by decide) this
  unfold two; omega
theorem num8_lt (l : List UInt8) : num (l.take 8) < 18446744073709551616 := by
  have h := num_lt (l.take 8)
  have : (l.take 8).length ≤ 8 := List.length_take_le _ _
  have h2 : 256 ^ (l.take 8).length ≤ 256 ^ 8 := Nat.pow_le_pow_right (by decide) this
  omega
theorem rd_ok (t : Bool) (l : List UInt8) : (rdOf t l).ok := by
  refine ⟨show (0 : Nat) < 65536 by decide, show (0 : Nat) < 65536 by decide, two_lt _ _, two_lt _ _, two_lt _ _, two_lt _ _, two_lt _ _, two_lt _ _, ?_, ?_⟩
  · show (if t then two l 14 else 0) < 65536
    split
    · exact two_lt _ _
    · decide
  · show (if t then num ((l.drop 16).take 8) else 0) < 18446744073709551616
    split
    · exact num8_lt _
    · decide
theorem be_two (l : List UInt8) (i : Nat) (h : i + 2 ≤ l.length) : be 2 (two l i) = (l.drop i).take 2 := by
  apply be_num; simp; omega
theorem take_join (l : List UInt8) (i n : Nat) : (l.drop i).take 2 ++ (l.drop (i + 2)).take n = (l.drop i).take (2 + n) := by
  rw [List.take_add, List.drop_drop]
theorem body_rd (l : List UInt8) (h : shapeB l = true) : bodyOf (rdOf (tgOf l) l) = l.take (l.length - 2) := by
  have hl := len_of h
  obtain ⟨t, r, rfl, hr⟩ := shape_of h
  rw [tgOf_shape t r hr]
  rw [tgOf_shape t r hr] at hl
  rw [hl, Nat.add_sub_cancel]
  generalize hL : (78 :: kindB t :: r : List UInt8) = L at *
  have hk : L.take 2 = [78, kindB t] := by rw [← hL]; rfl
  unfold bodyOf rdOf
  simp only
  cases t
  · have hl' : L.length = 16 := hl
    rw [be_two _ _ (by omega), be_two _ _ (by omega), be_two _ _ (by omega), be_two _ _ (by omega), be_two _ _ (by omega), be_two _ _ (by omega)]
    simp only [Bool.false_eq_true, if_false, List.append_nil]
    rw [take_join L 10 2, take_join L 8 4, take_join L 6 6, take_join L 4 8, take_join L 2 10]
    show [78, kindB false] ++ _ = L.take 14
    rw [← hk, ← List.take_add]
  · have hl' : L.length = 26 := hl
    rw [be_two _ _ (by omega), be_two _ _ (by omega), be_two _ _ (by omega), be_two _ _ (by omega), be_two _ _ (by omega), be_two _ _ (by omega)]
    simp only [if_true]
    rw [be_two _ _ (by omega), be_num ((L.drop 16).take 8) 8 (by simp; omega)]
    rw [take_join L 14 8, take_join L 12 10, take_join L 10 12, take_join L 8 14, take_join L 6 16, take_join L 4 18, take_join L 2 20]
    show [78, kindB true] ++ _ = L.take 24
    rw [← hk, ← List.take_add]
theorem enc_rd (l : List UInt8) (h : isF l = true) : encOf (rdOf (tgOf l) l) = l := by
  unfold encOf
  rw [body_rd l (isF_shape h), ← isF_num h]
  have hl := len_of (isF_shape h)
  rw [be_num _ 2 (by simp; omega), List.take_append_drop]
/-- Bytes of the right length are a frame's just if what is read of them has these bytes. -/
theorem enc_rd_iff (l : List UInt8) : (encOf (rdOf (tgOf l) l) = l) ↔ isF l = true := by
  constructor
  · intro h; rw [← h]; exact isF_enc _
  · exact enc_rd l

/-- Two lists that are frames' and have the same second byte are of one length. -/
theorem isF_len {l m : List UInt8} (hl : isF l = true) (hm : isF m = true) (h : l[1]? = m[1]?) : l.length = m.length := by
  obtain ⟨t, r, rfl, hr⟩ := shape_of (isF_shape hl)
  obtain ⟨s, q, rfl, hq⟩ := shape_of (isF_shape hm)
  have : kindB t = kindB s := by simpa using h
  have := kindB_inj this
  subst this
  simp [hr, hq]
theorem isF_ge {l : List UInt8} (h : isF l = true) : 16 ≤ l.length := by
  rcases len_16_26 (isF_shape h) with ⟨_, h⟩ | ⟨_, h⟩ <;> omega
theorem isF_le {l : List UInt8} (h : isF l = true) : l.length ≤ 26 := by
  rcases len_16_26 (isF_shape h) with ⟨_, h⟩ | ⟨_, h⟩ <;> omega
theorem cut_no {l : List UInt8} (h : isF l = true) (i : Nat) (hi : i < l.length) : isF (l.take i) = false := by
  cases hc : isF (l.take i)
  · rfl
  · have h16 := isF_ge hc
    have hlen : (l.take i).length = i := by simp; omega
    have := isF_len hc h (by rw [List.getElem?_take_of_lt (by omega)])
    omega
theorem more_no {l : List UInt8} (h : isF l = true) (x : UInt8) : isF (l ++ [x]) = false := by
  cases hc : isF (l ++ [x])
  · rfl
  · have h16 := isF_ge h
    have := isF_len hc h (by rw [List.getElem?_append_left (by omega)])
    simp at this
theorem chk_apart (a b p x y : Nat) (hx : x < 256) (hy : y < 256) (hp : p < 200) (h0 : 0 < p) (hne : x ≠ y) (e : a + p * x = b + p * y) : a % 65521 ≠ b % 65521 := by
  intro h
  rcases Nat.lt_or_gt_of_ne hne with hlt | hlt
  · obtain ⟨d, rfl⟩ : ∃ d, y = x + d := ⟨y - x, by omega⟩
    rw [Nat.mul_add] at e
    have h1 : 1 * 1 ≤ p * d := Nat.mul_le_mul (by omega) (by omega)
    have h2 : p * d ≤ 199 * 255 := Nat.mul_le_mul (by omega) (by omega)
    generalize p * d = z at *
    generalize p * x = u at *
    omega
  · obtain ⟨d, rfl⟩ : ∃ d, x = y + d := ⟨x - y, by omega⟩
    rw [Nat.mul_add] at e
    have h1 : 1 * 1 ≤ p * d := Nat.mul_le_mul (by omega) (by omega)
    have h2 : p * d ≤ 199 * 255 := Nat.mul_le_mul (by omega) (by omega)
    generalize p * d = z at *
    generalize p * y = u at *
    omega
theorem turned_no {l : List UInt8} (h : isF l = true) (i : Nat) (hi : i < l.length) (x : UInt8) (hx : x ≠ l[i]) : isF (l.set i x) = false := by
  cases hc : isF (l.set i x)
  · rfl
  · exfalso
    have h26 := isF_le h
    have h16 := isF_ge h
    have hlen : (l.set i x).length = l.length := by simp
    have hn := isF_num h
    have hm := isF_num hc
    rw [hlen] at hm
    by_cases h0 : i = 0
    · subst h0
      obtain ⟨t, r, rfl, hr⟩ := shape_of (isF_shape h)
      obtain ⟨s, q, hq, _⟩ := shape_of (isF_shape hc)
      simp only [List.set_cons_zero, List.cons.injEq] at hq
      exact hx (by simpa using hq.1)
    by_cases h1 : i = 1
    · subst h1
      have hln := len_of (isF_shape h)
      have hlm := len_of (isF_shape hc)
      obtain ⟨t, r, rfl, hr⟩ := shape_of (isF_shape h)
      obtain ⟨s, q, hq, hq2⟩ := shape_of (isF_shape hc)
      have : x = kindB s := by simp only [List.set_cons_succ, List.set_cons_zero, List.cons.injEq] at hq; exact hq.2.1
      have hrq : r = q := by simp only [List.set_cons_succ, List.set_cons_zero, List.cons.injEq] at hq; exact hq.2.2
      subst hrq
      have hst : s = t := by
        rw [hr] at hq2
        cases s <;> cases t <;> simp_all [bodyLen]
      subst hst
      exact hx (by simpa using this)
    by_cases he : i < l.length - 2
    · rw [List.drop_set_of_lt he, List.take_set, hn] at hm
      have hlt : i < (l.take (l.length - 2)).length := by simp; omega
      have hw := ws_set (l.take (l.length - 2)) 0 i x hlt
      rw [List.getElem_take] at hw
      refine chk_apart _ _ (0 + i + 1) _ _ l[i].toNat_lt x.toNat_lt (by omega) (by omega) ?_ hw ?_
      · intro hh; exact hx (UInt8.toNat_inj.1 hh).symm
      · exact hm.symm
    · have ht : (l.take (l.length - 2)).set i x = l.take (l.length - 2) := List.set_eq_of_length_le (by simp; omega)
      rw [List.take_set, ht, ← hn] at hm
      have := num_inj _ _ (by simp) hm
      have h3 : (l.set i x)[i]? = l[i]? := by
        have e1 : ((l.set i x).drop (l.length - 2))[i - (l.length - 2)]? = (l.drop (l.length - 2))[i - (l.length - 2)]? := by rw [this]
        rw [List.getElem?_drop, List.getElem?_drop, show l.length - 2 + (i - (l.length - 2)) = i by omega] at e1
        exact e1
      rw [List.getElem?_set_self hi, List.getElem?_eq_getElem hi] at h3
      injection h3 with h3
      exact hx h3
end Go.Proofs.Ytaplnbofglljdaa
