/- How long the texts of policies and rules are, and that the library's join is the texts' own; policies that are well formed, numbers of 16 bits. -/
import Derived.Test.YtebpapmnkbehnaaDoorT0
import Derived.Test.YtebpapmnkbehnaaDoorM2
import Derived.Lib.Join
set_option linter.unusedVariables false
set_option linter.unusedSimpArgs false
namespace Go.Proofs.YtebpapmnkbehnaaDoor
open Go.Lib

theorem join_S (sep : List UInt8) : ∀ xs : List (List UInt8), Lib.join xs sep = joinS sep xs
  | [] => by simp [Lib.join, joinS, List.intercalate]
  | [a] => by simp [Lib.join, joinS, List.intercalate]
  | a :: b :: r => by
    have ih := join_S sep (b :: r)
    unfold Lib.join List.intercalate at ih ⊢
    rw [List.intersperse_cons_cons, List.flatten_cons, List.flatten_cons, ih]
    simp [joinS]
theorem flat_le (sep : List UInt8) (q : Nat) : ∀ xs : List (List UInt8), (∀ x ∈ xs, x.length ≤ q) → (xs.flatMap fun b => sep ++ b).length ≤ xs.length * (sep.length + q)
  | [], _ => by simp
  | a :: r, h => by
    have ih := flat_le sep q r fun x hx => h x (List.mem_cons_of_mem _ hx)
    have := h a (List.mem_cons_self ..)
    rw [List.flatMap_cons, List.length_append, List.length_append, List.length_cons, Nat.add_mul]
    omega
theorem joinS_le (sep : List UInt8) (q : Nat) (xs : List (List UInt8)) (h : ∀ x ∈ xs, x.length ≤ q) : (joinS sep xs).length ≤ xs.length * (sep.length + q) := by
  cases xs with
  | nil => simp [joinS]
  | cons a r =>
    have h1 := flat_le sep q r fun x hx => h x (List.mem_cons_of_mem _ hx)
    have := h a (List.mem_cons_self ..)
    unfold joinS
    rw [List.length_append, List.length_cons, Nat.add_mul]
    omega
theorem nmB_len (f : Int) : (nmB f).length ≤ 3 := by
  unfold nmB
  generalize f.toNat = k
  match k with
  | 0 => decide
  | 1 => decide
  | 2 => decide
  | 3 => decide
  | 4 => decide
  | 5 => decide
  | 6 => decide
  | 7 => decide
  | k + 8 => simp [nm8]
theorem whenT_len (c : Pr) (hn : c.2 ≤ 65535) : (whenT c).length ≤ 20 := by
  have := nmB_len c.1
  have := digits_len5 c.2 hn
  unfold whenT
  simp only [List.length_append, List.length_cons]
  omega
theorem guardT_len (c : Pr) (h : c.1.toNat ≤ 65535) (hn : c.2 ≤ 65535) : (guardT c).length ≤ 20 := by
  have := digits_len5 c.1.toNat h
  have := digits_len5 c.2 hn
  unfold guardT
  simp only [List.length_append, List.length_cons]
  omega
theorem thenT_len (c : Pr) (h : c.1.toNat ≤ 65535) (hn : c.2 ≤ 65535) : (thenT c).length ≤ 20 := by
  have := digits_len5 c.1.toNat h
  have := digits_len5 c.2 hn
  unfold thenT
  simp only [List.length_append, List.length_cons]
  omega
theorem sepB_len (op : Int) : (sepB op).length = 3 := by unfold sepB; split <;> rfl
theorem wrapB_le (b : Bool) (s : List UInt8) : (wrapB b s).length ≤ s.length + 2 := by
  cases b <;> simp [wrapB]
theorem pre_le : ∀ (kids : List Pl) (op : Int) (c : Nat), (∀ k ∈ kids, (textP k).length + 6 ≤ 16 * sizeP k) → (joinS (sepB op) (textP.partsT op kids)).length ≤ 16 * sizeP.sizeL kids
  | [], op, c, _ => by simp [textP.partsT, joinS]
  | k :: r, op, c, h => by
    have hr : ∀ r : List Pl, (∀ k ∈ r, (textP k).length + 6 ≤ 16 * sizeP k) → ((textP.partsT op r).flatMap fun b => sepB op ++ b).length ≤ 16 * sizeP.sizeL r := by
      intro r
      induction r with
      | nil => intro _; simp [textP.partsT]
      | cons a t ih =>
        intro h
        have h1 := h a (List.mem_cons_self ..)
        have h2 := wrapB_le (opW op a) (textP a)
        have h3 := ih fun x hx => h x (List.mem_cons_of_mem _ hx)
        rw [textP.partsT, sizeP.sizeL, List.flatMap_cons, List.length_append, List.length_append, sepB_len]
        omega
    have h1 := h k (List.mem_cons_self ..)
    have h2 := wrapB_le (opW op k) (textP k)
    have h3 := hr r fun x hx => h x (List.mem_cons_of_mem _ hx)
    rw [textP.partsT, sizeP.sizeL]
    unfold joinS
    rw [List.length_append]
    omega
theorem textP_len (parts : Int) (hp : parts ≤ 9) : ∀ (m : Nat) (p : Pl), sizeP p ≤ m → formP parts p = true → okN p → (textP p).length + 6 ≤ 16 * sizeP p
  | 0, p, hs, _, _ => absurd (size_pos p) (by omega)
  | m + 1, .mk op f n kids, hs, hf, hn => by
    rw [formP, Bool.and_eq_true] at hf
    rw [okN] at hn
    rw [sizeP_mk] at hs ⊢
    have hkid : ∀ k ∈ kids, (textP k).length + 6 ≤ 16 * sizeP k := fun k hk => by
      obtain ⟨i, hi, rfl⟩ := List.getElem_of_mem hk
      exact textP_len parts hp m kids[i] (by have := size_get kids i hi; omega) (form_get parts kids hf.2 i hi) (okN_get kids hn.2 i hi)
    have hj := pre_le kids op 0 hkid
    have hnn : n.toNat ≤ 65535 := by have := hn.1; omega
    have hd := digits_len5 n.toNat hnn
    have hm := nmB_len f
    rw [textP_mk]
    by_cases h0 : op = 0
    · rw [if_pos h0]; simp; omega
    rw [if_neg h0]
    by_cases h1 : op = 1
    · rw [if_pos h1]; simp; omega
    rw [if_neg h1]
    by_cases h2 : op = 2
    · rw [if_pos h2]; simp only [List.length_append, List.length_cons]; omega
    rw [if_neg h2]
    by_cases h3 : op = 3
    · rw [if_pos h3]
      subst h3
      have hb : nodeB parts 3 f n kids = (decide (kids.length = 0) && (decide (0 ≤ f) && decide (f < parts))) := by unfold nodeB; simp
      rw [hb] at hf
      simp only [Bool.and_eq_true, decide_eq_true_eq] at hf
      have h9 : f.toNat < 10 := by omega
      have hd1 : (decDigits f.toNat).length ≤ 1 := by
        generalize f.toNat = k at h9
        match k, h9 with
        | 0, _ => decide +kernel
        | 1, _ => decide +kernel
        | 2, _ => decide +kernel
        | 3, _ => decide +kernel
        | 4, _ => decide +kernel
        | 5, _ => decide +kernel
        | 6, _ => decide +kernel
        | 7, _ => decide +kernel
        | 8, _ => decide +kernel
        | 9, _ => decide +kernel
      simp only [List.length_append, List.length_cons]; omega
    rw [if_neg h3]
    by_cases h5 : op = 5
    · rw [if_pos h5]; simp only [List.length_append, List.length_cons]; omega
    rw [if_neg h5]
    by_cases h4 : op = 4
    · rw [if_pos h4]
      subst h4
      have hb : nodeB parts 4 f n kids = (decide (kids.length = 1) && (decide (f = 0) && decide (n = 0)) && pred0 kids) := by unfold nodeB; simp
      rw [hb] at hf
      simp only [Bool.and_eq_true, decide_eq_true_eq] at hf
      obtain ⟨k, rfl⟩ := List.length_eq_one_iff.1 hf.1.1.1
      have e1 : joinS [] (textP.partsT 4 [k]) = wrapB (opW 4 k) (textP k) := by simp [textP.partsT, joinS]
      have := hkid k (by simp)
      have := wrapB_le (opW 4 k) (textP k)
      rw [e1]
      simp only [List.length_cons, sizeP.sizeL]; omega
    rw [if_neg h4]
    omega
end Go.Proofs.YtebpapmnkbehnaaDoor
