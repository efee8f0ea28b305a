/- The text of a set and how it is read, as lists of bytes: what is read of a set's text is that set, and what is read as a set is its text; no program, no conditions. -/
import Derived.Test.YtklamncepgejeaaDoorM1
import Derived.Lib.IndexMore
import Derived.Lib.ItoaNum
import Derived.Lib.AtoiAllCases
import Derived.Lib.Strings
set_option linter.unusedVariables false
set_option linter.unusedSimpArgs false
namespace Go.Proofs.YtklamncepgejeaaDoor
open Go

theorem cut_nil (c : UInt8) : Lib.cut [] [c] = ([], [], false) := by
  simp [Lib.cut, Lib.index]
theorem index_cons_eq (c : UInt8) (r : List UInt8) : Lib.index (c :: r) [c] = 0 := by
  simp [Lib.index]
theorem index_cons_ne (c x : UInt8) (r : List UInt8) (h : x ≠ c) : Lib.index (x :: r) [c] = if Lib.index r [c] == -1 then -1 else Lib.index r [c] + 1 := by
  have : ([c].isPrefixOf (x :: r)) = false := by simp [List.isPrefixOf]; exact fun e => h e.symm
  simp [Lib.index, this]
theorem index_found (c : UInt8) : ∀ l, c ∉ l → Lib.index l [c] = -1
  | [], _ => by simp [Lib.index]
  | x :: r, h => by
    have hx : x ≠ c := fun e => h (by rw [e]; exact List.mem_cons_self ..)
    have hr : c ∉ r := fun e => h (List.mem_cons_of_mem _ e)
    rw [index_cons_ne c x r hx, index_found c r hr]; rfl
theorem index_at (c : UInt8) : ∀ a b, c ∉ a → Lib.index (a ++ c :: b) [c] = a.length
  | [], b, _ => by simp [index_cons_eq]
  | x :: r, b, h => by
    have hx : x ≠ c := fun e => h (by rw [e]; exact List.mem_cons_self ..)
    have hr : c ∉ r := fun e => h (List.mem_cons_of_mem _ e)
    rw [List.cons_append, index_cons_ne c x _ hx, index_at c r b hr]
    have : ((r.length : Int) == -1) = false := by simp
    rw [this]; simp
theorem cut_none (c : UInt8) (l : List UInt8) (h : c ∉ l) : Lib.cut l [c] = (l, [], false) := by
  unfold Lib.cut; rw [index_found c l h]; simp
theorem cut_at (c : UInt8) (a b : List UInt8) (h : c ∉ a) : Lib.cut (a ++ c :: b) [c] = (a, b, true) := by
  unfold Lib.cut; rw [index_at c a b h, if_pos (by omega)]
  have e1 : (a.length : Int).toNat = a.length := by omega
  rw [e1]
  simp
theorem part (c : UInt8) : ∀ l : List UInt8, c ∉ l ∨ ∃ a b, l = a ++ c :: b ∧ c ∉ a
  | [] => .inl (by simp)
  | x :: r => by
    by_cases hx : x = c
    · subst hx; exact .inr ⟨[], r, rfl, by simp⟩
    · rcases part c r with h | ⟨a, b, rfl, h⟩
      · exact .inl (by simp; exact ⟨fun e => hx e.symm, h⟩)
      · exact .inr ⟨x :: a, b, rfl, by simp; exact ⟨fun e => hx e.symm, h⟩⟩


/-- An event's digits: of the 64 events. -/
def dig (e : Nat) : List UInt8 := if e < 10 then [UInt8.ofNat (48 + e)] else [UInt8.ofNat (48 + e / 10), UInt8.ofNat (48 + e % 10)]
theorem dec_small (n : Nat) (h : n < 10) : Lib.decDigits n = [UInt8.ofNat (48 + n)] := by rw [Lib.decDigits, dif_pos h]
theorem dig_dec (e : Nat) (h : e < 64) : Lib.decDigits e = dig e := by
  unfold dig
  split
  · rename_i h10; exact dec_small e h10
  · rename_i h10
    rw [Lib.decDigits, dif_neg h10, dec_small (e / 10) (by omega)]; rfl
theorem dig_itoa (e : Nat) (h : e < 64) : Lib.itoa (e : Int) = dig e := by
  unfold Lib.itoa
  rw [if_neg (by omega)]
  simpa using dig_dec e h
def isOk (x : Lib.NumEnd Int) (e : Int) : Bool := match x with | .ok v => v == e | _ => false
theorem isOk_eq (x : Lib.NumEnd Int) (e : Int) (h : isOk x e = true) : x = .ok e := by
  cases x
  · simp [isOk] at h; rw [h]
  · simp [isOk] at h
  · simp [isOk] at h
theorem dig_isOk : ∀ e < 64, isOk (Lib.atoiAll (dig e)) (e : Int) = true := by decide +kernel
theorem dig_atoi (e : Nat) (h : e < 64) : Lib.atoiAll (dig e) = .ok (e : Int) := isOk_eq _ _ (dig_isOk e h)
theorem dig_comma : ∀ e < 64, (44 : UInt8) ∉ dig e := by decide +kernel
theorem dig_len (e : Nat) : 1 ≤ (dig e).length ∧ (dig e).length ≤ 2 := by unfold dig; split <;> simp
theorem dig_inj : ∀ a < 64, ∀ b < 64, dig a = dig b → a = b := by decide +kernel
/-- The event whose digits these are. -/
def revent (d : List UInt8) : Option Nat := (List.range 64).find? fun e => dig e == d
theorem revent_some (d : List UInt8) (e : Nat) (h : revent d = some e) : e < 64 ∧ dig e = d := by
  have h1 := List.find?_some h
  have h2 := List.mem_of_find?_eq_some h
  exact ⟨List.mem_range.1 h2, by simpa using h1⟩
theorem revent_dig (e : Nat) (h : e < 64) : revent (dig e) = some e := by
  cases hr : revent (dig e) with
  | none =>
    have := (List.find?_eq_none.1 hr) e (List.mem_range.2 h)
    simp at this
  | some x =>
    obtain ⟨hx, hd⟩ := revent_some _ _ hr
    rw [dig_inj x hx e h hd]
theorem revent_none (d : List UInt8) (h : ∀ e < 64, dig e ≠ d) : revent d = none := by
  cases hr : revent d with
  | none => rfl
  | some x =>
    obtain ⟨hx, hd⟩ := revent_some _ _ hr
    exact absurd hd (h x hx)

/-- What stands behind the first event. -/
def tailB : List Nat → List UInt8
  | [] => []
  | y :: r => 44 :: (dig y ++ tailB r)
def joinD : List Nat → List UInt8
  | [] => []
  | x :: r => dig x ++ tailB r
theorem tailB_snoc (L : List Nat) (y : Nat) : tailB (L ++ [y]) = tailB L ++ 44 :: dig y := by
  induction L with
  | nil => simp [tailB]
  | cons x L ih => simp [tailB, ih]
theorem joinD_snoc (L : List Nat) (y : Nat) : joinD (L ++ [y]) = joinD L ++ ((if L = [] then [] else [44]) ++ dig y) := by
  cases L with
  | nil => simp [joinD, tailB]
  | cons x L => simp [joinD, tailB_snoc]
theorem joinD_take (L : List Nat) (k : Nat) (h : k < L.length) : joinD (L.take (k + 1)) = joinD (L.take k) ++ ((if k = 0 then [] else [44]) ++ dig L[k]) := by
  rw [List.take_succ_eq_append_getElem h, joinD_snoc]
  congr 2
  by_cases hk : k = 0
  · subst hk; simp
  · have : L.take k ≠ [] := by
      intro e
      have := congrArg List.length e
      rw [List.length_take, List.length_nil] at this; omega
    simp [this, hk]
theorem tailB_len (L : List Nat) : L.length ≤ (tailB L).length ∧ (tailB L).length ≤ 3 * L.length := by
  induction L with
  | nil => simp [tailB]
  | cons x L ih => have := dig_len x; simp [tailB]; omega
theorem joinD_len (L : List Nat) : L.length ≤ (joinD L).length ∧ (joinD L).length ≤ 3 * L.length := by
  cases L with
  | nil => simp [joinD]
  | cons x L => have := dig_len x; have := tailB_len L; simp [joinD]; omega
/-- A set's text. -/
def textOf (s : Nat) : List UInt8 := 123 :: (joinD (evs s) ++ [125])

/-- What Read makes of the rest between the braces: behind the event last, with those so far. -/
def rdE : Nat → List UInt8 → Int → Nat → Option Nat
  | 0, _, _, _ => none
  | n + 1, b, last, acc => match revent (Lib.cut b [44]).1 with
    | none => none
    | some e => if (e : Int) ≤ last then none else if (Lib.cut b [44]).2.2 = true then rdE n (Lib.cut b [44]).2.1 e (acc ||| bitOf e) else some (acc ||| bitOf e)
def fd (acc : Nat) (L : List Nat) : Nat := L.foldl (fun (a e : Nat) => a ||| bitOf (e : Int)) acc
/-- Rising, and all above. -/
def Up : Int → List Nat → Prop
  | _, [] => True
  | last, x :: r => last < (x : Int) ∧ x < 64 ∧ Up x r

theorem rd_text : ∀ (r : List Nat) (x n : Nat) (last : Int) (acc : Nat), r.length < n → Up last (x :: r) → rdE n (dig x ++ tailB r) last acc = some (fd acc (x :: r))
  | [], x, n, last, acc, hn, hu => by
    obtain ⟨k, rfl⟩ : ∃ k, n = k + 1 := ⟨n - 1, by simp at hn; omega⟩
    obtain ⟨h1, h2, _⟩ := hu
    simp only [tailB, List.append_nil]
    rw [rdE, cut_none 44 _ (dig_comma x h2), revent_dig x h2]
    simp only
    rw [if_neg (by omega), if_neg (by simp)]
    rfl
  | y :: r, x, n, last, acc, hn, hu => by
    obtain ⟨k, rfl⟩ : ∃ k, n = k + 1 := ⟨n - 1, by simp at hn; omega⟩
    obtain ⟨h1, h2, h3⟩ := hu
    simp only [tailB]
    rw [rdE, cut_at 44 _ _ (dig_comma x h2), revent_dig x h2]
    simp only
    rw [if_neg (by omega), if_pos trivial, rd_text r y k (x : Int) (acc ||| bitOf x) (by simp at hn; omega) h3]
    rfl
theorem rd_back : ∀ (n : Nat) (b : List UInt8) (last : Int) (acc z : Nat), rdE n b last acc = some z → ∃ x r, Up last (x :: r) ∧ b = dig x ++ tailB r ∧ z = fd acc (x :: r)
  | 0, b, last, acc, z, h => by simp [rdE] at h
  | n + 1, b, last, acc, z, h => by
    rw [rdE] at h
    rcases part 44 b with hp | ⟨a, t, rfl, hp⟩
    · rw [cut_none 44 b hp] at h
      simp only at h
      cases hr : revent b with
      | none => rw [hr] at h; cases h
      | some e =>
        rw [hr] at h
        simp only at h
        obtain ⟨he, hd⟩ := revent_some _ _ hr
        by_cases hl : (e : Int) ≤ last
        · rw [if_pos hl] at h; cases h
        · rw [if_neg hl, if_neg (by simp)] at h
          injection h with h
          exact ⟨e, [], ⟨by omega, he, trivial⟩, by simp [tailB, hd], h.symm⟩
    · rw [cut_at 44 a t hp] at h
      simp only at h
      cases hr : revent a with
      | none => rw [hr] at h; cases h
      | some e =>
        rw [hr] at h
        simp only at h
        obtain ⟨he, hd⟩ := revent_some _ _ hr
        by_cases hl : (e : Int) ≤ last
        · rw [if_pos hl] at h; cases h
        · rw [if_neg hl, if_pos trivial] at h
          obtain ⟨x, r, hu, rfl, rfl⟩ := rd_back n _ _ _ _ h
          exact ⟨e, x :: r, ⟨by omega, he, hu⟩, by simp [tailB, hd], rfl⟩

theorem up_mem : ∀ (L : List Nat) (last : Int), Up last L → ∀ x ∈ L, last < (x : Int) ∧ x < 64
  | y :: r, last, hu, x, hx => by
    obtain ⟨h1, h2, h3⟩ := hu
    rcases List.mem_cons.1 hx with rfl | hx
    · exact ⟨h1, h2⟩
    · have := up_mem r y h3 x hx
      exact ⟨by omega, this.2⟩
theorem up_pair : ∀ (L : List Nat) (last : Int), Up last L → L.Pairwise (· < ·)
  | [], _, _ => List.Pairwise.nil
  | y :: r, last, hu => by
    obtain ⟨h1, h2, h3⟩ := hu
    refine List.Pairwise.cons (fun x hx => ?_) (up_pair r y h3)
    have := up_mem r y h3 x hx
    omega
theorem pair_up : ∀ (L : List Nat) (last : Int), L.Pairwise (· < ·) → (∀ x ∈ L, last < (x : Int) ∧ x < 64) → Up last L
  | [], _, _, _ => trivial
  | y :: r, last, hp, hm => by
    obtain ⟨h1, h2⟩ := List.pairwise_cons.1 hp
    refine ⟨(hm y (List.mem_cons_self ..)).1, (hm y (List.mem_cons_self ..)).2, pair_up r y h2 (fun x hx => ?_)⟩
    have := h1 x hx
    exact ⟨by omega, (hm x (List.mem_cons_of_mem _ hx)).2⟩
theorem sorted_ext : ∀ (L M : List Nat), L.Pairwise (· < ·) → M.Pairwise (· < ·) → (∀ i, i ∈ L ↔ i ∈ M) → L = M
  | [], [], _, _, _ => rfl
  | [], y :: M, _, _, h => by have := (h y).2 (List.mem_cons_self ..); cases this
  | x :: L, [], _, _, h => by have := (h x).1 (List.mem_cons_self ..); cases this
  | x :: L, y :: M, hL, hM, h => by
    obtain ⟨a1, a2⟩ := List.pairwise_cons.1 hL
    obtain ⟨b1, b2⟩ := List.pairwise_cons.1 hM
    have hxy : x = y := by
      have h1 := (h x).1 (List.mem_cons_self ..)
      have h2 := (h y).2 (List.mem_cons_self ..)
      rcases List.mem_cons.1 h1 with h1 | h1
      · exact h1
      · rcases List.mem_cons.1 h2 with h2 | h2
        · exact h2.symm
        · have := b1 x h1; have := a1 y h2; omega
    subst hxy
    congr 1
    refine sorted_ext L M a2 b2 fun i => ?_
    constructor
    · intro hi
      have := a1 i hi
      rcases List.mem_cons.1 ((h i).1 (List.mem_cons_of_mem _ hi)) with h1 | h1
      · omega
      · exact h1
    · intro hi
      have := b1 i hi
      rcases List.mem_cons.1 ((h i).2 (List.mem_cons_of_mem _ hi)) with h1 | h1
      · omega
      · exact h1
theorem evs_pair (s : Nat) : (evs s).Pairwise (· < ·) := List.Pairwise.filter _ List.pairwise_lt_range
theorem fd_ofL (L : List Nat) : fd 0 L = ofL (L.map fun i : Nat => (i : Int)) := by
  unfold fd ofL; rw [List.foldl_map]
theorem evs_fd (L : List Nat) (last : Int) (hu : Up last L) : evs (fd 0 L) = L := by
  refine sorted_ext _ _ (evs_pair _) (up_pair L last hu) fun i => ?_
  rw [mem_evs, fd_ofL, testBit_ofL, List.any_map, List.any_eq_true]
  constructor
  · rintro ⟨_, x, hx, hb⟩
    simp only [Function.comp, testBit_bitOf, decide_eq_true_eq] at hb
    have : x = i := by omega
    exact this ▸ hx
  · intro hi
    have := (up_mem L last hu i hi).2
    exact ⟨this, i, hi, by simp [testBit_bitOf, this]⟩
theorem fd_evs (s : Nat) (h : s < 18446744073709551616) : fd 0 (evs s) = s := by rw [fd_ofL]; exact ofL_evs s h
theorem fd_lt (L : List Nat) : fd 0 L < 18446744073709551616 := by rw [fd_ofL]; exact ofL_lt _

/-- What Read answers. -/
def readOf (t : List UInt8) : Option Nat :=
  if Lib.hasPrefix t [123] = true ∧ Lib.hasSuffix (Lib.trimPrefix t [123]) [125] = true then
    (if Lib.trimSuffix (Lib.trimPrefix t [123]) [125] = [] then some 0 else rdE ((Lib.trimSuffix (Lib.trimPrefix t [123]) [125]).length + 1) (Lib.trimSuffix (Lib.trimPrefix t [123]) [125]) (-1) 0)
  else none
theorem pre_cons (x : UInt8) (r : List UInt8) : Lib.hasPrefix (x :: r) [x] = true ∧ Lib.trimPrefix (x :: r) [x] = r := by
  have h : Lib.hasPrefix (x :: r) [x] = true := by simp [Lib.hasPrefix, List.isPrefixOf]
  exact ⟨h, by unfold Lib.trimPrefix; rw [if_pos h]; rfl⟩
theorem suf_snoc (x : UInt8) (r : List UInt8) : Lib.hasSuffix (r ++ [x]) [x] = true ∧ Lib.trimSuffix (r ++ [x]) [x] = r := by
  have h : Lib.hasSuffix (r ++ [x]) [x] = true := by
    unfold Lib.hasSuffix; rw [List.isSuffixOf_iff_suffix]; exact List.suffix_append _ _
  exact ⟨h, by unfold Lib.trimSuffix; rw [if_pos h]; simp⟩
theorem pre_back (x : UInt8) (t : List UInt8) (h : Lib.hasPrefix t [x] = true) : t = x :: Lib.trimPrefix t [x] := by
  cases t with
  | nil => simp [Lib.hasPrefix, List.isPrefixOf] at h
  | cons y r =>
    have : x = y := by simpa [Lib.hasPrefix, List.isPrefixOf] using h
    subst this
    rw [(pre_cons x r).2]
theorem suf_back (x : UInt8) (t : List UInt8) (h : Lib.hasSuffix t [x] = true) : t = Lib.trimSuffix t [x] ++ [x] := by
  have h' := h
  unfold Lib.hasSuffix at h'
  rw [List.isSuffixOf_iff_suffix] at h'
  obtain ⟨r, rfl⟩ := h'
  rw [(suf_snoc x r).2]
theorem read_text (s : Nat) (h : s < 18446744073709551616) : readOf (textOf s) = some s := by
  unfold readOf textOf
  rw [(pre_cons 123 _).1, (pre_cons 123 _).2, (suf_snoc 125 _).1, (suf_snoc 125 _).2, if_pos ⟨rfl, rfl⟩]
  cases he : evs s with
  | nil =>
    have : s = 0 := by
      apply Classical.byContradiction
      intro h0
      exact evs_ne s h h0 he
    subst this
    simp [joinD]
  | cons x r =>
    have hne : joinD (x :: r) ≠ [] := by
      intro e
      have := (joinD_len (x :: r)).1
      rw [e] at this; simp at this
    rw [if_neg hne]
    have hu : Up (-1) (x :: r) := by
      rw [← he]
      exact pair_up _ _ (evs_pair s) (fun y hy => ⟨by omega, evs_lt s y hy⟩)
    have hl := (joinD_len (x :: r)).1
    rw [show joinD (x :: r) = dig x ++ tailB r from rfl] at hl ⊢
    rw [rd_text r x _ (-1) 0 (by simp at hl ⊢; omega) hu, ← he, fd_evs s h]
theorem text_read (t : List UInt8) (z : Nat) (h : readOf t = some z) : textOf z = t ∧ z < 18446744073709551616 := by
  unfold readOf at h
  split at h
  · rename_i hc
    have h1 := pre_back 123 t hc.1
    have h2 := suf_back 125 _ hc.2
    generalize Lib.trimPrefix t [123] = u at *
    generalize Lib.trimSuffix u [125] = b at *
    subst h1 h2
    split at h
    · rename_i hb
      injection h with h
      subst h hb
      exact ⟨by simp [textOf, evs_zero, joinD], by decide⟩
    · obtain ⟨x, r, hu, rfl, rfl⟩ := rd_back _ _ _ _ _ h
      refine ⟨?_, fd_lt _⟩
      unfold textOf
      rw [evs_fd _ _ hu]; rfl
  · cases h
end Go.Proofs.YtklamncepgejeaaDoor
