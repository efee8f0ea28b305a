/- Plain laws on lists of bytes: a text split at a byte, and the same by cutting; numbers of digits; no conditions. -/
import Derived.Lib.IndexMore
import Derived.Lib.ItoaNum
import Derived.Lib.ParseIntB
set_option linter.unusedVariables false
set_option linter.unusedSimpArgs false
namespace Go.Proofs.YtcfploigpnjmoaaDoor
open Go

/-- What stands between such bytes. -/
def split (c : UInt8) : List UInt8 → List (List UInt8)
  | [] => [[]]
  | x :: r => if x = c then [] :: split c r else match split c r with
    | [] => [[x]]
    | h :: t => (x :: h) :: t
theorem split_cons (c x : UInt8) (r : List UInt8) : split c (x :: r) = if x = c then [] :: split c r else match split c r with
    | [] => [[x]]
    | h :: t => (x :: h) :: t := rfl
theorem split_ne (c : UInt8) : ∀ l, split c l ≠ []
  | [] => by simp [split]
  | x :: r => by
    rw [split_cons]
    split
    · simp
    · split <;> simp
theorem split_none (c : UInt8) : ∀ l, c ∉ l → split c l = [l]
  | [], _ => rfl
  | x :: r, h => by
    have hx : x ≠ c := fun e => h (by rw [e]; exact List.mem_cons_self ..)
    have hr : c ∉ r := fun e => h (List.mem_cons_of_mem _ e)
    rw [split_cons, if_neg hx, split_none c r hr]
theorem split_at (c : UInt8) : ∀ a b, c ∉ a → split c (a ++ c :: b) = a :: split c b
  | [], b, _ => by simp [split]
  | x :: r, b, h => by
    have hx : x ≠ c := fun e => h (by rw [e]; exact List.mem_cons_self ..)
    have hr : c ∉ r := fun e => h (List.mem_cons_of_mem _ e)
    rw [List.cons_append]
    rw [split_cons, if_neg hx, split_at c r b hr]
theorem split_append (c : UInt8) : ∀ a b, split c (a ++ c :: b) = split c a ++ split c b
  | [], b => by simp [split]
  | x :: r, b => by
    rw [List.cons_append]
    have ih := split_append c r b
    rw [split_cons, split_cons]
    by_cases hx : x = c
    · rw [if_pos hx, if_pos hx, ih]; rfl
    · rw [if_neg hx, if_neg hx, ih]
      have := split_ne c r
      cases h : split c r with
      | nil => exact absurd h this
      | cons y t => rfl

theorem cut_nil (c : UInt8) : Lib.cut [] [c] = ([], [], false) := by
  simp [Lib.cut, Lib.index]
theorem index_cons_eq (c : UInt8) (r : List UInt8) : Lib.index (c :: r) [c] = 0 := by
  simp [Lib.index]
theorem index_cons_ne (c x : UInt8) (r : List UInt8) (h : x ≠ c) : Lib.index (x :: r) [c] = if Lib.index r [c] == -1 then -1 else Lib.index r [c] + 1 := by
  have : ([c].isPrefixOf (x :: r)) = false := by simp [List.isPrefixOf]; exact fun e => h e.symm
  simp [Lib.index, this]
theorem index_found (c : UInt8) : ∀ l, c ∉ l → Lib.index l [c] = -1
  | [], _ => by simp [Lib.index]
  | x :: r, h => by
    have hx : x ≠ c := fun e => h (by rw [e]; exact List.mem_cons_self ..)
    have hr : c ∉ r := fun e => h (List.mem_cons_of_mem _ e)
    rw [index_cons_ne c x r hx, index_found c r hr]; rfl
theorem index_at (c : UInt8) : ∀ a b, c ∉ a → Lib.index (a ++ c :: b) [c] = a.length
  | [], b, _ => by simp [index_cons_eq]
  | x :: r, b, h => by
    have hx : x ≠ c := fun e => h (by rw [e]; exact List.mem_cons_self ..)
    have hr : c ∉ r := fun e => h (List.mem_cons_of_mem _ e)
    rw [List.cons_append, index_cons_ne c x _ hx, index_at c r b hr]
    have : ((r.length : Int) == -1) = false := by simp
    rw [this]; simp
theorem cut_none (c : UInt8) (l : List UInt8) (h : c ∉ l) : Lib.cut l [c] = (l, [], false) := by
  unfold Lib.cut; rw [index_found c l h]; simp
theorem cut_at (c : UInt8) (a b : List UInt8) (h : c ∉ a) : Lib.cut (a ++ c :: b) [c] = (a, b, true) := by
  unfold Lib.cut; rw [index_at c a b h, if_pos (by omega)]
  have e1 : (a.length : Int).toNat = a.length := by omega
  rw [e1]
  simp
theorem part (c : UInt8) : ∀ l : List UInt8, c ∉ l ∨ ∃ a b, l = a ++ c :: b ∧ c ∉ a
  | [] => .inl (by simp)
  | x :: r => by
    by_cases hx : x = c
    · subst hx; exact .inr ⟨[], r, rfl, by simp⟩
    · rcases part c r with h | ⟨a, b, rfl, h⟩
      · exact .inl (by simp; exact ⟨fun e => hx e.symm, h⟩)
      · exact .inr ⟨x :: a, b, rfl, by simp; exact ⟨fun e => hx e.symm, h⟩⟩

/-- The value of digits. -/
def digVal (a : Nat) (c : UInt8) : Nat := a * 10 + (c.toNat - 48)
def valOf (acc : Nat) (l : List UInt8) : Nat := l.foldl digVal acc
theorem valOf_cons (acc : Nat) (c : UInt8) (r : List UInt8) : valOf acc (c :: r) = valOf (acc * 10 + (c.toNat - 48)) r := by
  unfold valOf; rw [List.foldl_cons, digVal]
theorem valOf_nil (acc : Nat) : valOf acc [] = acc := by unfold valOf; rw [List.foldl_nil]
theorem valOf_one (acc : Nat) (c : UInt8) : valOf acc [c] = acc * 10 + (c.toNat - 48) := by rw [valOf_cons, valOf_nil]
theorem valOf_snoc (l : List UInt8) (acc : Nat) (c : UInt8) : valOf acc (l ++ [c]) = valOf acc l * 10 + (c.toNat - 48) := by
  unfold valOf; rw [List.foldl_append, List.foldl_cons, List.foldl_nil, digVal]
def isDig (c : UInt8) : Bool := decide (48 ≤ c.toNat) && decide (c.toNat ≤ 57)
/-- The document's number: of 1 to 5 digits, up to 65535. -/
def numDoc (l : List UInt8) : Option Nat := if l.length < 1 ∨ 5 < l.length ∨ l.all isDig = false ∨ 65535 < valOf 0 l then none else some (valOf 0 l)
theorem valOf_ge (l : List UInt8) : ∀ acc : Nat, acc ≤ valOf acc l := by
  induction l with
  | nil => intro acc; rw [valOf_nil]; exact Nat.le_refl _
  | cons c r ih => intro acc; rw [valOf_cons]; exact Nat.le_trans (by omega) (ih _)
/-- What ParseUint makes of digits, as an option. -/
def okOf (x : Lib.NumEnd Nat) : Option Nat := match x with | .ok u => some u | _ => none
theorem parse_step (M acc : Nat) (c : UInt8) (r : List UInt8) (hM : M < 1844674407370955162) (h : acc ≤ M) :
    okOf (Lib.parseUintM M acc (c :: r)) = if isDig c = true ∧ acc * 10 + (c.toNat - 48) ≤ M then okOf (Lib.parseUintM M (acc * 10 + (c.toNat - 48)) r) else none := by
  rw [Lib.parseUintM]
  by_cases hd : 48 ≤ c.toNat ∧ c.toNat ≤ 57
  · have hdig : isDig c = true := by simp [isDig, hd.1, hd.2]
    have hbig : ¬ 1844674407370955162 ≤ acc := by omega
    rw [if_pos hd, if_neg hbig]
    by_cases hm : M < acc * 10 + (c.toNat - 48)
    · rw [if_pos hm, if_neg (by rintro ⟨_, h2⟩; omega)]; rfl
    · rw [if_neg hm, if_pos ⟨hdig, by omega⟩]
  · have hdig : ¬ isDig c = true := by
      intro e
      unfold isDig at e
      rw [Bool.and_eq_true] at e
      exact hd ⟨of_decide_eq_true e.1, of_decide_eq_true e.2⟩
    rw [if_neg hd, if_neg (fun e => hdig e.1)]; rfl
theorem parse_val (M : Nat) (hM : M < 1844674407370955162) (l : List UInt8) : ∀ (acc : Nat), acc ≤ M → okOf (Lib.parseUintM M acc l) = if l.all isDig = true ∧ valOf acc l ≤ M then some (valOf acc l) else none := by
  induction l with
  | nil => intro acc h; rw [Lib.parseUintM, valOf_nil, if_pos ⟨rfl, h⟩]; rfl
  | cons c r ih =>
    intro acc h
    have hge := valOf_ge r (acc * 10 + (c.toNat - 48))
    rw [parse_step M acc c r hM h]
    have hv : valOf acc (c :: r) = valOf (acc * 10 + (c.toNat - 48)) r := valOf_cons acc c r
    rw [hv, List.all_cons]
    by_cases hc : isDig c = true ∧ acc * 10 + (c.toNat - 48) ≤ M
    · rw [if_pos hc, ih _ hc.2, hc.1, Bool.true_and]
    · rw [if_neg hc, if_neg]
      rintro ⟨h1, h2⟩
      rw [Bool.and_eq_true] at h1
      exact hc ⟨h1.1, by omega⟩
end Go.Proofs.YtcfploigpnjmoaaDoor
