/- Numbers as bytes, the check, and frames as lists of bytes, by themselves: nothing of the program is in this text; no conditions but those that each theorem names. -/
import Derived.WalkKit
set_option linter.unusedVariables false
set_option linter.unusedSimpArgs false
namespace Go.Proofs.Ytaplnbofglljdaa

/-- The low k bytes of n, the highest first. -/
def be : Nat → Nat → List UInt8
  | 0, _ => []
  | k + 1, n => UInt8.ofNat (n / 256 ^ k) :: be k n
/-- The number that bytes tell, the highest first. -/
def num (l : List UInt8) : Nat := l.foldl (fun a c => a * 256 + c.toNat) 0
theorem num_nil : num [] = 0 := rfl
theorem num_snoc (l : List UInt8) (c : UInt8) : num (l ++ [c]) = num l * 256 + c.toNat := by simp [num, List.foldl_append]
theorem be_length : ∀ k n, (be k n).length = k
  | 0, _ => rfl
  | k + 1, n => by simp [be, be_length k n]
theorem num_fold : ∀ (l : List UInt8) (a : Nat), l.foldl (fun a c => a * 256 + c.toNat) a = a * 256 ^ l.length + num l
  | [], a => by simp [num]
  | c :: r, a => by
    have h1 := num_fold r (a * 256 + c.toNat)
    have h2 := num_fold r (0 * 256 + c.toNat)
    simp only [List.foldl_cons, num, List.length_cons] at *
    rw [h1, h2, Nat.pow_succ, Nat.add_mul, Nat.zero_mul, Nat.zero_add, Nat.mul_assoc, Nat.mul_comm 256, Nat.add_assoc]
theorem num_cons (c : UInt8) (r : List UInt8) : num (c :: r) = c.toNat * 256 ^ r.length + num r := by
  have := num_fold r (0 * 256 + c.toNat)
  simp only [num, List.foldl_cons] at *
  rw [this]; simp
theorem num_lt : ∀ (l : List UInt8), num l < 256 ^ l.length
  | [] => by simp [num]
  | c :: r => by
    have h := num_lt r
    have hc : c.toNat < 256 := c.toNat_lt
    rw [num_cons, List.length_cons, Nat.pow_succ]
    have : c.toNat * 256 ^ r.length ≤ 255 * 256 ^ r.length := Nat.mul_le_mul_right _ (by omega)
    omega
theorem num_be : ∀ k n, num (be k n) = n % 256 ^ k
  | 0, n => by simp [be, num, Nat.mod_one]
  | k + 1, n => by
    rw [be, num_cons, num_be k n, be_length]
    have : (UInt8.ofNat (n / 256 ^ k)).toNat = n / 256 ^ k % 256 := by simp
    rw [this, Nat.pow_succ, Nat.mod_mul, Nat.mul_comm, Nat.add_comm]
theorem num_inj : ∀ (a b : List UInt8), a.length = b.length → num a = num b → a = b
  | [], [], _, _ => rfl
  | x :: a, y :: b, hl, h => by
    have hl' : a.length = b.length := by simpa using hl
    rw [num_cons, num_cons, hl'] at h
    have ha := num_lt a
    have hb := num_lt b
    rw [hl'] at ha
    have hp : 0 < 256 ^ b.length := Nat.pow_pos (by decide)
    have e1 : (x.toNat * 256 ^ b.length + num a) / 256 ^ b.length = x.toNat := by
      rw [Nat.mul_comm, Nat.mul_add_div hp, Nat.div_eq_of_lt ha]; rfl
    have e2 : (y.toNat * 256 ^ b.length + num b) / 256 ^ b.length = y.toNat := by
      rw [Nat.mul_comm, Nat.mul_add_div hp, Nat.div_eq_of_lt hb]; rfl
    have hxy : x.toNat = y.toNat := by rw [← e1, ← e2, h]
    have hx : x = y := UInt8.toNat_inj.1 hxy
    subst hx
    rw [num_inj a b hl' (by omega)]
theorem be_num (l : List UInt8) (k : Nat) (h : l.length = k) : be k (num l) = l := by
  subst h
  apply num_inj
  · rw [be_length]
  · rw [num_be, Nat.mod_eq_of_lt (num_lt l)]

/-- The sum of the bytes, each times its place (the first of l has the place k + 1). -/
def ws : Nat → List UInt8 → Nat
  | _, [] => 0
  | k, c :: r => (k + 1) * c.toNat + ws (k + 1) r
theorem ws_append : ∀ (a b : List UInt8) (k : Nat), ws k (a ++ b) = ws k a + ws (k + a.length) b
  | [], b, k => by simp [ws]
  | c :: a, b, k => by
    simp only [List.cons_append, ws, ws_append a b (k + 1), List.length_cons]
    rw [show k + 1 + a.length = k + (a.length + 1) by omega]; omega
theorem ws_snoc (l : List UInt8) (c : UInt8) : ws 0 (l ++ [c]) = ws 0 l + (l.length + 1) * c.toNat := by
  rw [ws_append]; simp [ws]
theorem ws_le : ∀ (l : List UInt8) (k : Nat), ws k l ≤ (k + l.length) * 255 * l.length
  | [], k => by simp [ws]
  | c :: r, k => by
    have h := ws_le r (k + 1)
    have hc : c.toNat < 256 := c.toNat_lt
    have h1 : (k + 1) * c.toNat ≤ (k + 1) * 255 := Nat.mul_le_mul_left _ (by omega)
    simp only [ws, List.length_cons]
    have e : k + 1 + r.length = k + (r.length + 1) := by omega
    rw [e] at h
    have h2 : (k + 1) * 255 ≤ (k + (r.length + 1)) * 255 := Nat.mul_le_mul_right _ (by omega)
    rw [Nat.mul_succ]
    omega
theorem ws_set : ∀ (l : List UInt8) (k i : Nat) (x : UInt8) (h : i < l.length), ws k (l.set i x) + (k + i + 1) * l[i].toNat = ws k l + (k + i + 1) * x.toNat
  | c :: r, k, 0, x, _ => by simp [ws]; omega
  | c :: r, k, i + 1, x, h => by
    have := ws_set r (k + 1) i x (by simpa using h)
    simp only [List.set_cons_succ, ws, List.getElem_cons_succ]
    rw [show k + (i + 1) + 1 = k + 1 + i + 1 by omega]
    omega
/-- The check. -/
def chk (l : List UInt8) : Nat := ws 0 l % 65521
theorem chk_lt (l : List UInt8) : chk l < 65521 := Nat.mod_lt _ (by decide)

/-- A frame: eight numbers, whether it is tagged, the tag, the digest. -/
structure Fr where
  a0 : Nat
  a1 : Nat
  a2 : Nat
  a3 : Nat
  a4 : Nat
  a5 : Nat
  a6 : Nat
  a7 : Nat
  tg : Bool
  tag : Nat
  dg : Nat
/-- Its numbers are numbers of sixteen bits, its digest of sixty-four. -/
structure Fr.ok (f : Fr) : Prop where
  h0 : f.a0 < 65536
  h1 : f.a1 < 65536
  h2 : f.a2 < 65536
  h3 : f.a3 < 65536
  h4 : f.a4 < 65536
  h5 : f.a5 < 65536
  h6 : f.a6 < 65536
  h7 : f.a7 < 65536
  ht : f.tag < 65536
  hd : f.dg < 18446744073709551616
def kindB (t : Bool) : UInt8 := if t then 1 else 0
/-- The bytes ahead of the check. -/
def bodyOf (f : Fr) : List UInt8 :=
  78 :: kindB f.tg :: (be 2 f.a2 ++ (be 2 f.a3 ++ (be 2 f.a4 ++ (be 2 f.a5 ++ (be 2 f.a6 ++ (be 2 f.a7 ++ if f.tg then be 2 f.tag ++ be 8 f.dg else []))))))
/-- A frame's bytes. -/
def encOf (f : Fr) : List UInt8 := bodyOf f ++ be 2 (chk (bodyOf f))
def bodyLen (t : Bool) : Nat := if t then 24 else 14
theorem bodyOf_length (f : Fr) : (bodyOf f).length = bodyLen f.tg := by
  unfold bodyOf bodyLen
  cases f.tg <;> simp [be_length]
theorem encOf_length (f : Fr) : (encOf f).length = bodyLen f.tg + 2 := by
  unfold encOf; rw [List.length_append, bodyOf_length, be_length]
/-- A frame as it is told. -/
def cleanOf (f : Fr) : Fr := ⟨0, 0, f.a2, f.a3, f.a4, f.a5, f.a6, f.a7, f.tg, if f.tg then f.tag else 0, if f.tg then f.dg else 0⟩
def zeroFr : Fr := ⟨0, 0, 0, 0, 0, 0, 0, 0, false, 0, 0⟩

/-- Whether bytes begin as a frame does and are as long as one of that kind. -/
def shapeB (l : List UInt8) : Bool :=
  match l with
  | 78 :: k :: r => if k = 0 then decide (r.length = 14) else if k = 1 then decide (r.length = 24) else false
  | _ => false
/-- Whether bytes are a frame's. -/
def isF (l : List UInt8) : Bool := shapeB l && decide (num (l.drop (l.length - 2)) = chk (l.take (l.length - 2)))
/-- The number in the two bytes from i on. -/
def two (l : List UInt8) (i : Nat) : Nat := num ((l.drop i).take 2)
/-- What is read of bytes, as of a frame of this kind. -/
def rdOf (t : Bool) (l : List UInt8) : Fr := ⟨0, 0, two l 2, two l 4, two l 6, two l 8, two l 10, two l 12, t, if t then two l 14 else 0, if t then num ((l.drop 16).take 8) else 0⟩
/-- The kind that bytes tell. -/
def tgOf (l : List UInt8) : Bool := decide (l.length = 26)
end Go.Proofs.Ytaplnbofglljdaa
