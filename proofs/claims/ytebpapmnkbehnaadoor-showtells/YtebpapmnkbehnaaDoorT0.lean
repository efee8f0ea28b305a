/- The texts of policies, rules and programs, as the document says them; what is well formed with numbers of 16 bits; no condition. -/
import Derived.Test.YtebpapmnkbehnaaDoorK1
import Derived.Test.YtebpapmnkbehnaaDoorK0
import Derived.Lib.ItoaNum
set_option linter.unusedVariables false
set_option linter.unusedSimpArgs false
namespace Go.Proofs.YtebpapmnkbehnaaDoor
open Go.Lib

/-- A field's name. -/
def nmB (f : Int) : List UInt8 := nm8.getD f.toNat []
/-- A kid stands between ( and )? -/
def opW (op : Int) (k : Pl) : Bool := decide (k.op = 7) || (decide (k.op = 6) && !decide (op = 7))
def wrapB (b : Bool) (s : List UInt8) : List UInt8 := if b then 40 :: (s ++ [41]) else s
/-- With something between. -/
def joinS {α : Type} (sep : List α) : List (List α) → List α
  | [] => []
  | a :: r => a ++ r.flatMap fun b => sep ++ b
def sepB (op : Int) : List UInt8 := if op = 6 then [32, 59, 32] else [32, 43, 32]
/-- A policy's text. -/
def textP : Pl → List UInt8
  | .mk op f n kids =>
    if op = 0 then [100, 114, 111, 112]
    else if op = 1 then [105, 100]
    else if op = 2 then nmB f ++ 61 :: decDigits n.toNat
    else if op = 3 then 64 :: (decDigits f.toNat ++ 61 :: decDigits n.toNat)
    else if op = 5 then nmB f ++ 58 :: 61 :: decDigits n.toNat
    else if op = 4 then 33 :: joinS [] (partsT op kids)
    else joinS (sepB op) (partsT op kids)
  where partsT (op : Int) : List Pl → List (List UInt8)
  | [] => []
  | k :: r => wrapB (opW op k) (textP k) :: partsT op r
theorem textP_mk (op f n : Int) (kids : List Pl) : textP (.mk op f n kids) = if op = 0 then [100, 114, 111, 112]
    else if op = 1 then [105, 100]
    else if op = 2 then nmB f ++ 61 :: decDigits n.toNat
    else if op = 3 then 64 :: (decDigits f.toNat ++ 61 :: decDigits n.toNat)
    else if op = 5 then nmB f ++ 58 :: 61 :: decDigits n.toNat
    else if op = 4 then 33 :: joinS [] (textP.partsT op kids)
    else joinS (sepB op) (textP.partsT op kids) := by rw [textP]
theorem partsT_len (op : Int) : ∀ kids : List Pl, (textP.partsT op kids).length = kids.length
  | [] => rfl
  | k :: r => by rw [textP.partsT, List.length_cons, List.length_cons, partsT_len op r]
theorem partsT_get (op : Int) : ∀ (kids : List Pl) (i : Nat) (h : i < kids.length) (h' : i < (textP.partsT op kids).length), (textP.partsT op kids)[i] = wrapB (opW op kids[i]) (textP kids[i])
  | k :: r, 0, _, _ => by simp [textP.partsT]
  | k :: r, i + 1, h, h' => by
    simp only [textP.partsT, List.getElem_cons_succ]
    exact partsT_get op r i (by simpa using h) _
theorem form_get (parts : Int) : ∀ (kids : List Pl), formP.formL parts kids = true → ∀ i (h : i < kids.length), formP parts kids[i] = true
  | k :: r, hf, 0, _ => by rw [formP.formL, Bool.and_eq_true] at hf; simpa using hf.1
  | k :: r, hf, i + 1, h => by
    rw [formP.formL, Bool.and_eq_true] at hf
    simpa using form_get parts r hf.2 i (by simpa using h)
def whenT (c : Pr) : List UInt8 := nmB c.1 ++ 61 :: decDigits c.2
def guardT (c : Pr) : List UInt8 := 64 :: (decDigits c.1.toNat ++ 61 :: decDigits c.2)
def thenT (c : Pr) : List UInt8 := 64 :: (decDigits c.1.toNat ++ 58 :: 61 :: decDigits c.2)
/-- A rule's line. -/
def ruleT (r : Rl) : List UInt8 := [111, 110, 32] ++ (joinS [32, 38, 32] (r.when.map whenT ++ r.guard.map guardT) ++ ([32, 61, 62, 32] ++ (joinS [32, 38, 32] (r.thn.map thenT) ++ [32, 46])))
/-- A program's text. -/
def textG (p : Pg) : List UInt8 := [105, 110, 105, 116] ++ (p.init.flatMap (fun n => 32 :: decDigits n) ++ ([32, 46, 10] ++ ([112, 111, 108, 105, 99, 121, 32] ++ (textP p.pol ++ ([32, 46, 10] ++ p.rules.flatMap fun r => ruleT r ++ [10])))))
theorem rise_in : ∀ (l : List Pr) (a e : Int), riseB a e l = true → (∀ c ∈ l, a ≤ c.1 ∧ c.1 < e) ∧ l.Pairwise (fun x y => x.1 < y.1)
  | [], _, _, _ => ⟨fun _ h => (by cases h), List.Pairwise.nil⟩
  | c :: r, a, e, h => by
    unfold riseB at h
    simp only [Bool.and_eq_true, decide_eq_true_eq] at h
    obtain ⟨⟨h1, h2⟩, h3⟩ := h
    obtain ⟨i1, i2⟩ := rise_in r (c.1 + 1) e h3
    refine ⟨fun x hx => ?_, List.pairwise_cons.2 ⟨fun x hx => ?_, i2⟩⟩
    · rcases List.mem_cons.1 hx with rfl | hx
      · exact ⟨h1, h2⟩
      · have := i1 x hx; omega
    · have := i1 x hx; omega
/-- A rule whose numbers are of 16 bits, its parts too. -/
structure RlN (parts : Int) (r : Rl) : Prop where
  form : ruleB parts r = true
  w : ∀ c ∈ r.when, c.2 ≤ 65535
  g : ∀ c ∈ r.guard, c.2 ≤ 65535
  t : ∀ c ∈ r.thn, c.2 ≤ 65535
theorem RlN.open {parts : Int} {r : Rl} (h : RlN parts r) : riseB 0 8 r.when = true ∧ portB r.when = true ∧ riseB 0 parts r.guard = true ∧ riseB 0 parts r.thn = true ∧ 0 < r.thn.length := by
  have := h.form
  unfold ruleB at this
  simp only [Bool.and_eq_true, decide_eq_true_eq] at this
  exact ⟨this.1.1.1.1, this.1.1.1.2, this.1.1.2, this.1.2, this.2⟩

/-- A program that is well formed, its numbers of 16 bits. -/
structure PgN (p : Pg) : Prop where
  chk : checkM p = 0
  ni : ∀ n ∈ p.init, n ≤ 65535
  np : okN p.pol
  nr : ∀ r ∈ p.rules, (∀ c ∈ r.when, c.2 ≤ 65535) ∧ (∀ c ∈ r.guard, c.2 ≤ 65535) ∧ (∀ c ∈ r.thn, c.2 ≤ 65535)
theorem chk_open {p : Pg} (h : checkM p = 0) : longB p = false ∧ formP p.init.length p.pol = true ∧ ∀ r ∈ p.rules, ruleB p.init.length r = true := by
  unfold checkM at h
  split at h
  · cases h
  · rename_i hl
    split at h
    · rename_i hf
      rw [Bool.and_eq_true, List.all_eq_true] at hf
      exact ⟨by simpa using hl, hf.1, hf.2⟩
    · cases h
theorem PgN.len {p : Pg} (h : PgN p) : 1 ≤ p.init.length ∧ p.init.length ≤ 4 ∧ p.rules.length ≤ 24 ∧ sizeP p.pol ≤ 300 ∧ depthP p.pol ≤ 20 := by
  have := (chk_open h.chk).1
  unfold longB at this
  simp only [Bool.or_eq_false_iff, decide_eq_false_iff_not] at this
  omega
end Go.Proofs.YtebpapmnkbehnaaDoor
