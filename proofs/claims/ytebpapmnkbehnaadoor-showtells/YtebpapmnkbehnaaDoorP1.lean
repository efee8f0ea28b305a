/- The reader of tokens as a model: what each of its functions answers, and where it stands behind it; no conditions. -/
import Derived.Test.YtebpapmnkbehnaaDoorA1
set_option linter.unusedVariables false
set_option linter.unusedSimpArgs false
namespace Go.Proofs.YtebpapmnkbehnaaDoor

/-- A policy. -/
structure Pl where
  mk ::
  op : Int
  f : Int
  n : Int
  kids : List Pl

/-- A pair: a field or part, and a number. -/
abbrev Pr := Int × Nat
/-- A rule. -/
structure Rl where
  when : List Pr
  guard : List Pr
  thn : List Pr
/-- A program. -/
structure Pg where
  init : List Nat
  pol : Pl
  rules : List Rl

/-- Where the reader stands, and what it has met; mid: of no use any more, never turned. -/
structure St where
  pos : Nat
  lets : List (List UInt8 × Nat)
  bad : Bool
  mis : Bool
  dbl : Bool
  mid : Bool

/-- The number of a name. -/
def look : List (List UInt8 × Nat) → List UInt8 → Option Nat
  | [], _ => none
  | (k, v) :: r, s => if k = s then some v else look r s

def tokAt (L : List Tk) (σ : St) : Tk := L.getD σ.pos tkEnd
def St.next (σ : St) : St := { σ with pos := σ.pos + 1 }
def failM (L : List Tk) (σ : St) : St := { σ with pos := L.length - 1, bad := true }
/-- Does this word or sign come next? -/
def isNext (L : List Tk) (s : List UInt8) (σ : St) : Bool := decide ((tokAt L σ).s = s)
def takesM (L : List Tk) (s : List UInt8) (σ : St) : St := if isNext L s σ then σ.next else σ
def needsM (L : List Tk) (s : List UInt8) (σ : St) : St := if isNext L s σ then σ.next else failM L σ
def isNum (L : List Tk) (σ : St) : Bool := decide ((tokAt L σ).kind = 2)
def numberM (L : List Tk) (σ : St) : Nat × St := if isNum L σ then ((tokAt L σ).n, σ.next) else (0, failM L σ)
/-- The reserved words that are no fields. -/
def rsv : List (List UInt8) := [[105, 110, 105, 116], [108, 101, 116], [112, 111, 108, 105, 99, 121], [111, 110], [105, 100], [100, 114, 111, 112], [115, 119, 105, 116, 99, 104], [108, 105, 110, 107], [104, 111, 115, 116]]
def resv (s : List UInt8) : Bool := rsv.contains s || fldB s
def isName (L : List Tk) (σ : St) : Bool := decide ((tokAt L σ).kind = 1) && !resv (tokAt L σ).s
def nameM (L : List Tk) (σ : St) : List UInt8 × St := if isName L σ then ((tokAt L σ).s, σ.next) else ([], failM L σ)
def isField (L : List Tk) (σ : St) : Bool := fldB (tokAt L σ).s
def fieldM (L : List Tk) (σ : St) : Int × St := if isField L σ then (fldI (tokAt L σ).s, σ.next) else (0, failM L σ)
def St.misd (σ : St) (b : Bool) : St := { σ with mis := σ.mis || b }
def valueM (L : List Tk) (σ : St) : Nat × St :=
  if isNum L σ then numberM L σ
  else ((look (nameM L σ).2.lets (nameM L σ).1).getD 0, (nameM L σ).2.misd (look (nameM L σ).2.lets (nameM L σ).1).isNone)
def partM (L : List Tk) (sign : List UInt8) (σ : St) : Pr × St :=
  ((((numberM L σ).1 : Int), (valueM L (needsM L sign (numberM L σ).2)).1), (valueM L (needsM L sign (numberM L σ).2)).2)

/-- Kids with a sign between. -/
def manyM (L : List Tk) (sign : List UInt8) (g : St → Pl × St) : Nat → List Pl → St → List Pl × St
  | 0, acc, σ => (acc, σ)
  | k + 1, acc, σ => if isNext L sign σ then manyM L sign g k (acc ++ [(g σ.next).1]) (g σ.next).2 else (acc, σ)
def joinedM (op : Int) : List Pl → Pl
  | [p] => p
  | kids => .mk op 0 0 kids
def listM (L : List Tk) (sign : List UInt8) (op : Int) (g : St → Pl × St) (σ : St) : Pl × St :=
  (joinedM op (manyM L sign g L.length [(g σ).1] (g σ).2).1, (manyM L sign g L.length [(g σ).1] (g σ).2).2)
def atomM (L : List Tk) (S : St → Pl × St) (σ : St) : Pl × St :=
  if isNext L [105, 100] σ then (.mk 1 0 0 [], σ.next)
  else if isNext L [100, 114, 111, 112] σ then (.mk 0 0 0 [], σ.next)
  else if isNext L [40] σ then ((S σ.next).1, needsM L [41] (S σ.next).2)
  else if isNext L [64] σ then (.mk 3 (partM L [61] σ.next).1.1 (partM L [61] σ.next).1.2 [], (partM L [61] σ.next).2)
  else if isNext L [58, 61] (fieldM L σ).2 then (.mk 5 (fieldM L σ).1 (valueM L (fieldM L σ).2.next).1 [], (valueM L (fieldM L σ).2.next).2)
  else (.mk 2 (fieldM L σ).1 (valueM L (needsM L [61] (fieldM L σ).2)).1 [], (valueM L (needsM L [61] (fieldM L σ).2)).2)
/-- Fuel: nots one within another. -/
def unaryM (L : List Tk) (S : St → Pl × St) : Nat → St → Pl × St
  | 0, σ => (.mk 0 0 0 [], σ)
  | k + 1, σ => if isNext L [33] σ then (.mk 4 0 0 [(unaryM L S k σ.next).1], (unaryM L S k σ.next).2) else atomM L S σ
def seqM (L : List Tk) (S : St → Pl × St) (σ : St) : Pl × St := listM L [59] 6 (unaryM L S (L.length + 1)) σ
/-- Fuel: brackets one within another. -/
def sumM (L : List Tk) : Nat → St → Pl × St
  | 0, σ => (.mk 0 0 0 [], σ)
  | k + 1, σ => listM L [43] 7 (seqM L (sumM L k)) σ

/-! ### Rules -/
def ins (l : List Pr) (c : Pr) : List Pr := l.takeWhile (fun x => decide (x.1 < c.1)) ++ c :: l.dropWhile (fun x => decide (x.1 < c.1))
def hasF (l : List Pr) (f : Int) : Bool := l.any fun x => decide (x.1 = f)
/-- All of them are less? -/
def allLt (l : List Pr) (f : Int) : Bool := l.all fun x => decide (x.1 < f)
def withM (l : List Pr) (c : Pr) (σ : St) : List Pr × St :=
  if hasF l c.1 then (l, { σ with dbl := true })
  else (ins l c, σ)
def whenM (L : List Tk) (r : Rl) (σ : St) : Rl × St :=
  if isNext L [64] σ then ({ r with guard := (withM r.guard (partM L [61] σ.next).1 (partM L [61] σ.next).2).1 }, (withM r.guard (partM L [61] σ.next).1 (partM L [61] σ.next).2).2)
  else
    let f := (fieldM L σ).1
    let v := valueM L (needsM L [61] (fieldM L σ).2)
    ({ r with when := (withM r.when (f, v.1) v.2).1 }, (withM r.when (f, v.1) v.2).2)
def thenM (L : List Tk) (r : Rl) (σ : St) : Rl × St :=
  let p := partM L [58, 61] (needsM L [64] σ)
  ({ r with thn := (withM r.thn p.1 p.2).1 }, (withM r.thn p.1 p.2).2)
def ampM (L : List Tk) (g : Rl → St → Rl × St) : Nat → Rl → St → Rl × St
  | 0, r, σ => (r, σ)
  | k + 1, r, σ => if isNext L [38] σ then ampM L g k (g r σ.next).1 (g r σ.next).2 else (r, σ)
def ruleM (L : List Tk) (σ : St) : Rl × St :=
  let a := whenM L ⟨[], [], []⟩ σ
  let b := ampM L (whenM L) L.length a.1 a.2
  let c := thenM L b.1 (needsM L [61, 62] b.2)
  ampM L (thenM L) L.length c.1 c.2

/-! ### The whole -/
def numsM (L : List Tk) : Nat → List Nat → St → List Nat × St
  | 0, l, σ => (l, σ)
  | k + 1, l, σ => if isNum L σ then numsM L k (l ++ [(tokAt L σ).n]) σ.next else (l, σ)
def startM (L : List Tk) (σ : St) : List Nat × St :=
  let a := numberM L (needsM L [105, 110, 105, 116] σ)
  let b := numsM L L.length [a.1] a.2
  (b.1, needsM L [46] b.2)
def letM (L : List Tk) (σ : St) : St :=
  let a := nameM L σ
  let b := numberM L (needsM L [61] a.2)
  let c := needsM L [46] b.2
  { c with mis := c.mis || (look c.lets a.1).isSome, lets := (a.1, b.1) :: c.lets }
def letsM (L : List Tk) : Nat → St → St
  | 0, σ => σ
  | k + 1, σ => if isNext L [108, 101, 116] σ then letsM L k (letM L σ.next) else σ
def rulesM (L : List Tk) : Nat → List Rl → St → List Rl × St
  | 0, l, σ => (l, σ)
  | k + 1, l, σ => if isNext L [111, 110] σ then rulesM L k (l ++ [(ruleM L σ.next).1]) (needsM L [46] (ruleM L σ.next).2) else (l, σ)
def endM (L : List Tk) (σ : St) : St := if (tokAt L σ).kind = 0 then σ else failM L σ
def programM (L : List Tk) (σ : St) : Pg × St :=
  let a := startM L σ
  let b := letsM L L.length a.2
  let c := sumM L (L.length + 1) (needsM L [112, 111, 108, 105, 99, 121] b)
  let d := rulesM L L.length [] (needsM L [46] c.2)
  (⟨a.1, c.1, d.1⟩, endM L d.2)
def faultM (σ : St) : Nat := if σ.bad then 10 else if σ.mis then 12 else if σ.dbl then 11 else 0
def st0 : St := ⟨0, [], false, false, false, false⟩

/-! ### The reader stays within its tokens -/
/-- The last token is an End; there are not too many. -/
structure EndL (L : List Tk) : Prop where
  last : ∃ T, L = T ++ [tkEnd]
  few : L.length ≤ 4400
def Ok (L : List Tk) (σ : St) : Prop := σ.pos < L.length
theorem EndL.pos {L : List Tk} (h : EndL L) : 1 ≤ L.length := by obtain ⟨T, rfl⟩ := h.last; simp
theorem EndL.at {L : List Tk} (h : EndL L) {σ : St} (hp : σ.pos + 1 = L.length) : tokAt L σ = tkEnd := by
  obtain ⟨T, rfl⟩ := h.last
  have : σ.pos = T.length := by simp at hp; exact hp
  unfold tokAt
  rw [List.getD_eq_getElem?_getD, this, List.getElem?_append_right (Nat.le_refl _)]; simp
theorem tokAt_get {L : List Tk} {σ : St} (h : σ.pos < L.length) : tokAt L σ = L[σ.pos] := by
  unfold tokAt; rw [List.getD_eq_getElem?_getD, List.getElem?_eq_getElem h]; rfl
theorem EndL.next {L : List Tk} (h : EndL L) {σ : St} (ho : Ok L σ) (hn : tokAt L σ ≠ tkEnd) : Ok L σ.next := by
  show σ.pos + 1 < L.length
  have h0 : σ.pos < L.length := ho
  by_cases e : σ.pos + 1 = L.length
  · exact absurd (h.at e) hn
  · omega
theorem EndL.fail {L : List Tk} (h : EndL L) (σ : St) : Ok L (failM L σ) := by
  show L.length - 1 < L.length
  have := h.pos
  omega
theorem next_of_is {L : List Tk} (h : EndL L) {σ : St} (ho : Ok L σ) {s : List UInt8} (hs : s ≠ []) (hi : isNext L s σ = true) : Ok L σ.next := by
  refine h.next ho fun e => ?_
  have := of_decide_eq_true hi
  rw [e] at this
  exact hs this.symm
theorem next_of_num {L : List Tk} (h : EndL L) {σ : St} (ho : Ok L σ) (hi : isNum L σ = true) : Ok L σ.next := by
  refine h.next ho fun e => ?_
  have := of_decide_eq_true hi
  rw [e] at this
  exact absurd this (by decide)
theorem next_of_name {L : List Tk} (h : EndL L) {σ : St} (ho : Ok L σ) (hi : isName L σ = true) : Ok L σ.next := by
  refine h.next ho fun e => ?_
  unfold isName at hi
  rw [e] at hi
  exact absurd hi (by decide)
theorem next_of_field {L : List Tk} (h : EndL L) {σ : St} (ho : Ok L σ) (hi : isField L σ = true) : Ok L σ.next := by
  refine h.next ho fun e => ?_
  unfold isField at hi
  rw [e] at hi
  exact absurd hi (by decide)
end Go.Proofs.YtebpapmnkbehnaaDoor
