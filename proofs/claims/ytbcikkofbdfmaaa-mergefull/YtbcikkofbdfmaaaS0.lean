/- Plain facts on the order of packets, on lists in that order, each once, and on the document's Add; no conditions of mine. -/
import Derived.Test.YtbcikkofbdfmaaaB0
import Derived.Lib.SliceRun
import Derived.Sort.WalkA
set_option linter.unusedVariables false
set_option linter.unusedSimpArgs false
namespace Go.Proofs.Ytbcikkofbdfmaaa
open Go.Sort Go.Lib

/-- A packet: eight numbers. -/
structure P8 where
  a0 : Int
  a1 : Int
  a2 : Int
  a3 : Int
  a4 : Int
  a5 : Int
  a6 : Int
  a7 : Int
def P8.l (x : P8) : List Int := [x.a0, x.a1, x.a2, x.a3, x.a4, x.a5, x.a6, x.a7]
theorem P8.len (x : P8) : x.l.length = 8 := rfl
theorem P8.inj {x y : P8} (h : x.l = y.l) : x = y := by
  cases x; cases y; simp [P8.l] at h; simp [h]

/-- The order of two rows of numbers: by the first that differs. -/
def cmpL : List Int → List Int → Int
  | a :: r, b :: s => if a < b then -1 else if b < a then 1 else cmpL r s
  | _, _ => 0
theorem cmpL_self : ∀ l : List Int, cmpL l l = 0
  | [] => rfl
  | a :: r => by rw [cmpL, if_neg (by omega), if_neg (by omega)]; exact cmpL_self r
theorem cmpL_eq : ∀ l m : List Int, l.length = m.length → cmpL l m = 0 → l = m
  | [], [], _, _ => rfl
  | a :: r, b :: s, h, h0 => by
    rw [cmpL] at h0
    split at h0
    · omega
    · split at h0
      · omega
      · rw [cmpL_eq r s (by simpa using h) h0, show a = b by omega]
theorem cmpL_neg : ∀ l m : List Int, cmpL l m = - cmpL m l
  | [], [] => rfl
  | [], _ :: _ => rfl
  | _ :: _, [] => rfl
  | a :: r, b :: s => by
    rw [cmpL, cmpL]
    by_cases h1 : a < b
    · rw [if_pos h1, if_neg (by omega), if_pos h1]
    · by_cases h2 : b < a
      · rw [if_neg h1, if_pos h2, if_pos h2]; rfl
      · rw [if_neg h1, if_neg h2, if_neg h2, if_neg h1]; exact cmpL_neg r s
theorem cmpL_trans : ∀ l m n : List Int, l.length = m.length → m.length = n.length → cmpL l m < 0 → cmpL m n < 0 → cmpL l n < 0
  | [], [], [], _, _, h, _ => by simp [cmpL] at h
  | a :: r, b :: s, c :: t, h1, h2, h3, h4 => by
    rw [cmpL] at h3 h4 ⊢
    split at h3
    · split at h4
      · rw [if_pos (by omega)]; omega
      · split at h4
        · omega
        · rw [if_pos (by omega)]; omega
    · split at h3
      · omega
      · split at h4
        · rw [if_pos (by omega)]; omega
        · split at h4
          · omega
          · rw [if_neg (by omega), if_neg (by omega)]
            exact cmpL_trans r s t (by simpa using h1) (by simpa using h2) h3 h4
theorem cmpL_range : ∀ l m : List Int, cmpL l m = -1 ∨ cmpL l m = 0 ∨ cmpL l m = 1
  | [], [] => .inr (.inl rfl)
  | [], _ :: _ => .inr (.inl rfl)
  | _ :: _, [] => .inr (.inl rfl)
  | a :: r, b :: s => by
    rw [cmpL]
    split
    · exact .inl rfl
    · split
      · exact .inr (.inr rfl)
      · exact cmpL_range r s

def cf (x y : P8) : Int := cmpL x.l y.l
theorem cf_self (x : P8) : cf x x = 0 := cmpL_self _
theorem cf_eq {x y : P8} (h : cf x y = 0) : x = y := P8.inj (cmpL_eq x.l y.l (x.len.trans y.len.symm) h)
theorem cf_neg (x y : P8) : cf x y = - cf y x := cmpL_neg _ _
theorem cf_trans {x y z : P8} (h1 : cf x y < 0) (h2 : cf y z < 0) : cf x z < 0 := cmpL_trans x.l y.l z.l (x.len.trans y.len.symm) (y.len.trans z.len.symm) h1 h2
/-- In order, each once. -/
def SS (l : List P8) : Prop := l.Pairwise fun x y => cf x y < 0
theorem ss_unique : ∀ l m : List P8, SS l → SS m → (∀ x, x ∈ l ↔ x ∈ m) → l = m
  | [], [], _, _, _ => rfl
  | [], y :: m, _, _, h => by have := (h y).2 (List.mem_cons_self ..); cases this
  | x :: l, [], _, _, h => by have := (h x).1 (List.mem_cons_self ..); cases this
  | x :: l, y :: m, h1, h2, h => by
    obtain ⟨a1, b1⟩ := List.pairwise_cons.1 h1
    obtain ⟨a2, b2⟩ := List.pairwise_cons.1 h2
    have exy : x = y := by
      rcases List.mem_cons.1 ((h x).1 (List.mem_cons_self ..)) with e | e
      · exact e
      · rcases List.mem_cons.1 ((h y).2 (List.mem_cons_self ..)) with e' | e'
        · exact e'.symm
        · have k1 := a2 x e
          have k2 := a1 y e'
          rw [cf_neg] at k1
          omega
    subst exy
    rw [ss_unique l m b1 b2 fun z => ⟨fun hz => ?_, fun hz => ?_⟩]
    · rcases List.mem_cons.1 ((h z).1 (List.mem_cons_of_mem _ hz)) with e | e
      · have := a1 z hz
        rw [e, cf_self] at this
        omega
      · exact e
    · rcases List.mem_cons.1 ((h z).2 (List.mem_cons_of_mem _ hz)) with e | e
      · have := a2 z hz
        rw [e, cf_self] at this
        omega
      · exact e
theorem ss_snoc {l : List P8} {x : P8} (h : SS l) (hx : ∀ z ∈ l, cf z x < 0) : SS (l ++ [x]) := by
  unfold SS
  rw [List.pairwise_append]
  refine ⟨h, List.pairwise_singleton _ _, fun a ha b hb => ?_⟩
  rw [List.mem_singleton] at hb
  subst hb
  exact hx a ha

/-- One round of the document's Add. -/
def addStep (p : P8) (s : List P8 × Bool) (x : P8) : List P8 × Bool :=
  ((if cf p x ≠ 0 then (if s.2 = false ∧ cf p x ≤ 0 then s.1 ++ [p] else s.1) ++ [x] else (if s.2 = false ∧ cf p x ≤ 0 then s.1 ++ [p] else s.1)), s.2 || decide (cf p x ≤ 0))
def addTo (p : P8) (l : List P8) : List P8 × Bool := l.foldl (addStep p) ([], false)
def addL (l : List P8) (p : P8) : List P8 := if (addTo p l).2 = true then (addTo p l).1 else (addTo p l).1 ++ [p]
theorem addTo_snoc (p : P8) (l : List P8) (k : Nat) (h : k < l.length) : addTo p (l.take (k + 1)) = addStep p (addTo p (l.take k)) l[k] := by
  unfold addTo; rw [List.take_succ_eq_append_getElem h, List.foldl_append]; rfl
structure AddInv (p : P8) (u r : List P8) (s : List P8 × Bool) : Prop where
  ss : SS s.1
  mem : ∀ z, z ∈ s.1 ↔ (s.2 = true ∧ z = p) ∨ z ∈ u
  low : ∀ z ∈ s.1, ∀ y ∈ r, cf z y < 0
  lt : s.2 = false → ∀ z ∈ s.1, cf z p < 0
theorem addInv_step (p x : P8) (u r : List P8) (s : List P8 × Bool) (hr : ∀ y ∈ r, cf x y < 0) (h : AddInv p u (x :: r) s) : AddInv p (u ++ [x]) r (addStep p s x) := by
  obtain ⟨out, done⟩ := s
  obtain ⟨h1, h2, h3, h4⟩ := h
  simp only at h1 h2 h3 h4
  have hx : ∀ z ∈ out, cf z x < 0 := fun z hz => h3 z hz x (List.mem_cons_self ..)
  have hr3 : ∀ z ∈ out, ∀ y ∈ r, cf z y < 0 := fun z hz y hy => h3 z hz y (List.mem_cons_of_mem _ hy)
  cases done with
  | true =>
    have hp : p ∈ out := (h2 p).2 (.inl ⟨rfl, rfl⟩)
    have hpx := hx p hp
    have e : addStep p (out, true) x = (out ++ [x], true) := by
      simp [addStep, show ¬ cf p x = 0 by omega]
    rw [e]
    refine ⟨ss_snoc h1 hx, fun z => ?_, fun z hz y hy => ?_, fun hh => by cases hh⟩
    · simp only [List.mem_append, List.mem_singleton, h2 z, or_assoc]
    · rcases List.mem_append.1 hz with k | k
      · exact hr3 z k y hy
      · rw [List.mem_singleton] at k; subst k; exact hr y hy
  | false =>
    have h4' := h4 rfl
    rcases Int.lt_trichotomy (cf p x) 0 with hc | hc | hc
    · have e : addStep p (out, false) x = (out ++ [p] ++ [x], true) := by
        simp [addStep, show ¬ cf p x = 0 by omega, show cf p x ≤ 0 by omega]
      rw [e]
      refine ⟨ss_snoc (ss_snoc h1 h4') (fun z hz => ?_), fun z => ?_, fun z hz y hy => ?_, fun hh => by cases hh⟩
      · rcases List.mem_append.1 hz with k | k
        · exact hx z k
        · rw [List.mem_singleton] at k; subst k; exact hc
      · simp only [List.mem_append, List.mem_singleton, h2 z]
        simp
        constructor
        · rintro ((a | a) | a)
          · exact .inr (.inl a)
          · exact .inl a
          · exact .inr (.inr a)
        · rintro (a | a | a)
          · exact .inl (.inr a)
          · exact .inl (.inl a)
          · exact .inr a
      · rcases List.mem_append.1 hz with k | k
        · rcases List.mem_append.1 k with k | k
          · exact hr3 z k y hy
          · rw [List.mem_singleton] at k; subst k; exact cf_trans hc (hr y hy)
        · rw [List.mem_singleton] at k; subst k; exact hr y hy
    · have e : addStep p (out, false) x = (out ++ [p], true) := by
        simp [addStep, hc]
      rw [e]
      have exp := cf_eq hc
      refine ⟨ss_snoc h1 h4', fun z => ?_, fun z hz y hy => ?_, fun hh => by cases hh⟩
      · simp only [List.mem_append, List.mem_singleton, h2 z]
        subst exp
        simp
        exact fun a => .inr a
      · rcases List.mem_append.1 hz with k | k
        · exact hr3 z k y hy
        · rw [List.mem_singleton] at k; subst k; rw [exp]; exact hr y hy
    · have e : addStep p (out, false) x = (out ++ [x], false) := by
        simp [addStep, show ¬ cf p x = 0 by omega, show ¬ cf p x ≤ 0 by omega]
      rw [e]
      refine ⟨ss_snoc h1 hx, fun z => ?_, fun z hz y hy => ?_, fun _ z hz => ?_⟩
      · simp only [List.mem_append, List.mem_singleton, h2 z]
        simp
      · rcases List.mem_append.1 hz with k | k
        · exact hr3 z k y hy
        · rw [List.mem_singleton] at k; subst k; exact hr y hy
      · rcases List.mem_append.1 hz with k | k
        · exact h4' z k
        · rw [List.mem_singleton] at k; subst k; rw [cf_neg]; omega
theorem addInv_all (p : P8) : ∀ (r u : List P8) (s : List P8 × Bool), SS r → AddInv p u r s → AddInv p (u ++ r) [] (r.foldl (addStep p) s)
  | [], u, s, _, h => by rw [List.append_nil]; exact h
  | x :: r, u, s, hs, h => by
    obtain ⟨a1, b1⟩ := List.pairwise_cons.1 hs
    have := addInv_all p r (u ++ [x]) _ b1 (addInv_step p x u r s a1 h)
    simpa using this
theorem addL_ok (l : List P8) (p : P8) (h : SS l) : SS (addL l p) ∧ ∀ z, z ∈ addL l p ↔ z ∈ l ∨ z = p := by
  have hI := addInv_all p l [] ([], false) h (AddInv.mk List.Pairwise.nil (fun z => by simp) (fun z hz => by simp at hz) (fun _ z hz => by simp at hz))
  rw [show l.foldl (addStep p) ([], false) = addTo p l from rfl] at hI
  unfold addL
  cases hd : (addTo p l).2 with
  | true =>
    rw [if_pos rfl]
    refine ⟨hI.ss, fun z => ?_⟩
    rw [hI.mem, hd]; simp
    exact Or.comm
  | false =>
    rw [if_neg (by simp)]
    refine ⟨ss_snoc hI.ss (hI.lt hd), fun z => ?_⟩
    rw [List.mem_append, hI.mem, hd]; simp
def sortL (l : List P8) : List P8 := l.foldl addL []
theorem sortL_snoc (l : List P8) (k : Nat) (h : k < l.length) : sortL (l.take (k + 1)) = addL (sortL (l.take k)) l[k] := by
  unfold sortL; rw [List.take_succ_eq_append_getElem h, List.foldl_append]; rfl
theorem sort_go : ∀ (l u : List P8), SS u → SS (l.foldl addL u) ∧ ∀ z, z ∈ l.foldl addL u ↔ z ∈ u ∨ z ∈ l
  | [], u, h => ⟨h, fun z => by simp⟩
  | x :: l, u, h => by
    have h1 := addL_ok u x h
    have h2 := sort_go l _ h1.1
    refine ⟨h2.1, fun z => ?_⟩
    rw [List.foldl_cons, h2.2, h1.2, List.mem_cons, or_assoc]
theorem sortL_ok (l : List P8) : SS (sortL l) ∧ ∀ z, z ∈ sortL l ↔ z ∈ l := by
  have := sort_go l [] List.Pairwise.nil
  refine ⟨this.1, fun z => ?_⟩
  rw [show sortL l = l.foldl addL [] from rfl, this.2]; simp
theorem addTo_len (p : P8) (l : List P8) : (addTo p l).1.length ≤ 2 * l.length := by
  unfold addTo
  have key : ∀ (l : List P8) (s : List P8 × Bool), (l.foldl (addStep p) s).1.length ≤ s.1.length + 2 * l.length := by
    intro l
    induction l with
    | nil => intro s; simp
    | cons x r ih =>
      intro s
      have h1 := ih (addStep p s x)
      have h2 : (addStep p s x).1.length ≤ s.1.length + 2 := by
        simp only [addStep]
        split <;> split <;> simp
      rw [List.foldl_cons, List.length_cons]
      omega
  have := key l ([], false)
  simpa using this
end Go.Proofs.Ytbcikkofbdfmaaa
