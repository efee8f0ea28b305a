/- Predicates, policies in a state, and the laws of sums, sequences and nots, as a model; no conditions. -/
import Derived.Test.YtipiepcbgjceaaaL1
import Derived.Test.YtipiepcbgjceaaaK0
set_option linter.unusedVariables false
set_option linter.unusedSimpArgs false
namespace Go.Proofs.Ytipiepcbgjceaaa

/-! ### In a state -/
def atP (st : List Nat) : Pl → Pl
  | .mk op f n kids => if op = 3 then .mk (if partIs st f n = true then 1 else 0) 0 0 [] else .mk op f n (atL kids)
  where
  atL : List Pl → List Pl
  | [] => []
  | p :: r => atP st p :: atL r
theorem atP_mk (st : List Nat) (op f n : Int) (kids : List Pl) : atP st (.mk op f n kids) = if op = 3 then .mk (if partIs st f n = true then 1 else 0) 0 0 [] else .mk op f n (atP.atL st kids) := by rw [atP]
theorem atL_map (st : List Nat) : ∀ k : List Pl, atP.atL st k = k.map (atP st)
  | [] => by rw [atP.atL]; rfl
  | p :: r => by rw [atP.atL, atL_map st r]; rfl
theorem mkP_at (st st' : List Nat) : ∀ (p : Pl) (q : P8), mkP st' (atP st p) q = mkP st p q
  | .mk op f n kids, q => by
    rw [atP_mk, mkP_mk]
    by_cases h3 : op = 3
    · subst h3
      rw [if_pos rfl, mkP_mk]
      cases partIs st f n <;> simp
    · rw [if_neg h3, mkP_mk, if_neg h3, if_neg h3, fst kids q, seq kids [q], sum kids q []]
  where
  fst : ∀ (k : List Pl) (q : P8), mkP.mkFst st' (atP.atL st k) q = mkP.mkFst st k q
  | [], q => by rw [atP.atL, mkP.mkFst, mkP.mkFst]
  | p :: r, q => by rw [atP.atL, mkP.mkFst, mkP.mkFst, mkP_at st st' p q]
  seq : ∀ (k : List Pl) (l : List P8), mkP.mkSeq st' (atP.atL st k) l = mkP.mkSeq st k l
  | [], l => by rw [atP.atL, mkP.mkSeq, mkP.mkSeq]
  | p :: r, l => by
    rw [atP.atL, mkP.mkSeq, mkP.mkSeq, show (fun x => mkP st' (atP st p) x) = fun x => mkP st p x from funext fun x => mkP_at st st' p x]
    cases eachM (fun x => mkP st p x) l [] with
    | none => rfl
    | some m => exact seq r m
  sum : ∀ (k : List Pl) (q : P8) (acc : List P8), mkP.mkSum st' (atP.atL st k) q acc = mkP.mkSum st k q acc
  | [], q, acc => by rw [atP.atL, mkP.mkSum, mkP.mkSum]
  | p :: r, q, acc => by
    rw [atP.atL, mkP.mkSum, mkP.mkSum, mkP_at st st' p q]
    cases mkP st p q with
    | none => rfl
    | some m =>
      dsimp only
      rw [sum r q]
theorem at_size (st : List Nat) : ∀ p : Pl, sizeP (atP st p) ≤ sizeP p
  | .mk op f n kids => by
    rw [atP_mk]
    split
    · rw [sizeP_mk, sizeP_mk, sizeP.sizeL]; omega
    · rw [sizeP_mk, sizeP_mk]
      have := ofL kids
      omega
  where
  ofL : ∀ k : List Pl, sizeP.sizeL (atP.atL st k) ≤ sizeP.sizeL k
  | [] => by rw [atP.atL]; exact Nat.le_refl _
  | p :: r => by
    rw [atP.atL, sizeP.sizeL, sizeP.sizeL]
    have := at_size st p
    have := ofL r
    omega
theorem at_depth (st : List Nat) : ∀ p : Pl, depthP (atP st p) ≤ depthP p
  | .mk op f n kids => by
    rw [atP_mk]
    split
    · rw [depthP_mk, depthP_mk, depthP.depthL]; omega
    · rw [depthP_mk, depthP_mk]
      have := ofL kids
      omega
  where
  ofL : ∀ k : List Pl, depthP.depthL (atP.atL st k) ≤ depthP.depthL k
  | [] => by rw [atP.atL]; exact Nat.le_refl _
  | p :: r => by
    rw [atP.atL, depthP.depthL, depthP.depthL]
    have := at_depth st p
    have := ofL r
    omega
theorem at_pred (st : List Nat) : ∀ p : Pl, predP p = true → predP (atP st p) = true
  | .mk op f n kids, h => by
    rw [atP_mk]
    split
    · rw [predP]; split <;> decide
    · rw [predP] at h ⊢
      simp only [Bool.or_eq_true, Bool.and_eq_true] at h ⊢
      rcases h with h | ⟨h1, h2⟩
      · exact .inl h
      · exact .inr ⟨h1, ofL kids h2⟩
  where
  ofL : ∀ k : List Pl, predP.predL k = true → predP.predL (atP.atL st k) = true
  | [], _ => by rw [atP.atL, predP.predL]
  | p :: r, h => by
    rw [predP.predL, Bool.and_eq_true] at h
    rw [atP.atL, predP.predL, Bool.and_eq_true]
    exact ⟨at_pred st p h.1, ofL r h.2⟩
theorem formP_eq (parts op f n : Int) (kids : List Pl) : formP parts (.mk op f n kids) = (nodeB parts op f n kids && formP.formL parts kids) := by rw [formP]
theorem at_form (st : List Nat) (parts : Int) : ∀ p : Pl, formP parts p = true → formP parts (atP st p) = true
  | .mk op f n kids, h => by
    rw [formP_eq, Bool.and_eq_true] at h
    rw [atP_mk]
    split
    · rw [formP_eq, formP.formL]
      split <;> simp [nodeB]
    · rename_i h3
      rw [formP_eq, Bool.and_eq_true]
      refine ⟨?_, ofL kids h.2⟩
      have hl : (atP.atL st kids).length = kids.length := by rw [atL_map]; simp
      have h1 := h.1
      unfold nodeB at h1 ⊢
      rw [hl]
      by_cases h4 : op = 4
      · subst h4
        simp only [show ¬((4 : Int) = 0 ∨ (4 : Int) = 1) by omega, show ¬(4 : Int) = 2 by omega, show ¬(4 : Int) = 3 by omega, show ¬(4 : Int) = 5 by omega, if_false, if_true, Bool.and_eq_true] at h1 ⊢
        refine ⟨h1.1, ?_⟩
        cases kids with
        | nil => exact h1.2
        | cons p r => rw [atP.atL, pred0]; exact at_pred st p h1.2
      · simp only [if_neg h4] at h1 ⊢
        exact h1
  where
  ofL : ∀ k : List Pl, formP.formL parts k = true → formP.formL parts (atP.atL st k) = true
  | [], _ => by rw [atP.atL, formP.formL]
  | p :: r, h => by
    rw [formP.formL, Bool.and_eq_true] at h
    rw [atP.atL, formP.formL, Bool.and_eq_true]
    exact ⟨at_form st parts p h.1, ofL r h.2⟩
/-- Nothing asks the state. -/
def noSt : Pl → Prop
  | .mk op _ _ kids => op ≠ 3 ∧ noL kids
  where
  noL : List Pl → Prop
  | [] => True
  | p :: r => noSt p ∧ noL r
theorem at_noSt (st : List Nat) : ∀ p : Pl, noSt (atP st p)
  | .mk op f n kids => by
    rw [atP_mk]
    split
    · rw [noSt, noSt.noL]; exact ⟨by split <;> decide, trivial⟩
    · rename_i h; rw [noSt]; exact ⟨h, ofL kids⟩
  where
  ofL : ∀ k : List Pl, noSt.noL (atP.atL st k)
  | [] => by rw [atP.atL, noSt.noL]; trivial
  | p :: r => by rw [atP.atL, noSt.noL]; exact ⟨at_noSt st p, ofL r⟩
theorem at_ok (st : List Nat) : ∀ p : Pl, okN p → okN (atP st p)
  | .mk op f n kids, h => by
    rw [okN] at h
    rw [atP_mk]
    split
    · rw [okN, okN.okL]; exact ⟨⟨by omega, by omega⟩, trivial⟩
    · rw [okN]; exact ⟨h.1, ofL kids h.2⟩
  where
  ofL : ∀ k : List Pl, okN.okL k → okN.okL (atP.atL st k)
  | [], _ => by rw [atP.atL, okN.okL]; trivial
  | p :: r, h => by
    rw [okN.okL] at h
    rw [atP.atL, okN.okL]
    exact ⟨at_ok st p h.1, ofL r h.2⟩
end Go.Proofs.Ytipiepcbgjceaaa
