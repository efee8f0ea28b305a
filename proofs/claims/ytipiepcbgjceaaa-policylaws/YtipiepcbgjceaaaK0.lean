/- Policies whose numbers are of 16 bits; no conditions. -/
import Derived.Test.YtipiepcbgjceaaaP1
set_option linter.unusedVariables false
set_option linter.unusedSimpArgs false
namespace Go.Proofs.Ytipiepcbgjceaaa

/-- All its numbers are of 16 bits. -/
def okN : Pl → Prop
  | .mk _ _ n kids => (0 ≤ n ∧ n ≤ 65535) ∧ okL kids
  where okL : List Pl → Prop
  | [] => True
  | k :: r => okN k ∧ okL r
theorem okN_get : ∀ (kids : List Pl), okN.okL kids → ∀ i (h : i < kids.length), okN kids[i]
  | k :: r, hf, 0, _ => by rw [okN.okL] at hf; simpa using hf.1
  | k :: r, hf, i + 1, h => by
    rw [okN.okL] at hf
    simpa using okN_get r hf.2 i (by simpa using h)
theorem ok_leaf (op f : Int) (n : Nat) (h : n ≤ 65535) : okN (.mk op f n []) := by
  rw [okN]
  exact ⟨⟨by omega, by omega⟩, by rw [okN.okL]; trivial⟩
theorem okL_app : ∀ a b : List Pl, okN.okL a → okN.okL b → okN.okL (a ++ b)
  | [], b, _, h => h
  | x :: r, b, ha, hb => by
    rw [okN.okL] at ha
    rw [List.cons_append, okN.okL]
    exact ⟨ha.1, okL_app r b ha.2 hb⟩
theorem ok_one {p : Pl} (h : okN p) : okN.okL [p] := by rw [okN.okL, okN.okL]; exact ⟨h, trivial⟩
theorem okL_take : ∀ (m : Nat) (l : List Pl), okN.okL l → okN.okL (l.take m)
  | 0, l, _ => by rw [List.take_zero, okN.okL]; trivial
  | m + 1, [], _ => by rw [List.take_nil, okN.okL]; trivial
  | m + 1, x :: r, h => by
    rw [okN.okL] at h
    rw [List.take_succ_cons, okN.okL]
    exact ⟨h.1, okL_take m r h.2⟩
theorem okL_drop : ∀ (m : Nat) (l : List Pl), okN.okL l → okN.okL (l.drop m)
  | 0, l, h => h
  | m + 1, [], _ => by rw [List.drop_nil, okN.okL]; trivial
  | m + 1, x :: r, h => by
    rw [okN.okL] at h
    exact okL_drop m r h.2
theorem okL_top (op : Int) (m : Nat) (l : List Pl) (h : okN.okL l) : okN.okL (l.take m ++ [.mk op 0 0 (l.drop m)]) :=
  okL_app _ _ (okL_take m l h) (ok_one (by rw [okN]; exact ⟨⟨by omega, by omega⟩, okL_drop m l h⟩))
theorem okL_leaf (l : List Pl) (op f : Int) (n : Nat) (hn : n ≤ 65535) (h : okN.okL l) : okN.okL (l ++ [.mk op f n []]) := okL_app _ _ h (ok_one (ok_leaf op f n hn))
end Go.Proofs.Ytipiepcbgjceaaa
