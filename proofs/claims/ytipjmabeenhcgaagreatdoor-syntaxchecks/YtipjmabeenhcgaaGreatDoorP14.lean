/- What the reader's program answers, where pairs are put at a list's end; no conditions but that the reader stands. -/
import Derived.Test.YtipjmabeenhcgaaGreatDoorP13
import Derived.Test.YtipjmabeenhcgaaGreatDoorP11
set_option linter.unusedVariables false
set_option linter.unusedSimpArgs false
namespace Go.Proofs.YtipjmabeenhcgaaGreatDoor
open Go.RowKit Go.Joins

theorem info51 : (Tryz.prog.info? 51).map (fun i => (i.zero, i.size, i.bytes)) = some (some (.agg #[.slice none 0 0, .slice none 0 0, .slice none 0 0]), 3, 72) := by kernel_rfl
abbrev nd0 : Nd := ⟨0, 0, 0, .slice none 0 0⟩
abbrev gz : Obj := gobj (.slice none 0 0) nd0 (.slice none 0 0)
/-! ### Lets -/
theorem up_let {L : List Tk} (hL : EndL L) {σ : St} (h : Ok L σ) : Up L σ (letM L σ) := by
  unfold letM
  have h1 := up_name hL h
  have h2 := h1.trans (up_needs hL (s := [61]) (by decide) h1.2)
  have h3 := h2.trans (up_number hL h2.2)
  have h4 := h3.trans (up_needs hL (s := [46]) (by decide) h3.2)
  exact h4
theorem let_mid (L : List Tk) (σ : St) : (letM L σ).mid = σ.mid := by
  unfold letM
  show (needsM L [46] (numberM L (needsM L [61] (nameM L σ).2)).2).mid = σ.mid
  rw [needs_mid, number_mid, needs_mid, name_mid]
theorem needs_lets (L : List Tk) (s : List UInt8) (σ : St) : (needsM L s σ).lets = σ.lets := by unfold needsM; split <;> rfl
theorem number_lets (L : List Tk) (σ : St) : (numberM L σ).2.lets = σ.lets := by unfold numberM; split <;> rfl
theorem name_lets (L : List Tk) (σ : St) : (nameM L σ).2.lets = σ.lets := by unfold nameM; split <;> rfl
theorem let_lets (L : List Tk) (σ : St) : (letM L σ).lets.length = σ.lets.length + 1 := by
  have e : (needsM L [46] (numberM L (needsM L [61] (nameM L σ).2)).2).lets = σ.lets := by rw [needs_lets, number_lets, needs_lets, name_lets]
  show (_ :: (needsM L [46] (numberM L (needsM L [61] (nameM L σ).2)).2).lets).length = _
  rw [e, List.length_cons]
theorem start_lets (L : List Tk) (σ : St) : (startM L σ).2.lets = σ.lets := by
  have hn : ∀ (k : Nat) (l : List Nat) (σ : St), (numsM L k l σ).2.lets = σ.lets := by
    intro k
    induction k with
    | zero => intro l σ; rfl
    | succ k ih =>
      intro l σ
      rw [numsM_succ]
      split
      · rw [ih]; rfl
      · rfl
  unfold startM
  show (needsM L [46] (numsM L L.length [_] _).2).lets = _
  rw [needs_lets, hn, number_lets, needs_lets]
theorem start_mid (L : List Tk) (σ : St) : (startM L σ).2.mid = σ.mid := by
  have hn : ∀ (k : Nat) (l : List Nat) (σ : St), (numsM L k l σ).2.mid = σ.mid := by
    intro k
    induction k with
    | zero => intro l σ; rfl
    | succ k ih =>
      intro l σ
      rw [numsM_succ]
      split
      · rw [ih]; rfl
      · rfl
  unfold startM
  show (needsM L [46] (numsM L L.length [_] _).2).mid = _
  rw [needs_mid, hn, number_mid, needs_mid]
theorem up_start {L : List Tk} (hL : EndL L) {σ : St} (h : Ok L σ) : Up L σ (startM L σ).2 := by
  have h1 := up_needs hL (s := [105, 110, 105, 116]) (by decide) h
  have h2 := h1.trans (up_number hL h1.2)
  have h3 := h2.trans (up_nums hL L.length [(numberM L (needsM L [105, 110, 105, 116] σ)).1] _ h2.2)
  exact h3.trans (up_needs hL (s := [46]) (by decide) h3.2)
theorem letsM_succ (L : List Tk) (k : Nat) (σ : St) : letsM L (k + 1) σ = if isNext L [108, 101, 116] σ then letsM L k (letM L σ.next) else σ := rfl
theorem letsM_stop (L : List Tk) (k : Nat) (σ : St) (h : isNext L [108, 101, 116] σ = false) : letsM L k σ = σ := by
  cases k with
  | zero => rfl
  | succ k => rw [letsM_succ, if_neg (by rw [h]; decide)]
theorem lets_mid (L : List Tk) : ∀ (k : Nat) (σ : St), (letsM L k σ).mid = σ.mid
  | 0, σ => rfl
  | k + 1, σ => by
    rw [letsM_succ]
    split
    · rw [lets_mid L k, let_mid]; rfl
    · rfl
theorem up_lets {L : List Tk} (hL : EndL L) : ∀ (k : Nat) (σ : St), Ok L σ → Up L σ (letsM L k σ)
  | 0, σ, h => ⟨Nat.le_refl _, h⟩
  | k + 1, σ, h => by
    rw [letsM_succ]
    split
    · have h1 := next_of_is (s := [108, 101, 116]) hL h (by decide) ‹_›
      have h2 := (up_next h1).trans (up_let hL h1)
      exact h2.trans (up_lets hL k _ h2.2)
    · exact ⟨Nat.le_refl _, h⟩
end Go.Proofs.YtipjmabeenhcgaaGreatDoor
