/- The numbers of what the reader's model reads are of 16 bits; so a program that was parsed has a text that is parsed as it; no conditions. -/
import Derived.Test.YtebpapmnkbehnaaGreatDoorZ7
set_option linter.unusedVariables false
set_option linter.unusedSimpArgs false
namespace Go.Proofs.YtebpapmnkbehnaaGreatDoor

/-- The names' numbers are of 16 bits. -/
def LN (σ : St) : Prop := ∀ e ∈ σ.lets, e.2 ≤ 65535
theorem LN.same {σ σ' : St} (h : LN σ) (e : σ'.lets = σ.lets) : LN σ' := by unfold LN; rw [e]; exact h
theorem look_num : ∀ (l : List (List UInt8 × Nat)) (s : List UInt8), (∀ e ∈ l, e.2 ≤ 65535) → (look l s).getD 0 ≤ 65535
  | [], s, _ => by simp [look]
  | (k, v) :: r, s, h => by
    unfold look
    split
    · exact h (k, v) (List.mem_cons_self ..)
    · exact look_num r s fun e he => h e (List.mem_cons_of_mem _ he)
theorem field_lets (L : List Tk) (σ : St) : (fieldM L σ).2.lets = σ.lets := by unfold fieldM; split <;> rfl
theorem number_num {L : List Tk} (hS : Short L) (σ : St) : (numberM L σ).1 ≤ 65535 := by
  unfold numberM
  split
  · exact (hS.at σ).2
  · simp
theorem value_lets (L : List Tk) (σ : St) : (valueM L σ).2.lets = σ.lets := by
  unfold valueM
  split
  · exact number_lets L σ
  · exact name_lets L σ
theorem value_num {L : List Tk} (hS : Short L) {σ : St} (h : LN σ) : (valueM L σ).1 ≤ 65535 := by
  unfold valueM
  split
  · exact number_num hS σ
  · refine look_num _ _ ?_
    rw [name_lets]
    exact h
theorem part_lets (L : List Tk) (s : List UInt8) (σ : St) : (partM L s σ).2.lets = σ.lets := by
  unfold partM
  rw [value_lets, needs_lets, number_lets]
theorem part_num {L : List Tk} (hS : Short L) (s : List UInt8) {σ : St} (h : LN σ) : (partM L s σ).1.2 ≤ 65535 :=
  value_num hS (h.same (by rw [needs_lets, number_lets]))

/-! ### Policies -/
def ON (g : St → Pl × St) : Prop := ∀ σ, LN σ → okN (g σ).1 ∧ (g σ).2.lets = σ.lets
theorem many_on {L : List Tk} {sign : List UInt8} {g : St → Pl × St} (hg : ON g) : ∀ (k : Nat) (acc : List Pl) (σ : St), LN σ → okN.okL acc → okN.okL (manyM L sign g k acc σ).1 ∧ (manyM L sign g k acc σ).2.lets = σ.lets
  | 0, acc, σ, _, h => ⟨h, rfl⟩
  | k + 1, acc, σ, hl, h => by
    unfold manyM
    split
    · obtain ⟨h1, h2⟩ := hg σ.next hl
      have h3 := many_on (L := L) (sign := sign) hg k (acc ++ [(g σ.next).1]) (g σ.next).2 (LN.same (σ := σ.next) hl h2) (okL_app _ _ h (ok_one h1))
      exact ⟨h3.1, h3.2.trans h2⟩
    · exact ⟨h, rfl⟩
theorem joined_ok (op : Int) (l : List Pl) (h : okN.okL l) : okN (joinedM op l) := by
  unfold joinedM
  split
  · rw [okN.okL] at h; exact h.1
  · rw [okN]; exact ⟨⟨by omega, by omega⟩, h⟩
theorem list_on {L : List Tk} {sign : List UInt8} {op : Int} {g : St → Pl × St} (hg : ON g) : ON (listM L sign op g) := by
  intro σ hl
  obtain ⟨h1, h2⟩ := hg σ hl
  have h3 := many_on (L := L) (sign := sign) hg L.length [(g σ).1] (g σ).2 (hl.same h2) (ok_one h1)
  unfold listM
  exact ⟨joined_ok op _ h3.1, h3.2.trans h2⟩
theorem atom_on {L : List Tk} (hS : Short L) {S : St → Pl × St} (hg : ON S) : ON (atomM L S) := by
  intro σ hl
  unfold atomM
  split
  · exact ⟨ok_leaf 1 0 0 (by omega), rfl⟩
  · split
    · exact ⟨ok_leaf 0 0 0 (by omega), rfl⟩
    · split
      · obtain ⟨h1, h2⟩ := hg σ.next hl
        exact ⟨h1, by rw [needs_lets, h2]; rfl⟩
      · split
        · exact ⟨ok_leaf _ _ _ (part_num hS [61] (σ := σ.next) hl), by rw [part_lets]; rfl⟩
        · split
          · exact ⟨ok_leaf _ _ _ (value_num hS (σ := (fieldM L σ).2.next) (hl.same (field_lets L σ))), by rw [value_lets]; exact field_lets L σ⟩
          · exact ⟨ok_leaf _ _ _ (value_num hS (hl.same (by rw [needs_lets]; exact field_lets L σ))), by rw [value_lets, needs_lets]; exact field_lets L σ⟩
theorem unary_on {L : List Tk} (hS : Short L) {S : St → Pl × St} (hg : ON S) : ∀ k, ON (unaryM L S k)
  | 0 => fun σ _ => ⟨ok_leaf 0 0 0 (by omega), rfl⟩
  | k + 1 => fun σ hl => by
    unfold unaryM
    split
    · obtain ⟨h1, h2⟩ := unary_on hS hg k σ.next hl
      exact ⟨by rw [okN]; exact ⟨⟨by omega, by omega⟩, ok_one h1⟩, h2⟩
    · exact atom_on hS hg σ hl
theorem sum_on {L : List Tk} (hS : Short L) : ∀ k, ON (sumM L k)
  | 0 => fun σ _ => ⟨ok_leaf 0 0 0 (by omega), rfl⟩
  | k + 1 => fun σ hl => by
    unfold sumM
    exact list_on (list_on (unary_on hS (sum_on hS k) _)) σ hl

/-! ### Rules -/
def RN (r : Rl) : Prop := (∀ c ∈ r.when, c.2 ≤ 65535) ∧ (∀ c ∈ r.guard, c.2 ≤ 65535) ∧ (∀ c ∈ r.thn, c.2 ≤ 65535)
theorem with_num (l : List Pr) (c : Pr) (σ : St) (h : ∀ x ∈ l, x.2 ≤ 65535) (hc : c.2 ≤ 65535) : ∀ x ∈ (withM l c σ).1, x.2 ≤ 65535 := by
  unfold withM
  split
  · exact h
  · intro x hx
    rcases (mem_ins l c x).1 hx with rfl | hx
    · exact hc
    · exact h x hx
theorem with_lets (l : List Pr) (c : Pr) (σ : St) : (withM l c σ).2.lets = σ.lets := by unfold withM; split <;> rfl
theorem when_num {L : List Tk} (hS : Short L) {r : Rl} {σ : St} (hl : LN σ) (h : RN r) : RN (whenM L r σ).1 ∧ (whenM L r σ).2.lets = σ.lets := by
  obtain ⟨h1, h2, h3⟩ := h
  unfold whenM
  split
  · exact ⟨⟨h1, with_num _ _ _ h2 (part_num hS [61] (σ := σ.next) hl), h3⟩, by show (withM _ _ _).2.lets = _; rw [with_lets, part_lets]; rfl⟩
  · have e : (needsM L [61] (fieldM L σ).2).lets = σ.lets := by rw [needs_lets]; exact field_lets L σ
    exact ⟨⟨with_num _ _ _ h1 (value_num hS (hl.same e)), h2, h3⟩, by show (withM _ _ _).2.lets = _; rw [with_lets, value_lets, e]⟩
theorem then_num {L : List Tk} (hS : Short L) {r : Rl} {σ : St} (hl : LN σ) (h : RN r) : RN (thenM L r σ).1 ∧ (thenM L r σ).2.lets = σ.lets := by
  obtain ⟨h1, h2, h3⟩ := h
  have e : (needsM L [64] σ).lets = σ.lets := needs_lets ..
  unfold thenM
  exact ⟨⟨h1, h2, with_num _ _ _ h3 (part_num hS [58, 61] (hl.same e))⟩, by show (withM _ _ _).2.lets = _; rw [with_lets, part_lets, e]⟩
theorem amp_num {L : List Tk} {g : Rl → St → Rl × St} (hg : ∀ r σ, LN σ → RN r → RN (g r σ).1 ∧ (g r σ).2.lets = σ.lets) : ∀ (k : Nat) (r : Rl) (σ : St), LN σ → RN r → RN (ampM L g k r σ).1 ∧ (ampM L g k r σ).2.lets = σ.lets
  | 0, r, σ, _, h => ⟨h, rfl⟩
  | k + 1, r, σ, hl, h => by
    unfold ampM
    split
    · obtain ⟨h1, h2⟩ := hg r σ.next hl h
      have h3 := amp_num (L := L) hg k _ (g r σ.next).2 (LN.same (σ := σ.next) hl h2) h1
      exact ⟨h3.1, h3.2.trans h2⟩
    · exact ⟨h, rfl⟩
theorem rule_num {L : List Tk} (hS : Short L) {σ : St} (hl : LN σ) : RN (ruleM L σ).1 ∧ (ruleM L σ).2.lets = σ.lets := by
  have a := when_num hS (r := ⟨[], [], []⟩) hl ⟨fun _ h => (by cases h), fun _ h => (by cases h), fun _ h => (by cases h)⟩
  have b := amp_num (L := L) (g := whenM L) (fun r σ h1 h2 => when_num hS h1 h2) L.length _ _ (hl.same a.2) a.1
  have e1 : (needsM L [61, 62] (ampM L (whenM L) L.length (whenM L ⟨[], [], []⟩ σ).1 (whenM L ⟨[], [], []⟩ σ).2).2).lets = σ.lets := by rw [needs_lets, b.2, a.2]
  have c := then_num hS (hl.same e1) b.1
  have d := amp_num (L := L) (g := thenM L) (fun r σ h1 h2 => then_num hS h1 h2) L.length _ _ (hl.same (c.2.trans e1)) c.1
  exact ⟨d.1, d.2.trans (c.2.trans e1)⟩
theorem rules_num {L : List Tk} (hS : Short L) : ∀ (k : Nat) (l : List Rl) (σ : St), LN σ → (∀ r ∈ l, RN r) → ∀ r ∈ (rulesM L k l σ).1, RN r
  | 0, l, σ, _, h => h
  | k + 1, l, σ, hl, h => by
    rw [rulesM_succ]
    split
    · obtain ⟨h1, h2⟩ := rule_num hS (σ := σ.next) hl
      refine rules_num hS k _ _ (LN.same (σ := σ.next) hl (by rw [needs_lets, h2])) fun r hr => ?_
      rcases List.mem_append.1 hr with hr | hr
      · exact h r hr
      · rw [List.mem_singleton] at hr; subst hr; exact h1
    · exact h

/-! ### The whole -/
theorem nums_num {L : List Tk} (hS : Short L) : ∀ (k : Nat) (l : List Nat) (σ : St), (∀ n ∈ l, n ≤ 65535) → ∀ n ∈ (numsM L k l σ).1, n ≤ 65535
  | 0, l, σ, h => h
  | k + 1, l, σ, h => by
    rw [numsM_succ]
    split
    · refine nums_num hS k _ _ fun n hn => ?_
      rcases List.mem_append.1 hn with hn | hn
      · exact h n hn
      · rw [List.mem_singleton] at hn; subst hn; exact (hS.at σ).2
    · exact h
theorem let_num {L : List Tk} (hS : Short L) {σ : St} (h : LN σ) : LN (letM L σ) := by
  have e : (needsM L [46] (numberM L (needsM L [61] (nameM L σ).2)).2).lets = σ.lets := by rw [needs_lets, number_lets, needs_lets, name_lets]
  unfold letM
  intro x hx
  rcases List.mem_cons.1 hx with rfl | hx
  · exact number_num hS _
  · exact h x (by rw [← e]; exact hx)
theorem lets_num {L : List Tk} (hS : Short L) : ∀ (k : Nat) (σ : St), LN σ → LN (letsM L k σ)
  | 0, σ, h => h
  | k + 1, σ, h => by
    rw [letsM_succ]
    split
    · exact lets_num hS k _ (let_num hS (σ := σ.next) h)
    · exact h
theorem prog_num {L : List Tk} (hS : Short L) (σ : St) (hl : LN σ) : (∀ n ∈ (programM L σ).1.init, n ≤ 65535) ∧ okN (programM L σ).1.pol ∧ ∀ r ∈ (programM L σ).1.rules, RN r := by
  have h1 : LN (startM L σ).2 := hl.same (start_lets L σ)
  have h2 := lets_num hS L.length _ h1
  have h3 : LN (needsM L [112, 111, 108, 105, 99, 121] (letsM L L.length (startM L σ).2)) := h2.same (needs_lets ..)
  have h4 := sum_on hS (L.length + 1) _ h3
  refine ⟨?_, h4.1, ?_⟩
  · exact nums_num hS L.length _ _ fun n hn => by
      rw [List.mem_singleton] at hn
      subst hn
      exact number_num hS _
  · exact rules_num hS L.length [] _ (h3.same (by rw [needs_lets]; exact h4.2)) fun r hr => by cases hr
/-- A text's program, if it is one, has numbers of 16 bits. -/
theorem parsed_n {s : List UInt8} {l : List Tk} (hl : s.length ≤ 4000) (h : lexT s (.ok l)) (h0 : parseE (.ok l) = 0) : PgN (progOf l).1 := by
  rcases h with ⟨-, h⟩ | ⟨cs, hg, rfl, hlex⟩
  · cases h
  · obtain ⟨-, hS⟩ := lex_end hg hl hlex
    obtain ⟨h1, h2, h3⟩ := prog_num hS st0 (fun e he => by cases he)
    have hc : checkM (progOf l).1 = 0 := by
      unfold parseE at h0
      dsimp only at h0
      split at h0
      · exact h0
      · exact absurd h0 ‹_›
    exact ⟨hc, h1, h2, h3⟩
end Go.Proofs.YtebpapmnkbehnaaGreatDoor
