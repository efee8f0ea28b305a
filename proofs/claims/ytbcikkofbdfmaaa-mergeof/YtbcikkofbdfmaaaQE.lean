/- A region that draws its order, walked in every order at once: each operation is looked at once, by what stands in the slots that it waits for; what stands there holds on in every later world. -/
import Derived.Orders
set_option linter.unusedVariables false
set_option linter.unusedSimpArgs false
namespace Go.Proofs.Ytbcikkofbdfmaaa
open Go

/-- Each operation waits for earlier ones alone. -/
def backB (md : Region.Mode) : Nat → List Oper → Bool
  | _, [] => true
  | i, o :: l => (o.after.all fun e => !Region.binds md e || decide (e.on < i)) && backB md (i + 1) l
/-- No slot is set twice. -/
def onceB : List Oper → Nat → Bool
  | [], _ => true
  | o :: l, m => match o.dst with
    | none => onceB l m
    | some d => !m.testBit d && onceB l (m ||| 2 ^ d)
/-- The slots that are set are there. -/
def withinB (n : Nat) (l : List Oper) : Bool := l.all fun o => match o.dst with | none => true | some d => decide (d < n)
/-- An operation waits for one that sets this slot. -/
def waitsB (md : Region.Mode) (ops : Array Oper) (o : Oper) (t : Nat) : Bool := o.after.any fun e => Region.binds md e && ((ops[e.on]?).bind (·.dst) == some t)
/-- No operation sets this slot. -/
def freeB (ops : Array Oper) (t : Nat) : Bool := ops.all fun o => o.dst != some t

/-- What sets this slot waits for operation i, if anything does. -/
def lateB (md : Region.Mode) (ops : Array Oper) (i t : Nat) : Bool := ops.all fun o => o.dst != some t || o.after.any fun e => Region.binds md e && e.on == i

theorem backB_spec {md : Region.Mode} : ∀ (l : List Oper) (i : Nat), backB md i l = true → ∀ (j : Nat) (o : Oper), l[j]? = some o → ∀ e ∈ o.after, Region.binds md e = true → e.on < i + j
  | [], _, _, j, o, h, _, _, _ => by simp at h
  | p :: l, i, hb, j, o, h, e, he, hm => by
    unfold backB at hb
    rw [Bool.and_eq_true] at hb
    cases j with
    | zero =>
      simp only [List.getElem?_cons_zero, Option.some.injEq] at h
      subst h
      have h1 := hb.1
      rw [Array.all_eq_true'] at h1
      have := h1 e he
      simpa [hm] using this
    | succ j =>
      rw [List.getElem?_cons_succ] at h
      have := backB_spec l (i + 1) hb.2 j o h e he hm
      omega
theorem onceB_spec : ∀ (l : List Oper) (m : Nat), onceB l m = true → (∀ (i : Nat) (o : Oper) (d : Nat), l[i]? = some o → o.dst = some d → m.testBit d = false) ∧ (∀ (i j : Nat) (o p : Oper) (d : Nat), l[i]? = some o → l[j]? = some p → o.dst = some d → p.dst = some d → i = j)
  | [], m, _ => ⟨fun i o d h => by simp at h, fun i j o p d h => by simp at h⟩
  | q :: l, m, h => by
    unfold onceB at h
    cases hq : q.dst with
    | none =>
      rw [hq] at h
      obtain ⟨h1, h2⟩ := onceB_spec l m h
      refine ⟨fun i o d hi hd => ?_, fun i j o p d hi hj hd hp => ?_⟩
      · cases i with
        | zero => simp only [List.getElem?_cons_zero, Option.some.injEq] at hi; subst hi; rw [hq] at hd; cases hd
        | succ i => rw [List.getElem?_cons_succ] at hi; exact h1 i o d hi hd
      · cases i with
        | zero => simp only [List.getElem?_cons_zero, Option.some.injEq] at hi; subst hi; rw [hq] at hd; cases hd
        | succ i =>
          cases j with
          | zero => simp only [List.getElem?_cons_zero, Option.some.injEq] at hj; subst hj; rw [hq] at hp; cases hp
          | succ j =>
            rw [List.getElem?_cons_succ] at hi hj
            rw [h2 i j o p d hi hj hd hp]
    | some c =>
      rw [hq] at h
      simp only [Bool.and_eq_true, Bool.not_eq_true'] at h
      obtain ⟨h1, h2⟩ := onceB_spec l (m ||| 2 ^ c) h.2
      have ne : ∀ (i : Nat) (o : Oper) (d : Nat), l[i]? = some o → o.dst = some d → m.testBit d = false ∧ c ≠ d := fun i o d hi hd => by
        have := h1 i o d hi hd
        rw [Nat.testBit_or, Bool.or_eq_false_iff, Nat.testBit_two_pow] at this
        exact ⟨this.1, by simpa using this.2⟩
      refine ⟨fun i o d hi hd => ?_, fun i j o p d hi hj hd hp => ?_⟩
      · cases i with
        | zero => simp only [List.getElem?_cons_zero, Option.some.injEq] at hi; subst hi; rw [hq] at hd; injection hd with hd; subst hd; exact h.1
        | succ i => rw [List.getElem?_cons_succ] at hi; exact (ne i o d hi hd).1
      · cases i with
        | zero =>
          simp only [List.getElem?_cons_zero, Option.some.injEq] at hi
          subst hi
          rw [hq] at hd
          injection hd with hd
          subst hd
          cases j with
          | zero => rfl
          | succ j => rw [List.getElem?_cons_succ] at hj; exact absurd rfl (ne j p c hj hp).2
        | succ i =>
          cases j with
          | zero =>
            simp only [List.getElem?_cons_zero, Option.some.injEq] at hj
            subst hj
            rw [hq] at hp
            injection hp with hp
            subst hp
            rw [List.getElem?_cons_succ] at hi
            exact absurd rfl (ne i o c hi hd).2
          | succ j =>
            rw [List.getElem?_cons_succ] at hi hj
            rw [h2 i j o p d hi hj hd hp]

section
variable {P : Program} {ops : Array Oper} {md : Region.Mode} {Q : Exit → Act → World → Prop}

/-- What is known of a slot holds of what stands there. -/
def Slot (F : Nat → Value → World → Prop) (a : Act) (w : World) (d : Nat) : Prop := ∃ v, a.tmps[d]? = some v ∧ F d v w
theorem Slot.eval {F : Nat → Value → World → Prop} {a : Act} {w : World} {d : Nat} (h : Slot F a w d) : ∃ v, a.eval (.tmp d) = v ∧ F d v w := by
  obtain ⟨v, h1, h2⟩ := h
  refine ⟨v, ?_, h2⟩
  unfold Act.eval
  simp [h1]
/-- An operation has been done. -/
def Done (ops : Array Oper) (F : Nat → Value → World → Prop) (a : Act) (w : World) (j : Nat) : Prop := ∀ o d, ops[j]? = some o → o.dst = some d → Slot F a w d
/-- The slots that no operation sets are as they were. -/
def Old (ops : Array Oper) (a0 a : Act) : Prop := a.tmps.size = a0.tmps.size ∧ a.defers = a0.defers ∧ ∀ s : Nat, freeB ops s = true → a.tmps[s]? = a0.tmps[s]?
theorem Old.refl (ops : Array Oper) (a : Act) : Old ops a a := ⟨rfl, rfl, fun _ _ => rfl⟩
theorem Old.eval {a0 a : Act} (h : Old ops a0 a) {s : Nat} (hs : freeB ops s = true) : a.eval (.tmp s) = a0.eval (.tmp s) := by
  unfold Act.eval
  simp only [Array.getD_eq_getD_getElem?, h.2.2 s hs]
theorem fold_is {u : Array Value} : ∀ (ds : List Nat) (t : Array Value), t.size = u.size → (∀ i : Nat, i < u.size → i ∉ ds → t[i]? = u[i]?) → ds.foldl (fun t d => t.setIfInBounds d (u.getD d undef)) t = u
  | [], t, hs, h => by
    show t = u
    refine Array.ext hs fun i h1 h2 => ?_
    have := h i h2 (by simp)
    rw [Array.getElem?_eq_getElem h1, Array.getElem?_eq_getElem h2] at this
    exact Option.some.inj this
  | d :: ds, t, hs, h => by
    rw [List.foldl_cons]
    refine fold_is ds _ (by simpa using hs) fun i hi hn => ?_
    by_cases hd : d = i
    · subst hd
      simp [hi, show d < t.size by omega]
    · rw [Array.getElem?_setIfInBounds_ne hd]
      exact h i hi (by simp only [List.mem_cons, not_or]; exact ⟨fun e => hd e.symm, hn⟩)
/-- The slots behind a region, written out. -/
theorem Old.lit {a0 a : Act} (h : Old ops a0 a) (ds : List Nat) (hall : (List.range a0.tmps.size).all (fun s => freeB ops s || ds.contains s) = true) : a = { tmps := ds.foldl (fun t d => t.setIfInBounds d (a.tmps.getD d undef)) a0.tmps, defers := a0.defers } := by
  obtain ⟨h1, h2, h3⟩ := h
  obtain ⟨tm, df⟩ := a
  dsimp only at h1 h2 h3 ⊢
  rw [fold_is ds a0.tmps h1.symm fun i hi hn => ?_, h2]
  rw [List.all_eq_true] at hall
  have := hall i (List.mem_range.2 (by omega))
  rw [Bool.or_eq_true] at this
  rcases this with hf | hf
  · exact (h3 i hf).symm
  · exact absurd (by simpa using hf) hn
theorem Slot.getD {F : Nat → Value → World → Prop} {a : Act} {w : World} {d : Nat} (h : Slot F a w d) : ∃ v, a.tmps.getD d undef = v ∧ F d v w := by
  obtain ⟨v, h1, h2⟩ := h
  exact ⟨v, by simp [h1], h2⟩
/-- The slots that nothing sets ahead of operation i are as they were. -/
def OldAt (md : Region.Mode) (ops : Array Oper) (i : Nat) (a0 a : Act) : Prop := a.tmps.size = a0.tmps.size ∧ a.defers = a0.defers ∧ ∀ s : Nat, lateB md ops i s = true → a.tmps[s]? = a0.tmps[s]?
theorem OldAt.eval {md : Region.Mode} {i : Nat} {a0 a : Act} (h : OldAt md ops i a0 a) {s : Nat} (hs : lateB md ops i s = true) : a.eval (.tmp s) = a0.eval (.tmp s) := by
  unfold Act.eval
  simp only [Array.getD_eq_getD_getElem?, h.2.2 s hs]
/-- The slots that nothing has set yet are as they were. -/
def Kept (ops : Array Oper) (listed : Array Bool) (a0 a : Act) : Prop := a.tmps.size = a0.tmps.size ∧ a.defers = a0.defers ∧ ∀ s : Nat, (∀ (j : Nat) (o : Oper), listed[j]? = some true → ops[j]? = some o → o.dst ≠ some s) → a.tmps[s]? = a0.tmps[s]?
/-- What is done waited for what was done. -/
def Shut (md : Region.Mode) (ops : Array Oper) (listed : Array Bool) : Prop := ∀ (j : Nat) (o : Oper), listed[j]? = some true → ops[j]? = some o → ∀ e ∈ o.after, Region.binds md e = true → listed[e.on]? = some true
/-- One operation's step. -/
def StepAt (P : Program) (md : Region.Mode) (ops : Array Oper) (Q : Exit → Act → World → Prop) (B : World → Prop) (G : World → World → Prop) (F : Nat → Value → World → Prop) (a0 : Act) (i : Nat) (o : Oper) : Prop :=
  ∀ a w, B w → OldAt md ops i a0 a → (∀ t, waitsB md ops o t = true → Slot F a w t) →
    wpOp P ops Q i (fun a' w' => G w w' ∧ ∃ v, a' = a.put o.dst v ∧ ∀ d, o.dst = some d → F d v w') a w
def StepsFrom (P : Program) (md : Region.Mode) (ops : Array Oper) (Q : Exit → Act → World → Prop) (B : World → Prop) (G : World → World → Prop) (F : Nat → Value → World → Prop) (a0 : Act) : Nat → List Oper → Prop
  | _, [] => True
  | i, o :: l => StepAt P md ops Q B G F a0 i o ∧ StepsFrom P md ops Q B G F a0 (i + 1) l
theorem StepsFrom.get {B : World → Prop} {G : World → World → Prop} {F : Nat → Value → World → Prop} {a0 : Act} : ∀ (l : List Oper) (i : Nat), StepsFrom P md ops Q B G F a0 i l → ∀ (j : Nat) (o : Oper), l[j]? = some o → StepAt P md ops Q B G F a0 (i + j) o
  | [], _, _, j, o, h => by simp at h
  | p :: l, i, hs, j, o, h => by
    cases j with
    | zero => simp only [List.getElem?_cons_zero, Option.some.injEq] at h; subst h; exact hs.1
    | succ j =>
      rw [List.getElem?_cons_succ] at h
      have := StepsFrom.get l (i + 1) hs.2 j o h
      rwa [show i + 1 + j = i + (j + 1) by omega] at this

def todoL : List Bool → Nat
  | [] => 0
  | b :: l => (if b then 0 else 1) + todoL l
theorem todoL_set : ∀ (l : List Bool) (i : Nat), l[i]? = some false → todoL (l.set i true) + 1 = todoL l
  | [], i, h => by simp at h
  | b :: l, 0, h => by
    simp only [List.getElem?_cons_zero, Option.some.injEq] at h
    subst h
    simp [todoL]
    omega
  | b :: l, i + 1, h => by
    rw [List.getElem?_cons_succ] at h
    have := todoL_set l i h
    simp only [List.set_cons_succ, todoL]
    omega
theorem todoL_zero : ∀ (l : List Bool) (i : Nat), todoL l = 0 → l[i]? ≠ some false
  | [], i, _ => by simp
  | b :: l, i, h => by
    unfold todoL at h
    cases i with
    | zero => cases b with | true => simp | false => simp at h
    | succ i => rw [List.getElem?_cons_succ]; exact todoL_zero l i (by omega)
theorem todoL_rep : ∀ n : Nat, todoL (List.replicate n false) = n
  | 0 => rfl
  | n + 1 => by rw [List.replicate_succ]; unfold todoL; rw [todoL_rep n]; simp; omega

theorem none_ready {listed : Array Bool} (hback : backB md 0 ops.toList = true) (hsz : listed.size = ops.size) (hr : Region.ready md ops listed = []) : ∀ (j : Nat), listed[j]? ≠ some false := by
  intro j
  induction j using Nat.strongRecOn with
  | ind j ih =>
    intro hj
    have hlt : j < listed.size := by
      rcases Nat.lt_or_ge j listed.size with h | h
      · exact h
      · rw [Array.getElem?_eq_none h] at hj; cases hj
    obtain ⟨o, ho⟩ : ∃ o, ops[j]? = some o := ⟨ops[j]'(by omega), by simp [show j < ops.size by omega]⟩
    have : j ∈ Region.ready md ops listed := by
      rw [mem_ready]
      refine ⟨by simp [hj], o, ho, fun e he hm => ?_⟩
      have hb := backB_spec ops.toList 0 hback j o (by simpa using ho) e he hm
      have h2 : e.on < listed.size := by omega
      have h3 := ih e.on (by omega)
      simp only [Array.getElem?_eq_getElem h2, ne_eq, Option.some.injEq, Bool.not_eq_false] at h3
      simp [h2, h3]
    rw [hr] at this
    cases this

theorem any_slots {B : World → Prop} {G : World → World → Prop} {F : Nat → Value → World → Prop} {a0 : Act} (hF : ∀ d v w w', G w w' → F d v w → F d v w') (hB : ∀ w w', G w w' → B w → B w')
    (hback : backB md 0 ops.toList = true) (honce : onceB ops.toList 0 = true) (hin : withinB a0.tmps.size ops.toList = true) (hs : StepsFrom P md ops Q B G F a0 0 ops.toList)
    (fin : ∀ a w, B w → Old ops a0 a → (∀ j, Done ops F a w j) → Q .normal a w) :
    ∀ (fuel : Nat) (listed : Array Bool) (a : Act) (w : World), listed.size = ops.size → todoL listed.toList ≤ fuel → B w → Kept ops listed a0 a → Shut md ops listed → (∀ (j : Nat), listed[j]? = some true → Done ops F a w j) → wpAny P md ops Q fuel listed a w := by
  have all_of : ∀ (listed : Array Bool) (a : Act) (w : World), listed.size = ops.size → (∀ (j : Nat), listed[j]? ≠ some false) → (∀ (j : Nat), listed[j]? = some true → Done ops F a w j) → ∀ j, Done ops F a w j := by
    intro listed a w hsz hn hd j
    by_cases hj : j < listed.size
    · refine hd j ?_
      have := hn j
      simp only [Array.getElem?_eq_getElem hj, ne_eq, Option.some.injEq, Bool.not_eq_false] at this
      simp [hj, this]
    · intro o d ho
      rw [Array.getElem?_eq_none (by omega)] at ho
      cases ho
  have old_of : ∀ (listed : Array Bool) (a : Act), Kept ops listed a0 a → Old ops a0 a := fun listed a h => ⟨h.1, h.2.1, fun s hs => h.2.2 s fun j o _ hj hd => by
    unfold freeB at hs
    rw [Array.all_eq_true'] at hs
    have := hs o (Array.mem_of_getElem? hj)
    rw [hd] at this
    simp at this⟩
  intro fuel
  induction fuel with
  | zero =>
    intro listed a w hsz ht hb ho hsh hd
    have hn : ∀ (j : Nat), listed[j]? ≠ some false := fun j => by rw [← Array.getElem?_toList]; exact todoL_zero _ j (by omega)
    refine ⟨?_, fin a w hb (old_of listed a ho) (all_of listed a w hsz hn hd)⟩
    cases hr : Region.ready md ops listed with
    | nil => rfl
    | cons i l =>
      have hi : i ∈ Region.ready md ops listed := by rw [hr]; exact List.mem_cons_self ..
      obtain ⟨h0, o, hoi, -⟩ := mem_ready.1 hi
      have hlt : i < ops.size := by
        rcases Nat.lt_or_ge i ops.size with h | h
        · exact h
        · rw [Array.getElem?_eq_none h] at hoi; cases hoi
      have hlt' : i < listed.size := by omega
      exact absurd (by simpa [hlt'] using h0 : listed[i] = false) (by have := hn i; simpa [hlt'] using this)
  | succ fuel ih =>
    intro listed a w hsz ht hb ho hsh hd
    refine ⟨fun hr => fin a w hb (old_of listed a ho) (all_of listed a w hsz (none_ready hback hsz hr) hd), fun i hi => ?_⟩
    obtain ⟨h0, o, hoi, hall⟩ := mem_ready.1 hi
    have hlt : i < ops.size := by
      rcases Nat.lt_or_ge i ops.size with h | h
      · exact h
      · rw [Array.getElem?_eq_none h] at hoi; cases hoi
    have hlt' : i < listed.size := by omega
    have hfalse : listed[i]? = some false := by simpa [hlt'] using h0
    have hst := StepsFrom.get ops.toList 0 hs i o (by simpa using hoi)
    rw [Nat.zero_add] at hst
    have hwait : ∀ t, waitsB md ops o t = true → Slot F a w t := by
      intro t hw
      unfold waitsB at hw
      rw [Array.any_eq_true'] at hw
      obtain ⟨e, he, hw⟩ := hw
      rw [Bool.and_eq_true] at hw
      have hl := hall e he hw.1
      have hlt2 : e.on < listed.size := by
        rcases Nat.lt_or_ge e.on listed.size with h | h
        · exact h
        · simp [Array.getElem?_eq_none h] at hl
      have hdone := hd e.on (by simpa [hlt2] using hl)
      have hw2 := hw.2
      cases hoe : ops[e.on]? with
      | none => rw [hoe] at hw2; simp at hw2
      | some oe =>
        rw [hoe] at hw2
        exact hdone oe t hoe (by simpa using hw2)
    have hold : OldAt md ops i a0 a := ⟨ho.1, ho.2.1, fun s hs => ho.2.2 s fun j p hj hp hd => by
      unfold lateB at hs
      rw [Array.all_eq_true'] at hs
      have hl := hs p (Array.mem_of_getElem? hp)
      rw [hd] at hl
      simp only [bne_self_eq_false, Bool.false_or] at hl
      rw [Array.any_eq_true'] at hl
      obtain ⟨e, he, hl⟩ := hl
      rw [Bool.and_eq_true] at hl
      have h1 := hsh j p hj hp e he hl.1
      have h2 : e.on = i := by simpa using hl.2
      rw [h2, hfalse] at h1
      cases h1⟩
    refine wpOp_mono ?_ (hst a w hb hold hwait)
    rintro a' w' ⟨hg, v, rfl, hfv⟩
    have hon := (onceB_spec ops.toList 0 honce).2
    refine ih _ _ _ (by simpa using hsz) ?_ (hB _ _ hg hb) ?_ ?_ ?_
    · have := todoL_set listed.toList i (by simpa using hfalse)
      rw [Array.toList_setIfInBounds]
      omega
    · obtain ⟨o1, o2, o3⟩ := ho
      have hset : ∀ (j : Nat), listed[j]? = some true → (listed.setIfInBounds i true)[j]? = some true := fun j hj => by
        by_cases hij : i = j
        · subst hij; simp [hlt']
        · rw [Array.getElem?_setIfInBounds_ne hij]; exact hj
      cases hdst : o.dst with
      | none => exact ⟨o1, o2, fun s hs => o3 s fun j p hj hp => hs j p (hset j hj) hp⟩
      | some d =>
        refine ⟨by simpa [Act.put] using o1, o2, fun s hs => ?_⟩
        have hne : d ≠ s := fun h => hs i o (by simp [hlt']) hoi (by rw [hdst, h])
        simp only [Act.put, Array.getElem?_setIfInBounds_ne hne]
        exact o3 s fun j p hj hp => hs j p (hset j hj) hp
    · intro j p hj hp e he hm
      have hset : ∀ (j : Nat), listed[j]? = some true → (listed.setIfInBounds i true)[j]? = some true := fun j hj => by
        by_cases hij : i = j
        · subst hij; simp [hlt']
        · rw [Array.getElem?_setIfInBounds_ne hij]; exact hj
      by_cases hij : i = j
      · subst hij
        rw [hoi] at hp
        injection hp with hp
        subst hp
        have hl := hall e he hm
        refine hset _ ?_
        rcases Nat.lt_or_ge e.on listed.size with h | h
        · simpa [h] using hl
        · simp [Array.getElem?_eq_none h] at hl
      · rw [Array.getElem?_setIfInBounds_ne hij] at hj
        exact hset _ (hsh j p hj hp e he hm)
    · intro j hj oj d hoj hdj
      by_cases hij : i = j
      · subst hij
        rw [hoi] at hoj
        injection hoj with hoj
        subst hoj
        have hdlt : d < a.tmps.size := by
          unfold withinB at hin
          rw [List.all_eq_true] at hin
          have := hin o (List.mem_of_getElem? (i := i) (by simpa using hoi))
          rw [hdj] at this
          rw [ho.1]
          simpa using this
        rw [hdj]
        refine ⟨v, ?_, hfv d hdj⟩
        simp [Act.put, hdlt]
      · have hj2 : listed[j]? = some true := by
          rw [Array.getElem?_setIfInBounds_ne hij] at hj
          exact hj
        obtain ⟨u, h1, h2⟩ := hd j hj2 oj d hoj hdj
        refine ⟨u, ?_, hF _ _ _ _ hg h2⟩
        cases hdst : o.dst with
        | none => exact h1
        | some c =>
          have hne : c ≠ d := fun h => hij (hon i j o oj d (by simpa using hoi) (by simpa using hoj) (by rw [hdst, h]) hdj)
          simp only [Act.put, Array.getElem?_setIfInBounds_ne hne]
          exact h1

theorem region_slots {id : Nat} {a0 : Act} {w : World} (B : World → Prop) (G : World → World → Prop) (F : Nat → Value → World → Prop) (hm : P.follows .mixedOrders = true) (hF : ∀ d v w w', G w w' → F d v w → F d v w') (hB : ∀ w w', G w w' → B w → B w')
    (hback : backB .any 0 ops.toList = true) (honce : onceB ops.toList 0 = true) (hin : withinB a0.tmps.size ops.toList = true) (hw : B { w with drawn := w.drawn + 1 })
    (hs : StepsFrom P .any ops Q B G F a0 0 ops.toList) (fin : ∀ a w, B w → Old ops a0 a → (∀ j, Done ops F a w j) → Q .normal a w) : (Code.region id ops true).wp P Q a0 w := by
  refine wp_region_any hm (any_slots hF hB hback honce hin hs fin _ _ _ _ (by simp) ?_ hw ⟨rfl, rfl, fun _ _ => rfl⟩ (fun j o hj => ?_) fun j hj => ?_)
  · rw [Array.toList_replicate, todoL_rep]; exact Nat.le_refl _
  · rw [Array.getElem?_replicate] at hj
    split at hj <;> cases hj
  · rw [Array.getElem?_replicate] at hj
    split at hj <;> cases hj

/-- An operation that yields a value and makes the world grow. -/
theorem step_value {B : World → Prop} {G : World → World → Prop} {F : Nat → Value → World → Prop} {a0 : Act} {i : Nat} {o : Oper} (hi : ops[i]? = some o)
    (hg : ∀ a w, OldAt md ops i a0 a → (∀ t, waitsB md ops o t = true → Slot F a w t) → Region.wanted o (yielded ops a.tmps) = true)
    (h : ∀ a w, B w → OldAt md ops i a0 a → (∀ t, waitsB md ops o t = true → Slot F a w t) → ∃ v w', (execOp a.eval o).run P w = .ok (.value v) w' ∧ G w w' ∧ ∀ d, o.dst = some d → F d v w') : StepAt P md ops Q B G F a0 i o := by
  intro a w hb ho hd
  obtain ⟨v, w', h1, h2, h3⟩ := h a w hb ho hd
  unfold wpOp
  simp only [hi, hg a w ho hd, if_true]
  refine .inl ?_
  unfold Oper.wp
  rw [h1]
  exact ⟨h2, v, rfl, h3⟩
/-- An operation that calls a function. -/
theorem step_call {B : World → Prop} {G : World → World → Prop} {F : Nat → Value → World → Prop} {a0 : Act} {i : Nat} {o : Oper} (f : Nat) (hi : ops[i]? = some o)
    (hg : ∀ a w, OldAt md ops i a0 a → (∀ t, waitsB md ops o t = true → Slot F a w t) → Region.wanted o (yielded ops a.tmps) = true)
    (h : ∀ a w, B w → OldAt md ops i a0 a → (∀ t, waitsB md ops o t = true → Slot F a w t) → ∃ args, (execOp a.eval o).run P w = .ok (.enter f args) w ∧ Calls P f args w fun e w'' => ∃ v, e = .returned v ∧ G w w'' ∧ ∀ d, o.dst = some d → F d v w'') : StepAt P md ops Q B G F a0 i o := by
  intro a w hb ho hd
  obtain ⟨args, h1, h2⟩ := h a w hb ho hd
  unfold wpOp
  simp only [hi, hg a w ho hd, if_true]
  refine .inl ?_
  unfold Oper.wp
  rw [h1]
  refine Calls.mono h2 ?_
  rintro e w'' ⟨v, rfl, h3, h4⟩
  exact ⟨h3, v, rfl, h4⟩
/-- Nothing guards it. -/
theorem wanted_free {F : Nat → Value → World → Prop} {a0 : Act} {i : Nat} {o : Oper} (hn : o.guard = none) : ∀ (a : Act) (w : World), OldAt md ops i a0 a → (∀ t, waitsB md ops o t = true → Slot F a w t) → Region.wanted o (yielded ops a.tmps) = true := fun a w _ _ => by
  unfold Region.wanted
  rw [hn]
/-- It is guarded by a slot that holds what is wanted. -/
theorem wanted_by {F : Nat → Value → World → Prop} {a0 : Act} {i : Nat} {o : Oper} {g : Nat} {b : Bool} (d : Nat) (hn : o.guard = some (g, b)) (hgd : (ops[g]?).bind (·.dst) = some d) (hw : waitsB md ops o d = true) (hv : ∀ v w, F d v w → v = .bool b) : ∀ (a : Act) (w : World), OldAt md ops i a0 a → (∀ t, waitsB md ops o t = true → Slot F a w t) → Region.wanted o (yielded ops a.tmps) = true := fun a w _ hd => by
  obtain ⟨v, h1, h2⟩ := hd d hw
  obtain rfl := hv v w h2
  unfold Region.wanted yielded
  rw [hn]
  simp [hgd, h1]
end
end Go.Proofs.Ytbcikkofbdfmaaa
