/- What a policy makes of a packet, as a model: sets as lists in order, each once; no conditions. -/
import Derived.Test.YtipiepcbgjceaaaS0
import Derived.Test.YtipiepcbgjceaaaK1
import Derived.Test.YtipiepcbgjceaaaW1
set_option linter.unusedVariables false
set_option linter.unusedSimpArgs false
namespace Go.Proofs.Ytipiepcbgjceaaa

def P8.of (l : List Int) : P8 := ⟨l.getD 0 0, l.getD 1 0, l.getD 2 0, l.getD 3 0, l.getD 4 0, l.getD 5 0, l.getD 6 0, l.getD 7 0⟩
theorem P8.of_l (x : P8) : P8.of x.l = x := rfl
theorem P8.l_of {l : List Int} (h : l.length = 8) : (P8.of l).l = l := by
  obtain ⟨a0, a1, a2, a3, a4, a5, a6, a7, rfl⟩ := eight h
  rfl
/-- A packet's field. -/
def P8.get (x : P8) (f : Int) : Int := x.l.getD f.toNat 0
/-- A packet with a field put. -/
def P8.wth (x : P8) (f n : Int) : P8 := P8.of (put x.l f n)
theorem P8.wth_l (x : P8) (f n : Int) : (x.wth f n).l = put x.l f n := P8.l_of (by rw [put_length]; rfl)

/-! ### Sets -/
def uni (a b : List P8) : List P8 := sortL (a ++ b)
theorem ss_nil : SS [] := List.Pairwise.nil
theorem ss_one (x : P8) : SS [x] := List.pairwise_singleton _ _
theorem sort_ss (l : List P8) : SS (sortL l) := (sortL_ok l).1
theorem mem_sort (l : List P8) (z : P8) : z ∈ sortL l ↔ z ∈ l := (sortL_ok l).2 z
theorem ss_ite (c : Prop) [Decidable c] (q : P8) : SS (if c then [q] else []) := by
  split
  · exact ss_one q
  · exact ss_nil
theorem uni_ss (a b : List P8) : SS (uni a b) := sort_ss _
theorem mem_uni (a b : List P8) (z : P8) : z ∈ uni a b ↔ z ∈ a ∨ z ∈ b := by unfold uni; rw [mem_sort, List.mem_append]
theorem sort_same {a b : List P8} (h : ∀ z, z ∈ a ↔ z ∈ b) : sortL a = sortL b :=
  ss_unique _ _ (sort_ss _) (sort_ss _) fun z => by rw [mem_sort, mem_sort]; exact h z
theorem sort_of_ss {a : List P8} (h : SS a) : sortL a = a := ss_unique _ _ (sort_ss _) h fun z => mem_sort a z
theorem uni_nil {a : List P8} (h : SS a) : uni a [] = a := by unfold uni; rw [List.append_nil]; exact sort_of_ss h
theorem nil_uni {a : List P8} (h : SS a) : uni [] a = a := sort_of_ss h
theorem ss_nodup {l : List P8} (h : SS l) : l.Nodup := h.imp fun {a b} hab e => by rw [e, cf_self] at hab; omega
/-- A list without a thing twice, all in another list, is no longer than that. -/
theorem len_le_of : ∀ (l m : List P8), l.Nodup → (∀ z ∈ l, z ∈ m) → l.length ≤ m.length
  | [], m, _, _ => Nat.zero_le _
  | x :: l, m, hn, h => by
    obtain ⟨h1, h2⟩ := List.nodup_cons.1 hn
    have hx : x ∈ m := h x (List.mem_cons_self ..)
    obtain ⟨a, b, rfl⟩ := List.append_of_mem hx
    have := len_le_of l (a ++ b) h2 fun z hz => by
      have hz' := h z (List.mem_cons_of_mem _ hz)
      simp only [List.mem_append, List.mem_cons] at hz' ⊢
      rcases hz' with k | k | k
      · exact .inl k
      · subst k; exact absurd hz h1
      · exact .inr k
    simp only [List.length_append, List.length_cons] at this ⊢
    omega
theorem len_sort_le (l : List P8) : (sortL l).length ≤ l.length := len_le_of _ _ (ss_nodup (sort_ss l)) fun z hz => (mem_sort l z).1 hz
theorem len_uni_left {a : List P8} (b : List P8) (h : SS a) : a.length ≤ (uni a b).length := len_le_of _ _ (ss_nodup h) fun z hz => (mem_uni a b z).2 (.inl hz)
theorem len_uni_right {b : List P8} (a : List P8) (h : SS b) : b.length ≤ (uni a b).length := len_le_of _ _ (ss_nodup h) fun z hz => (mem_uni a b z).2 (.inr hz)

/-! ### What is made -/
/-- Of each one of a list, together with what was made before; none: too many on the way. -/
def eachM (g : P8 → Option (List P8)) : List P8 → List P8 → Option (List P8)
  | [], acc => some acc
  | x :: l, acc => match g x with
    | none => none
    | some m => if 64 < (uni acc m).length then none else eachM g l (uni acc m)
/-- A part of a state. -/
def partIs (st : List Nat) (f n : Int) : Bool := decide (0 ≤ f) && decide (f < (st.length : Int)) && decide (((st.getD f.toNat 0 : Nat) : Int) = n)
def mkP (st : List Nat) : Pl → P8 → Option (List P8)
  | .mk op f n kids, q =>
    if op = 0 then some []
    else if op = 1 then some [q]
    else if op = 2 then some (if q.get f = n then [q] else [])
    else if op = 3 then some (if partIs st f n = true then [q] else [])
    else if op = 4 then (mkFst kids q).map fun l => if l = [] then [q] else []
    else if op = 5 then some [q.wth f n]
    else if op = 6 then mkSeq kids [q]
    else mkSum kids q []
  where
  mkFst : List Pl → P8 → Option (List P8)
  | [], _ => some []
  | p :: _, q => mkP st p q
  mkSeq : List Pl → List P8 → Option (List P8)
  | [], l => some l
  | p :: r, l => match eachM (fun x => mkP st p x) l [] with
    | none => none
    | some m => mkSeq r m
  mkSum : List Pl → P8 → List P8 → Option (List P8)
  | [], _, acc => some acc
  | p :: r, q, acc => match mkP st p q with
    | none => none
    | some m => if 64 < (uni acc m).length then none else mkSum r q (uni acc m)

theorem mkP_mk (st : List Nat) (op f n : Int) (kids : List Pl) (q : P8) : mkP st (.mk op f n kids) q =
    (if op = 0 then some []
    else if op = 1 then some [q]
    else if op = 2 then some (if q.get f = n then [q] else [])
    else if op = 3 then some (if partIs st f n = true then [q] else [])
    else if op = 4 then (mkP.mkFst st kids q).map fun l => if l = [] then [q] else []
    else if op = 5 then some [q.wth f n]
    else if op = 6 then mkP.mkSeq st kids [q]
    else mkP.mkSum st kids q []) := by rw [mkP]

/-! ### The relation: what is made, one packet at a time -/
def Mk (st : List Nat) : Pl → P8 → P8 → Prop
  | .mk op f n kids, q, x =>
    if op = 0 then False
    else if op = 1 then x = q
    else if op = 2 then q.get f = n ∧ x = q
    else if op = 3 then partIs st f n = true ∧ x = q
    else if op = 4 then (¬ ∃ y, MkFst kids q y) ∧ x = q
    else if op = 5 then x = q.wth f n
    else if op = 6 then MkSeq kids q x
    else MkSum kids q x
  where
  MkFst : List Pl → P8 → P8 → Prop
  | [], _, _ => False
  | p :: _, q, x => Mk st p q x
  MkSeq : List Pl → P8 → P8 → Prop
  | [], q, x => x = q
  | p :: r, q, x => ∃ y, Mk st p q y ∧ MkSeq r y x
  MkSum : List Pl → P8 → P8 → Prop
  | [], _, _ => False
  | p :: r, q, x => Mk st p q x ∨ MkSum r q x
theorem Mk_mk (st : List Nat) (op f n : Int) (kids : List Pl) (q x : P8) : Mk st (.mk op f n kids) q x =
    (if op = 0 then False
    else if op = 1 then x = q
    else if op = 2 then q.get f = n ∧ x = q
    else if op = 3 then partIs st f n = true ∧ x = q
    else if op = 4 then (¬ ∃ y, Mk.MkFst st kids q y) ∧ x = q
    else if op = 5 then x = q.wth f n
    else if op = 6 then Mk.MkSeq st kids q x
    else Mk.MkSum st kids q x) := by rw [Mk]

/-- A list is the set of what is made. -/
def Is (R : P8 → Prop) (l : List P8) : Prop := SS l ∧ ∀ z, z ∈ l ↔ R z
theorem Is.same {R S : P8 → Prop} {l m : List P8} (h : Is R l) (k : Is S m) (e : ∀ z, R z ↔ S z) : l = m :=
  ss_unique _ _ h.1 k.1 fun z => by rw [h.2, k.2, e]
theorem eachM_is {g : P8 → Option (List P8)} {G : P8 → P8 → Prop} (hg : ∀ x l, g x = some l → Is (G x) l) : ∀ (l acc r : List P8), SS acc → eachM g l acc = some r → SS r ∧ ∀ z, z ∈ r ↔ z ∈ acc ∨ ∃ x ∈ l, G x z
  | [], acc, r, ha, h => by
    rw [eachM] at h
    injection h with h
    subst h
    exact ⟨ha, fun z => by simp⟩
  | x :: l, acc, r, ha, h => by
    rw [eachM] at h
    cases hx : g x with
    | none => rw [hx] at h; cases h
    | some m =>
      rw [hx] at h
      dsimp only at h
      split at h
      · cases h
      · obtain ⟨h1, h2⟩ := eachM_is hg l _ r (uni_ss _ _) h
        have hm := hg x m hx
        refine ⟨h1, fun z => ?_⟩
        rw [h2, mem_uni, hm.2, or_assoc]
        simp
theorem mkP_is (st : List Nat) : ∀ (p : Pl) (q : P8) (l : List P8), mkP st p q = some l → Is (fun x => Mk st p q x) l
  | .mk op f n kids, q, l, h => by
    rw [mkP_mk] at h
    have e : ∀ x, Mk st (.mk op f n kids) q x = _ := fun x => Mk_mk st op f n kids q x
    by_cases h0 : op = 0
    · rw [if_pos h0] at h; injection h with h; subst h
      exact ⟨ss_nil, fun z => by show _ ↔ Mk _ _ _ _; rw [e, if_pos h0]; simp⟩
    rw [if_neg h0] at h
    by_cases h1 : op = 1
    · rw [if_pos h1] at h; injection h with h; subst h
      exact ⟨ss_one q, fun z => by show _ ↔ Mk _ _ _ _; rw [e, if_neg h0, if_pos h1]; simp⟩
    rw [if_neg h1] at h
    by_cases h2 : op = 2
    · rw [if_pos h2] at h; injection h with h; subst h
      refine ⟨ss_ite _ q, fun z => ?_⟩
      show _ ↔ Mk _ _ _ _
      rw [e, if_neg h0, if_neg h1, if_pos h2]
      split
      · rename_i hh; simp [hh]
      · rename_i hh; simp [hh]
    rw [if_neg h2] at h
    by_cases h3 : op = 3
    · rw [if_pos h3] at h; injection h with h; subst h
      refine ⟨ss_ite _ q, fun z => ?_⟩
      show _ ↔ Mk _ _ _ _
      rw [e, if_neg h0, if_neg h1, if_neg h2, if_pos h3]
      split
      · rename_i hh; simp [hh]
      · rename_i hh; simp [hh]
    rw [if_neg h3] at h
    by_cases h4 : op = 4
    · rw [if_pos h4] at h
      cases hk : mkP.mkFst st kids q with
      | none => rw [hk] at h; cases h
      | some m =>
        rw [hk] at h
        simp only [Option.map_some, Option.some.injEq] at h
        subst h
        have hm := fst kids q m hk
        refine ⟨ss_ite _ q, fun z => ?_⟩
        show _ ↔ Mk _ _ _ _
        rw [e, if_neg h0, if_neg h1, if_neg h2, if_neg h3, if_pos h4]
        have hne : (∃ y, Mk.MkFst st kids q y) ↔ m ≠ [] := by
          constructor
          · rintro ⟨y, hy⟩ hh
            have := (hm.2 y).2 hy
            rw [hh] at this; cases this
          · intro hh
            obtain ⟨y, hy⟩ := List.exists_mem_of_ne_nil _ hh
            exact ⟨y, (hm.2 y).1 hy⟩
        rw [hne]
        by_cases hh : m = []
        · simp [hh]
        · simp [hh]
    rw [if_neg h4] at h
    by_cases h5 : op = 5
    · rw [if_pos h5] at h; injection h with h; subst h
      exact ⟨ss_one _, fun z => by show _ ↔ Mk _ _ _ _; rw [e, if_neg h0, if_neg h1, if_neg h2, if_neg h3, if_neg h4, if_pos h5]; simp⟩
    rw [if_neg h5] at h
    by_cases h6 : op = 6
    · rw [if_pos h6] at h
      obtain ⟨a, b⟩ := seq kids [q] l (ss_one q) h
      refine ⟨a, fun z => ?_⟩
      show _ ↔ Mk _ _ _ _
      rw [e, if_neg h0, if_neg h1, if_neg h2, if_neg h3, if_neg h4, if_neg h5, if_pos h6, b]
      simp
    · rw [if_neg h6] at h
      obtain ⟨a, b⟩ := sum kids q [] l ss_nil h
      refine ⟨a, fun z => ?_⟩
      show _ ↔ Mk _ _ _ _
      rw [e, if_neg h0, if_neg h1, if_neg h2, if_neg h3, if_neg h4, if_neg h5, if_neg h6, b]
      simp
  where
  fst : ∀ (k : List Pl) (q : P8) (l : List P8), mkP.mkFst st k q = some l → Is (fun x => Mk.MkFst st k q x) l
  | [], q, l, h => by
    rw [mkP.mkFst] at h; injection h with h; subst h
    exact ⟨ss_nil, fun z => by show _ ↔ Mk.MkFst _ _ _ _; rw [Mk.MkFst]; simp⟩
  | p :: r, q, l, h => by
    rw [mkP.mkFst] at h
    have := mkP_is st p q l h
    exact ⟨this.1, fun z => by show _ ↔ Mk.MkFst _ _ _ _; rw [Mk.MkFst]; exact this.2 z⟩
  seq : ∀ (k : List Pl) (l r : List P8), SS l → mkP.mkSeq st k l = some r → SS r ∧ ∀ z, z ∈ r ↔ ∃ x ∈ l, Mk.MkSeq st k x z
  | [], l, r, hl, h => by
    rw [mkP.mkSeq] at h; injection h with h; subst h
    exact ⟨hl, fun z => by simp [Mk.MkSeq]⟩
  | p :: k, l, r, hl, h => by
    rw [mkP.mkSeq] at h
    cases he : eachM (fun x => mkP st p x) l [] with
    | none => rw [he] at h; cases h
    | some m =>
      rw [he] at h
      obtain ⟨a, b⟩ := eachM_is (G := fun x y => Mk st p x y) (fun x l h => mkP_is st p x l h) l [] m ss_nil he
      obtain ⟨c, d⟩ := seq k m r a h
      refine ⟨c, fun z => ?_⟩
      rw [d]
      constructor
      · rintro ⟨y, hy, hz⟩
        rcases (b y).1 hy with hh | ⟨x, hx, hxy⟩
        · cases hh
        · exact ⟨x, hx, by rw [Mk.MkSeq]; exact ⟨y, hxy, hz⟩⟩
      · rintro ⟨x, hx, hz⟩
        rw [Mk.MkSeq] at hz
        obtain ⟨y, hxy, hz⟩ := hz
        exact ⟨y, (b y).2 (.inr ⟨x, hx, hxy⟩), hz⟩
  sum : ∀ (k : List Pl) (q : P8) (acc r : List P8), SS acc → mkP.mkSum st k q acc = some r → SS r ∧ ∀ z, z ∈ r ↔ z ∈ acc ∨ Mk.MkSum st k q z
  | [], q, acc, r, ha, h => by
    rw [mkP.mkSum] at h; injection h with h; subst h
    exact ⟨ha, fun z => by rw [Mk.MkSum]; simp⟩
  | p :: k, q, acc, r, ha, h => by
    rw [mkP.mkSum] at h
    cases hp : mkP st p q with
    | none => rw [hp] at h; cases h
    | some m =>
      rw [hp] at h
      dsimp only at h
      split at h
      · cases h
      · have hm := mkP_is st p q m hp
        obtain ⟨c, d⟩ := sum k q _ r (uni_ss _ _) h
        refine ⟨c, fun z => ?_⟩
        rw [d, mem_uni, hm.2, Mk.MkSum, or_assoc]
/-- Whatever is made is in order, each once, and few. -/
theorem mkP_ss {st : List Nat} {p : Pl} {q : P8} {l : List P8} (h : mkP st p q = some l) : SS l := (mkP_is st p q l h).1
theorem eachM_len {g : P8 → Option (List P8)} : ∀ (l acc r : List P8), acc.length ≤ 64 → eachM g l acc = some r → r.length ≤ 64
  | [], acc, r, ha, h => by rw [eachM] at h; injection h with h; subst h; exact ha
  | x :: l, acc, r, ha, h => by
    rw [eachM] at h
    cases hx : g x with
    | none => rw [hx] at h; cases h
    | some m =>
      rw [hx] at h
      dsimp only at h
      split at h
      · cases h
      · exact eachM_len l _ r (by omega) h
theorem mkSeq_len (st : List Nat) : ∀ (k : List Pl) (l r : List P8), l.length ≤ 64 → mkP.mkSeq st k l = some r → r.length ≤ 64
  | [], l, r, hl, h => by rw [mkP.mkSeq] at h; injection h with h; subst h; exact hl
  | p :: k, l, r, hl, h => by
    rw [mkP.mkSeq] at h
    cases he : eachM (fun x => mkP st p x) l [] with
    | none => rw [he] at h; cases h
    | some m => rw [he] at h; exact mkSeq_len st k m r (eachM_len l [] m (Nat.zero_le _) he) h
theorem mkSum_len (st : List Nat) : ∀ (k : List Pl) (q : P8) (acc r : List P8), acc.length ≤ 64 → mkP.mkSum st k q acc = some r → r.length ≤ 64
  | [], q, acc, r, ha, h => by rw [mkP.mkSum] at h; injection h with h; subst h; exact ha
  | p :: k, q, acc, r, ha, h => by
    rw [mkP.mkSum] at h
    cases hp : mkP st p q with
    | none => rw [hp] at h; cases h
    | some m =>
      rw [hp] at h
      dsimp only at h
      split at h
      · cases h
      · exact mkSum_len st k q _ r (by omega) h
theorem mkP_len (st : List Nat) : ∀ (p : Pl) (q : P8) (l : List P8), mkP st p q = some l → l.length ≤ 64
  | .mk op f n kids, q, l, h => by
    rw [mkP_mk] at h
    split at h
    · injection h with h; subst h; simp
    split at h
    · injection h with h; subst h; simp
    split at h
    · injection h with h; subst h; split <;> simp
    split at h
    · injection h with h; subst h; split <;> simp
    split at h
    · cases hk : mkP.mkFst st kids q with
      | none => rw [hk] at h; cases h
      | some m =>
        rw [hk] at h
        simp only [Option.map_some, Option.some.injEq] at h
        subst h; split <;> simp
    split at h
    · injection h with h; subst h; simp
    split at h
    · exact mkSeq_len st kids [q] l (by simp) h
    · exact mkSum_len st kids q [] l (by simp) h
end Go.Proofs.Ytipiepcbgjceaaa
