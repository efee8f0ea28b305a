/- What a policy makes of a packet, as a model: sets as lists in order, each once; no conditions. -/
import Derived.Test.YtipiepcbgjceaaaS0
import Derived.Test.YtipiepcbgjceaaaK1
import Derived.Test.YtipiepcbgjceaaaW1
import Derived.Test.YtipiepcbgjceaaaK0
set_option linter.unusedVariables false
set_option linter.unusedSimpArgs false
namespace Go.Proofs.Ytipiepcbgjceaaa

def P8.of (l : List Int) : P8 := ⟨l.getD 0 0, l.getD 1 0, l.getD 2 0, l.getD 3 0, l.getD 4 0, l.getD 5 0, l.getD 6 0, l.getD 7 0⟩
theorem P8.of_l (x : P8) : P8.of x.l = x := rfl
theorem P8.l_of {l : List Int} (h : l.length = 8) : (P8.of l).l = l := by
  obtain ⟨a0, a1, a2, a3, a4, a5, a6, a7, rfl⟩ := eight h
  rfl
/-- A packet's field. -/
def P8.get (x : P8) (f : Int) : Int := x.l.getD f.toNat 0
/-- A packet with a field put. -/
def P8.wth (x : P8) (f n : Int) : P8 := P8.of (put x.l f n)
theorem P8.wth_l (x : P8) (f n : Int) : (x.wth f n).l = put x.l f n := P8.l_of (by rw [put_length]; rfl)

/-! ### Sets -/
def uni (a b : List P8) : List P8 := sortL (a ++ b)
theorem ss_nil : SS [] := List.Pairwise.nil
theorem ss_one (x : P8) : SS [x] := List.pairwise_singleton _ _
theorem sort_ss (l : List P8) : SS (sortL l) := (sortL_ok l).1
theorem mem_sort (l : List P8) (z : P8) : z ∈ sortL l ↔ z ∈ l := (sortL_ok l).2 z
theorem ss_ite (c : Prop) [Decidable c] (q : P8) : SS (if c then [q] else []) := by
  split
  · exact ss_one q
  · exact ss_nil
theorem uni_ss (a b : List P8) : SS (uni a b) := sort_ss _
theorem mem_uni (a b : List P8) (z : P8) : z ∈ uni a b ↔ z ∈ a ∨ z ∈ b := by unfold uni; rw [mem_sort, List.mem_append]
theorem sort_same {a b : List P8} (h : ∀ z, z ∈ a ↔ z ∈ b) : sortL a = sortL b :=
  ss_unique _ _ (sort_ss _) (sort_ss _) fun z => by rw [mem_sort, mem_sort]; exact h z
theorem sort_of_ss {a : List P8} (h : SS a) : sortL a = a := ss_unique _ _ (sort_ss _) h fun z => mem_sort a z
theorem uni_nil {a : List P8} (h : SS a) : uni a [] = a := by unfold uni; rw [List.append_nil]; exact sort_of_ss h
theorem nil_uni {a : List P8} (h : SS a) : uni [] a = a := sort_of_ss h
theorem ss_nodup {l : List P8} (h : SS l) : l.Nodup := h.imp fun {a b} hab e => by rw [e, cf_self] at hab; omega
/-- A list without a thing twice, all in another list, is no longer than that. -/
theorem len_le_of : ∀ (l m : List P8), l.Nodup → (∀ z ∈ l, z ∈ m) → l.length ≤ m.length
  | [], m, _, _ => Nat.zero_le _
  | x :: l, m, hn, h => by
    obtain ⟨h1, h2⟩ := List.nodup_cons.1 hn
    have hx : x ∈ m := h x (List.mem_cons_self ..)
    obtain ⟨a, b, rfl⟩ := List.append_of_mem hx
    have := len_le_of l (a ++ b) h2 fun z hz => by
      have hz' := h z (List.mem_cons_of_mem _ hz)
      simp only [List.mem_append, List.mem_cons] at hz' ⊢
      rcases hz' with k | k | k
      · exact .inl k
      · subst k; exact absurd hz h1
      · exact .inr k
    simp only [List.length_append, List.length_cons] at this ⊢
    omega
theorem len_sort_le (l : List P8) : (sortL l).length ≤ l.length := len_le_of _ _ (ss_nodup (sort_ss l)) fun z hz => (mem_sort l z).1 hz
theorem len_uni_left {a : List P8} (b : List P8) (h : SS a) : a.length ≤ (uni a b).length := len_le_of _ _ (ss_nodup h) fun z hz => (mem_uni a b z).2 (.inl hz)
theorem len_uni_right {b : List P8} (a : List P8) (h : SS b) : b.length ≤ (uni a b).length := len_le_of _ _ (ss_nodup h) fun z hz => (mem_uni a b z).2 (.inr hz)

/-! ### What is made -/
/-- Of each one of a list, together with what was made before; none: too many on the way. -/
def eachM (g : P8 → Option (List P8)) : List P8 → List P8 → Option (List P8)
  | [], acc => some acc
  | x :: l, acc => match g x with
    | none => none
    | some m => if 64 < (uni acc m).length then none else eachM g l (uni acc m)
/-- A part of a state. -/
def partIs (st : List Nat) (f n : Int) : Bool := decide (0 ≤ f) && decide (f < (st.length : Int)) && decide (((st.getD f.toNat 0 : Nat) : Int) = n)
def mkP (st : List Nat) : Pl → P8 → Option (List P8)
  | .mk op f n kids, q =>
    if op = 0 then some []
    else if op = 1 then some [q]
    else if op = 2 then some (if q.get f = n then [q] else [])
    else if op = 3 then some (if partIs st f n = true then [q] else [])
    else if op = 4 then (mkFst kids q).map fun l => if l = [] then [q] else []
    else if op = 5 then some [q.wth f n]
    else if op = 6 then mkSeq kids [q]
    else mkSum kids q []
  where
  mkFst : List Pl → P8 → Option (List P8)
  | [], _ => some []
  | p :: _, q => mkP st p q
  mkSeq : List Pl → List P8 → Option (List P8)
  | [], l => some l
  | p :: r, l => match eachM (fun x => mkP st p x) l [] with
    | none => none
    | some m => mkSeq r m
  mkSum : List Pl → P8 → List P8 → Option (List P8)
  | [], _, acc => some acc
  | p :: r, q, acc => match mkP st p q with
    | none => none
    | some m => if 64 < (uni acc m).length then none else mkSum r q (uni acc m)

theorem mkP_mk (st : List Nat) (op f n : Int) (kids : List Pl) (q : P8) : mkP st (.mk op f n kids) q =
    (if op = 0 then some []
    else if op = 1 then some [q]
    else if op = 2 then some (if q.get f = n then [q] else [])
    else if op = 3 then some (if partIs st f n = true then [q] else [])
    else if op = 4 then (mkP.mkFst st kids q).map fun l => if l = [] then [q] else []
    else if op = 5 then some [q.wth f n]
    else if op = 6 then mkP.mkSeq st kids [q]
    else mkP.mkSum st kids q []) := by rw [mkP]

/-! ### The relation: what is made, one packet at a time -/
def Mk (st : List Nat) : Pl → P8 → P8 → Prop
  | .mk op f n kids, q, x =>
    if op = 0 then False
    else if op = 1 then x = q
    else if op = 2 then q.get f = n ∧ x = q
    else if op = 3 then partIs st f n = true ∧ x = q
    else if op = 4 then (¬ ∃ y, MkFst kids q y) ∧ x = q
    else if op = 5 then x = q.wth f n
    else if op = 6 then MkSeq kids q x
    else MkSum kids q x
  where
  MkFst : List Pl → P8 → P8 → Prop
  | [], _, _ => False
  | p :: _, q, x => Mk st p q x
  MkSeq : List Pl → P8 → P8 → Prop
  | [], q, x => x = q
  | p :: r, q, x => ∃ y, Mk st p q y ∧ MkSeq r y x
  MkSum : List Pl → P8 → P8 → Prop
  | [], _, _ => False
  | p :: r, q, x => Mk st p q x ∨ MkSum r q x
theorem Mk_mk (st : List Nat) (op f n : Int) (kids : List Pl) (q x : P8) : Mk st (.mk op f n kids) q x =
    (if op = 0 then False
    else if op = 1 then x = q
    else if op = 2 then q.get f = n ∧ x = q
    else if op = 3 then partIs st f n = true ∧ x = q
    else if op = 4 then (¬ ∃ y, Mk.MkFst st kids q y) ∧ x = q
    else if op = 5 then x = q.wth f n
    else if op = 6 then Mk.MkSeq st kids q x
    else Mk.MkSum st kids q x) := by rw [Mk]

/-- A list is the set of what is made. -/
def Is (R : P8 → Prop) (l : List P8) : Prop := SS l ∧ ∀ z, z ∈ l ↔ R z
theorem Is.same {R S : P8 → Prop} {l m : List P8} (h : Is R l) (k : Is S m) (e : ∀ z, R z ↔ S z) : l = m :=
  ss_unique _ _ h.1 k.1 fun z => by rw [h.2, k.2, e]
theorem eachM_is {g : P8 → Option (List P8)} {G : P8 → P8 → Prop} (hg : ∀ x l, g x = some l → Is (G x) l) : ∀ (l acc r : List P8), SS acc → eachM g l acc = some r → SS r ∧ ∀ z, z ∈ r ↔ z ∈ acc ∨ ∃ x ∈ l, G x z
  | [], acc, r, ha, h => by
    rw [eachM] at h
    injection h with h
    subst h
    exact ⟨ha, fun z => by simp⟩
  | x :: l, acc, r, ha, h => by
    rw [eachM] at h
    cases hx : g x with
    | none => rw [hx] at h; cases h
    | some m =>
      rw [hx] at h
      dsimp only at h
      split at h
      · cases h
      · obtain ⟨h1, h2⟩ := eachM_is hg l _ r (uni_ss _ _) h
        have hm := hg x m hx
        refine ⟨h1, fun z => ?_⟩
        rw [h2, mem_uni, hm.2, or_assoc]
        simp
theorem mkP_is (st : List Nat) : ∀ (p : Pl) (q : P8) (l : List P8), mkP st p q = some l → Is (fun x => Mk st p q x) l
  | .mk op f n kids, q, l, h => by
    rw [mkP_mk] at h
    have e : ∀ x, Mk st (.mk op f n kids) q x = _ := fun x => Mk_mk st op f n kids q x
    by_cases h0 : op = 0
    · rw [if_pos h0] at h; injection h with h; subst h
      exact ⟨ss_nil, fun z => by show _ ↔ Mk _ _ _ _; rw [e, if_pos h0]; simp⟩
    rw [if_neg h0] at h
    by_cases h1 : op = 1
    · rw [if_pos h1] at h; injection h with h; subst h
      exact ⟨ss_one q, fun z => by show _ ↔ Mk _ _ _ _; rw [e, if_neg h0, if_pos h1]; simp⟩
    rw [if_neg h1] at h
    by_cases h2 : op = 2
    · rw [if_pos h2] at h; injection h with h; subst h
      refine ⟨ss_ite _ q, fun z => ?_⟩
      show _ ↔ Mk _ _ _ _
      rw [e, if_neg h0, if_neg h1, if_pos h2]
      split
      · rename_i hh; simp [hh]
      · rename_i hh; simp [hh]
    rw [if_neg h2] at h
    by_cases h3 : op = 3
    · rw [if_pos h3] at h; injection h with h; subst h
      refine ⟨ss_ite _ q, fun z => ?_⟩
      show _ ↔ Mk _ _ _ _
      rw [e, if_neg h0, if_neg h1, if_neg h2, if_pos h3]
      split
      · rename_i hh; simp [hh]
      · rename_i hh; simp [hh]
    rw [if_neg h3] at h
    by_cases h4 : op = 4
    · rw [if_pos h4] at h
      cases hk : mkP.mkFst st kids q with
      | none => rw [hk] at h; cases h
      | some m =>
        rw [hk] at h
        simp only [Option.map_some, Option.some.injEq] at h
        subst h
        have hm := fst kids q m hk
        refine ⟨ss_ite _ q, fun z => ?_⟩
        show _ ↔ Mk _ _ _ _
        rw [e, if_neg h0, if_neg h1, if_neg h2, if_neg h3, if_pos h4]
        have hne : (∃ y, Mk.MkFst st kids q y) ↔ m ≠ [] := by
          constructor
          · rintro ⟨y, hy⟩ hh
            have := (hm.2 y).2 hy
            rw [hh] at this; cases this
          · intro hh
            obtain ⟨y, hy⟩ := List.exists_mem_of_ne_nil _ hh
            exact ⟨y, (hm.2 y).1 hy⟩
        rw [hne]
        by_cases hh : m = []
        · simp [hh]
        · simp [hh]
    rw [if_neg h4] at h
    by_cases h5 : op = 5
    · rw [if_pos h5] at h; injection h with h; subst h
      exact ⟨ss_one _, fun z => by show _ ↔ Mk _ _ _ _; rw [e, if_neg h0, if_neg h1, if_neg h2, if_neg h3, if_neg h4, if_pos h5]; simp⟩
    rw [if_neg h5] at h
    by_cases h6 : op = 6
    · rw [if_pos h6] at h
      obtain ⟨a, b⟩ := seq kids [q] l (ss_one q) h
      refine ⟨a, fun z => ?_⟩
      show _ ↔ Mk _ _ _ _
      rw [e, if_neg h0, if_neg h1, if_neg h2, if_neg h3, if_neg h4, if_neg h5, if_pos h6, b]
      simp
    · rw [if_neg h6] at h
      obtain ⟨a, b⟩ := sum kids q [] l ss_nil h
      refine ⟨a, fun z => ?_⟩
      show _ ↔ Mk _ _ _ _
      rw [e, if_neg h0, if_neg h1, if_neg h2, if_neg h3, if_neg h4, if_neg h5, if_neg h6, b]
      simp
  where
  fst : ∀ (k : List Pl) (q : P8) (l : List P8), mkP.mkFst st k q = some l → Is (fun x => Mk.MkFst st k q x) l
  | [], q, l, h => by
    rw [mkP.mkFst] at h; injection h with h; subst h
    exact ⟨ss_nil, fun z => by show _ ↔ Mk.MkFst _ _ _ _; rw [Mk.MkFst]; simp⟩
  | p :: r, q, l, h => by
    rw [mkP.mkFst] at h
    have := mkP_is st p q l h
    exact ⟨this.1, fun z => by show _ ↔ Mk.MkFst _ _ _ _; rw [Mk.MkFst]; exact this.2 z⟩
  seq : ∀ (k : List Pl) (l r : List P8), SS l → mkP.mkSeq st k l = some r → SS r ∧ ∀ z, z ∈ r ↔ ∃ x ∈ l, Mk.MkSeq st k x z
  | [], l, r, hl, h => by
    rw [mkP.mkSeq] at h; injection h with h; subst h
    exact ⟨hl, fun z => by simp [Mk.MkSeq]⟩
  | p :: k, l, r, hl, h => by
    rw [mkP.mkSeq] at h
    cases he : eachM (fun x => mkP st p x) l [] with
    | none => rw [he] at h; cases h
    | some m =>
      rw [he] at h
      obtain ⟨a, b⟩ := eachM_is (G := fun x y => Mk st p x y) (fun x l h => mkP_is st p x l h) l [] m ss_nil he
      obtain ⟨c, d⟩ := seq k m r a h
      refine ⟨c, fun z => ?_⟩
      rw [d]
      constructor
      · rintro ⟨y, hy, hz⟩
        rcases (b y).1 hy with hh | ⟨x, hx, hxy⟩
        · cases hh
        · exact ⟨x, hx, by rw [Mk.MkSeq]; exact ⟨y, hxy, hz⟩⟩
      · rintro ⟨x, hx, hz⟩
        rw [Mk.MkSeq] at hz
        obtain ⟨y, hxy, hz⟩ := hz
        exact ⟨y, (b y).2 (.inr ⟨x, hx, hxy⟩), hz⟩
  sum : ∀ (k : List Pl) (q : P8) (acc r : List P8), SS acc → mkP.mkSum st k q acc = some r → SS r ∧ ∀ z, z ∈ r ↔ z ∈ acc ∨ Mk.MkSum st k q z
  | [], q, acc, r, ha, h => by
    rw [mkP.mkSum] at h; injection h with h; subst h
    exact ⟨ha, fun z => by rw [Mk.MkSum]; simp⟩
  | p :: k, q, acc, r, ha, h => by
    rw [mkP.mkSum] at h
    cases hp : mkP st p q with
    | none => rw [hp] at h; cases h
    | some m =>
      rw [hp] at h
      dsimp only at h
      split at h
      · cases h
      · have hm := mkP_is st p q m hp
        obtain ⟨c, d⟩ := sum k q _ r (uni_ss _ _) h
        refine ⟨c, fun z => ?_⟩
        rw [d, mem_uni, hm.2, Mk.MkSum, or_assoc]
/-- Whatever is made is in order, each once, and few. -/
theorem mkP_ss {st : List Nat} {p : Pl} {q : P8} {l : List P8} (h : mkP st p q = some l) : SS l := (mkP_is st p q l h).1
theorem eachM_len {g : P8 → Option (List P8)} : ∀ (l acc r : List P8), acc.length ≤ 64 → eachM g l acc = some r → r.length ≤ 64
  | [], acc, r, ha, h => by rw [eachM] at h; injection h with h; subst h; exact ha
  | x :: l, acc, r, ha, h => by
    rw [eachM] at h
    cases hx : g x with
    | none => rw [hx] at h; cases h
    | some m =>
      rw [hx] at h
      dsimp only at h
      split at h
      · cases h
      · exact eachM_len l _ r (by omega) h
theorem mkSeq_len (st : List Nat) : ∀ (k : List Pl) (l r : List P8), l.length ≤ 64 → mkP.mkSeq st k l = some r → r.length ≤ 64
  | [], l, r, hl, h => by rw [mkP.mkSeq] at h; injection h with h; subst h; exact hl
  | p :: k, l, r, hl, h => by
    rw [mkP.mkSeq] at h
    cases he : eachM (fun x => mkP st p x) l [] with
    | none => rw [he] at h; cases h
    | some m => rw [he] at h; exact mkSeq_len st k m r (eachM_len l [] m (Nat.zero_le _) he) h
theorem mkSum_len (st : List Nat) : ∀ (k : List Pl) (q : P8) (acc r : List P8), acc.length ≤ 64 → mkP.mkSum st k q acc = some r → r.length ≤ 64
  | [], q, acc, r, ha, h => by rw [mkP.mkSum] at h; injection h with h; subst h; exact ha
  | p :: k, q, acc, r, ha, h => by
    rw [mkP.mkSum] at h
    cases hp : mkP st p q with
    | none => rw [hp] at h; cases h
    | some m =>
      rw [hp] at h
      dsimp only at h
      split at h
      · cases h
      · exact mkSum_len st k q _ r (by omega) h
theorem mkP_len (st : List Nat) : ∀ (p : Pl) (q : P8) (l : List P8), mkP st p q = some l → l.length ≤ 64
  | .mk op f n kids, q, l, h => by
    rw [mkP_mk] at h
    split at h
    · injection h with h; subst h; simp
    split at h
    · injection h with h; subst h; simp
    split at h
    · injection h with h; subst h; split <;> simp
    split at h
    · injection h with h; subst h; split <;> simp
    split at h
    · cases hk : mkP.mkFst st kids q with
      | none => rw [hk] at h; cases h
      | some m =>
        rw [hk] at h
        simp only [Option.map_some, Option.some.injEq] at h
        subst h; split <;> simp
    split at h
    · injection h with h; subst h; simp
    split at h
    · exact mkSeq_len st kids [q] l (by simp) h
    · exact mkSum_len st kids q [] l (by simp) h
end Go.Proofs.Ytipiepcbgjceaaa
/- Predicates, policies in a state, and the laws of sums, sequences and nots, as a model; no conditions. -/
set_option linter.unusedVariables false
set_option linter.unusedSimpArgs false
namespace Go.Proofs.Ytipiepcbgjceaaa

/-! ### In a state -/
def atP (st : List Nat) : Pl → Pl
  | .mk op f n kids => if op = 3 then .mk (if partIs st f n = true then 1 else 0) 0 0 [] else .mk op f n (atL kids)
  where
  atL : List Pl → List Pl
  | [] => []
  | p :: r => atP st p :: atL r
theorem atP_mk (st : List Nat) (op f n : Int) (kids : List Pl) : atP st (.mk op f n kids) = if op = 3 then .mk (if partIs st f n = true then 1 else 0) 0 0 [] else .mk op f n (atP.atL st kids) := by rw [atP]
theorem atL_map (st : List Nat) : ∀ k : List Pl, atP.atL st k = k.map (atP st)
  | [] => by rw [atP.atL]; rfl
  | p :: r => by rw [atP.atL, atL_map st r]; rfl
theorem mkP_at (st st' : List Nat) : ∀ (p : Pl) (q : P8), mkP st' (atP st p) q = mkP st p q
  | .mk op f n kids, q => by
    rw [atP_mk, mkP_mk]
    by_cases h3 : op = 3
    · subst h3
      rw [if_pos rfl, mkP_mk]
      cases partIs st f n <;> simp
    · rw [if_neg h3, mkP_mk, if_neg h3, if_neg h3, fst kids q, seq kids [q], sum kids q []]
  where
  fst : ∀ (k : List Pl) (q : P8), mkP.mkFst st' (atP.atL st k) q = mkP.mkFst st k q
  | [], q => by rw [atP.atL, mkP.mkFst, mkP.mkFst]
  | p :: r, q => by rw [atP.atL, mkP.mkFst, mkP.mkFst, mkP_at st st' p q]
  seq : ∀ (k : List Pl) (l : List P8), mkP.mkSeq st' (atP.atL st k) l = mkP.mkSeq st k l
  | [], l => by rw [atP.atL, mkP.mkSeq, mkP.mkSeq]
  | p :: r, l => by
    rw [atP.atL, mkP.mkSeq, mkP.mkSeq, show (fun x => mkP st' (atP st p) x) = fun x => mkP st p x from funext fun x => mkP_at st st' p x]
    cases eachM (fun x => mkP st p x) l [] with
    | none => rfl
    | some m => exact seq r m
  sum : ∀ (k : List Pl) (q : P8) (acc : List P8), mkP.mkSum st' (atP.atL st k) q acc = mkP.mkSum st k q acc
  | [], q, acc => by rw [atP.atL, mkP.mkSum, mkP.mkSum]
  | p :: r, q, acc => by
    rw [atP.atL, mkP.mkSum, mkP.mkSum, mkP_at st st' p q]
    cases mkP st p q with
    | none => rfl
    | some m =>
      dsimp only
      rw [sum r q]
theorem at_size (st : List Nat) : ∀ p : Pl, sizeP (atP st p) ≤ sizeP p
  | .mk op f n kids => by
    rw [atP_mk]
    split
    · rw [sizeP_mk, sizeP_mk, sizeP.sizeL]; omega
    · rw [sizeP_mk, sizeP_mk]
      have := ofL kids
      omega
  where
  ofL : ∀ k : List Pl, sizeP.sizeL (atP.atL st k) ≤ sizeP.sizeL k
  | [] => by rw [atP.atL]; exact Nat.le_refl _
  | p :: r => by
    rw [atP.atL, sizeP.sizeL, sizeP.sizeL]
    have := at_size st p
    have := ofL r
    omega
theorem at_depth (st : List Nat) : ∀ p : Pl, depthP (atP st p) ≤ depthP p
  | .mk op f n kids => by
    rw [atP_mk]
    split
    · rw [depthP_mk, depthP_mk, depthP.depthL]; omega
    · rw [depthP_mk, depthP_mk]
      have := ofL kids
      omega
  where
  ofL : ∀ k : List Pl, depthP.depthL (atP.atL st k) ≤ depthP.depthL k
  | [] => by rw [atP.atL]; exact Nat.le_refl _
  | p :: r => by
    rw [atP.atL, depthP.depthL, depthP.depthL]
    have := at_depth st p
    have := ofL r
    omega
theorem at_pred (st : List Nat) : ∀ p : Pl, predP p = true → predP (atP st p) = true
  | .mk op f n kids, h => by
    rw [atP_mk]
    split
    · rw [predP]; split <;> decide
    · rw [predP] at h ⊢
      simp only [Bool.or_eq_true, Bool.and_eq_true] at h ⊢
      rcases h with h | ⟨h1, h2⟩
      · exact .inl h
      · exact .inr ⟨h1, ofL kids h2⟩
  where
  ofL : ∀ k : List Pl, predP.predL k = true → predP.predL (atP.atL st k) = true
  | [], _ => by rw [atP.atL, predP.predL]
  | p :: r, h => by
    rw [predP.predL, Bool.and_eq_true] at h
    rw [atP.atL, predP.predL, Bool.and_eq_true]
    exact ⟨at_pred st p h.1, ofL r h.2⟩
theorem formP_eq (parts op f n : Int) (kids : List Pl) : formP parts (.mk op f n kids) = (nodeB parts op f n kids && formP.formL parts kids) := by rw [formP]
theorem at_form (st : List Nat) (parts : Int) : ∀ p : Pl, formP parts p = true → formP parts (atP st p) = true
  | .mk op f n kids, h => by
    rw [formP_eq, Bool.and_eq_true] at h
    rw [atP_mk]
    split
    · rw [formP_eq, formP.formL]
      split <;> simp [nodeB]
    · rename_i h3
      rw [formP_eq, Bool.and_eq_true]
      refine ⟨?_, ofL kids h.2⟩
      have hl : (atP.atL st kids).length = kids.length := by rw [atL_map]; simp
      have h1 := h.1
      unfold nodeB at h1 ⊢
      rw [hl]
      by_cases h4 : op = 4
      · subst h4
        simp only [show ¬((4 : Int) = 0 ∨ (4 : Int) = 1) by omega, show ¬(4 : Int) = 2 by omega, show ¬(4 : Int) = 3 by omega, show ¬(4 : Int) = 5 by omega, if_false, if_true, Bool.and_eq_true] at h1 ⊢
        refine ⟨h1.1, ?_⟩
        cases kids with
        | nil => exact h1.2
        | cons p r => rw [atP.atL, pred0]; exact at_pred st p h1.2
      · simp only [if_neg h4] at h1 ⊢
        exact h1
  where
  ofL : ∀ k : List Pl, formP.formL parts k = true → formP.formL parts (atP.atL st k) = true
  | [], _ => by rw [atP.atL, formP.formL]
  | p :: r, h => by
    rw [formP.formL, Bool.and_eq_true] at h
    rw [atP.atL, formP.formL, Bool.and_eq_true]
    exact ⟨at_form st parts p h.1, ofL r h.2⟩
/-- Nothing asks the state. -/
def noSt : Pl → Prop
  | .mk op _ _ kids => op ≠ 3 ∧ noL kids
  where
  noL : List Pl → Prop
  | [] => True
  | p :: r => noSt p ∧ noL r
theorem at_noSt (st : List Nat) : ∀ p : Pl, noSt (atP st p)
  | .mk op f n kids => by
    rw [atP_mk]
    split
    · rw [noSt, noSt.noL]; exact ⟨by split <;> decide, trivial⟩
    · rename_i h; rw [noSt]; exact ⟨h, ofL kids⟩
  where
  ofL : ∀ k : List Pl, noSt.noL (atP.atL st k)
  | [] => by rw [atP.atL, noSt.noL]; trivial
  | p :: r => by rw [atP.atL, noSt.noL]; exact ⟨at_noSt st p, ofL r⟩
theorem at_ok (st : List Nat) : ∀ p : Pl, okN p → okN (atP st p)
  | .mk op f n kids, h => by
    rw [okN] at h
    rw [atP_mk]
    split
    · rw [okN, okN.okL]; exact ⟨⟨by omega, by omega⟩, trivial⟩
    · rw [okN]; exact ⟨h.1, ofL kids h.2⟩
  where
  ofL : ∀ k : List Pl, okN.okL k → okN.okL (atP.atL st k)
  | [], _ => by rw [atP.atL, okN.okL]; trivial
  | p :: r, h => by
    rw [okN.okL] at h
    rw [atP.atL, okN.okL]
    exact ⟨at_ok st p h.1, ofL r h.2⟩
end Go.Proofs.Ytipiepcbgjceaaa
/- What predicates make, and the laws of sums, sequences and nots, as a model; no conditions. -/
set_option linter.unusedVariables false
set_option linter.unusedSimpArgs false
namespace Go.Proofs.Ytipiepcbgjceaaa

/-- None but q. -/
def Only (q : P8) (l : List P8) : Prop := SS l ∧ ∀ z ∈ l, z = q
theorem Only.len {q : P8} {l : List P8} (h : Only q l) : l.length ≤ 1 := len_le_of l [q] (ss_nodup h.1) fun z hz => by rw [h.2 z hz]; exact List.mem_singleton.2 rfl
theorem Only.nil (q : P8) : Only q [] := ⟨ss_nil, fun _ h => by cases h⟩
theorem Only.one (q : P8) : Only q [q] := ⟨ss_one q, fun z h => List.mem_singleton.1 h⟩
theorem Only.ite (q : P8) (c : Prop) [Decidable c] : Only q (if c then [q] else []) := by
  split
  · exact Only.one q
  · exact Only.nil q
theorem Only.uni {q : P8} {a b : List P8} (ha : Only q a) (hb : Only q b) : Only q (uni a b) := ⟨uni_ss _ _, fun z hz => ((mem_uni a b z).1 hz).elim (ha.2 z) (hb.2 z)⟩
theorem Only.eq {q : P8} {l : List P8} (h : Only q l) : l = [] ∨ l = [q] := by
  match l, h.len, h.2 with
  | [], _, _ => exact .inl rfl
  | [x], _, k => exact .inr (by rw [k x (List.mem_singleton.2 rfl)])
theorem eachM_only {g : P8 → Option (List P8)} {q : P8} (hg : ∃ m, g q = some m ∧ Only q m) : ∀ (l acc : List P8), (∀ z ∈ l, z = q) → Only q acc → ∃ r, eachM g l acc = some r ∧ Only q r
  | [], acc, _, ha => ⟨acc, by rw [eachM], ha⟩
  | x :: l, acc, hl, ha => by
    obtain ⟨m, hm, hq⟩ := hg
    have hx : x = q := hl x (List.mem_cons_self ..)
    have hu := ha.uni hq
    have := hu.len
    rw [eachM, hx, hm]
    dsimp only
    rw [if_neg (by omega)]
    exact eachM_only ⟨m, hm, hq⟩ l _ (fun z hz => hl z (List.mem_cons_of_mem _ hz)) hu
/-- A predicate lets a packet through, or not; its work is never too great. -/
theorem pred_only (st : List Nat) (parts : Int) : ∀ (p : Pl) (q : P8), predP p = true → formP parts p = true → ∃ l, mkP st p q = some l ∧ Only q l
  | .mk op f n kids, q, hp, hf => by
    rw [formP_eq, Bool.and_eq_true] at hf
    rw [predP, Bool.or_eq_true, Bool.and_eq_true] at hp
    rw [mkP_mk]
    by_cases h0 : op = 0
    · rw [if_pos h0]; exact ⟨_, rfl, Only.nil q⟩
    rw [if_neg h0]
    by_cases h1 : op = 1
    · rw [if_pos h1]; exact ⟨_, rfl, Only.one q⟩
    rw [if_neg h1]
    by_cases h2 : op = 2
    · rw [if_pos h2]; exact ⟨_, rfl, Only.ite q _⟩
    rw [if_neg h2]
    by_cases h3 : op = 3
    · rw [if_pos h3]; exact ⟨_, rfl, Only.ite q _⟩
    rw [if_neg h3]
    by_cases h4 : op = 4
    · rw [if_pos h4]
      have hk := hf.1
      subst h4
      unfold nodeB at hk
      simp only [show ¬((4 : Int) = 0 ∨ (4 : Int) = 1) by omega, show ¬(4 : Int) = 2 by omega, show ¬(4 : Int) = 3 by omega, show ¬(4 : Int) = 5 by omega, if_false, if_true, Bool.and_eq_true] at hk
      obtain ⟨l, hl, hq⟩ := fst kids q hk.2 hf.2
      rw [hl]
      exact ⟨_, rfl, Only.ite q _⟩
    rw [if_neg h4]
    have hm : opM op = true ∧ predP.predL kids = true := by
      rcases hp with h | h
      · unfold opB at h
        simp [h0, h1, h2, h3, h4] at h
      · exact h
    by_cases h5 : op = 5
    · subst h5; exact absurd hm.1 (by decide)
    rw [if_neg h5]
    by_cases h6 : op = 6
    · rw [if_pos h6]
      exact seq kids [q] q hm.2 hf.2 (Only.one q)
    · rw [if_neg h6]
      exact sum kids q [] hm.2 hf.2 (Only.nil q)
  where
  fst : ∀ (k : List Pl) (q : P8), pred0 k = true → formP.formL parts k = true → ∃ l, mkP.mkFst st k q = some l ∧ Only q l
  | [], q, h, _ => by rw [pred0] at h; cases h
  | p :: r, q, h, hf => by
    rw [pred0] at h
    rw [formP.formL, Bool.and_eq_true] at hf
    rw [mkP.mkFst]
    exact pred_only st parts p q h hf.1
  seq : ∀ (k : List Pl) (l : List P8) (q : P8), predP.predL k = true → formP.formL parts k = true → Only q l → ∃ r, mkP.mkSeq st k l = some r ∧ Only q r
  | [], l, q, _, _, ho => ⟨l, by rw [mkP.mkSeq], ho⟩
  | p :: r, l, q, h, hf, ho => by
    rw [predP.predL, Bool.and_eq_true] at h
    rw [formP.formL, Bool.and_eq_true] at hf
    rw [mkP.mkSeq]
    obtain ⟨m, hm, hq⟩ := eachM_only (g := fun x => mkP st p x) (pred_only st parts p q h.1 hf.1) l [] ho.2 (Only.nil q)
    rw [hm]
    exact seq r m q h.2 hf.2 hq
  sum : ∀ (k : List Pl) (q : P8) (acc : List P8), predP.predL k = true → formP.formL parts k = true → Only q acc → ∃ r, mkP.mkSum st k q acc = some r ∧ Only q r
  | [], q, acc, _, _, ho => ⟨acc, by rw [mkP.mkSum], ho⟩
  | p :: r, q, acc, h, hf, ho => by
    rw [predP.predL, Bool.and_eq_true] at h
    rw [formP.formL, Bool.and_eq_true] at hf
    rw [mkP.mkSum]
    obtain ⟨m, hm, hq⟩ := pred_only st parts p q h.1 hf.1
    have hu := ho.uni hq
    have := hu.len
    rw [hm]
    dsimp only
    rw [if_neg (by omega)]
    exact sum r q _ h.2 hf.2 hu

/-! ### The laws -/
/-- Two policies make the same of q, where the work of neither is too great. -/
def Agree (st : List Nat) (q : P8) (p r : Pl) : Prop := ∀ l m, mkP st p q = some l → mkP st r q = some m → l = m
theorem agree_of {st : List Nat} {q : P8} {p r : Pl} (h : ∀ x, Mk st p q x ↔ Mk st r q x) : Agree st q p r :=
  fun l m hl hm => (mkP_is st p q l hl).same (mkP_is st r q m hm) h
def sumP (l : List Pl) : Pl := .mk 7 0 0 l
def seqP (l : List Pl) : Pl := .mk 6 0 0 l
def notP (p : Pl) : Pl := .mk 4 0 0 [p]
def idP : Pl := .mk 1 0 0 []
def nonePl : Pl := .mk 0 0 0 []
theorem mk_sum2 (st : List Nat) (a b : Pl) (q x : P8) : Mk st (sumP [a, b]) q x ↔ Mk st a q x ∨ Mk st b q x := by
  unfold sumP; rw [Mk_mk]; simp [Mk.MkSum]
theorem mk_sum3 (st : List Nat) (a b c : Pl) (q x : P8) : Mk st (sumP [a, b, c]) q x ↔ Mk st a q x ∨ Mk st b q x ∨ Mk st c q x := by
  unfold sumP; rw [Mk_mk]; simp [Mk.MkSum]
theorem mk_seq2 (st : List Nat) (a b : Pl) (q x : P8) : Mk st (seqP [a, b]) q x ↔ ∃ y, Mk st a q y ∧ Mk st b y x := by
  unfold seqP; rw [Mk_mk]; simp [Mk.MkSeq]
theorem mk_seq3 (st : List Nat) (a b c : Pl) (q x : P8) : Mk st (seqP [a, b, c]) q x ↔ ∃ y, Mk st a q y ∧ ∃ z, Mk st b y z ∧ Mk st c z x := by
  unfold seqP; rw [Mk_mk]; simp [Mk.MkSeq]
theorem mk_not (st : List Nat) (a : Pl) (q x : P8) : Mk st (notP a) q x ↔ (¬ ∃ y, Mk st a q y) ∧ x = q := by
  unfold notP; rw [Mk_mk]; simp [Mk.MkFst]
theorem mk_id (st : List Nat) (q x : P8) : Mk st idP q x ↔ x = q := by unfold idP; rw [Mk_mk]; simp
theorem mk_drop (st : List Nat) (q x : P8) : Mk st nonePl q x ↔ False := by unfold nonePl; rw [Mk_mk]; simp
theorem law1 (st : List Nat) (q : P8) (a b c : Pl) : Agree st q (sumP [a, sumP [b, c]]) (sumP [sumP [a, b], c]) := agree_of fun x => by simp only [mk_sum2, or_assoc]
theorem law2 (st : List Nat) (q : P8) (a b c : Pl) : Agree st q (sumP [sumP [a, b], c]) (sumP [a, b, c]) := agree_of fun x => by simp only [mk_sum2, mk_sum3, or_assoc]
theorem law3 (st : List Nat) (q : P8) (a b c : Pl) : Agree st q (sumP [a, b, c]) (sumP [c, b, a]) := agree_of fun x => by
  simp only [mk_sum3]
  constructor
  · rintro (h | h | h)
    · exact .inr (.inr h)
    · exact .inr (.inl h)
    · exact .inl h
  · rintro (h | h | h)
    · exact .inr (.inr h)
    · exact .inr (.inl h)
    · exact .inl h
theorem law4 (st : List Nat) (q : P8) (a b c : Pl) : Agree st q (seqP [a, seqP [b, c]]) (seqP [seqP [a, b], c]) := agree_of fun x => by
  simp only [mk_seq2]
  constructor
  · rintro ⟨y, h1, z, h2, h3⟩; exact ⟨z, ⟨y, h1, h2⟩, h3⟩
  · rintro ⟨z, ⟨y, h1, h2⟩, h3⟩; exact ⟨y, h1, z, h2, h3⟩
theorem law5 (st : List Nat) (q : P8) (a b c : Pl) : Agree st q (seqP [seqP [a, b], c]) (seqP [a, b, c]) := agree_of fun x => by
  simp only [mk_seq2, mk_seq3]
  constructor
  · rintro ⟨z, ⟨y, h1, h2⟩, h3⟩; exact ⟨y, h1, z, h2, h3⟩
  · rintro ⟨y, h1, z, h2, h3⟩; exact ⟨z, ⟨y, h1, h2⟩, h3⟩
theorem law6 (st : List Nat) (q : P8) (a : Pl) : Agree st q (sumP [a, a]) a := agree_of fun x => by simp only [mk_sum2, or_self]
theorem law7 (st : List Nat) (q : P8) (a : Pl) : Agree st q a (sumP [a, nonePl]) := agree_of fun x => by simp only [mk_sum2, mk_drop, or_false]
theorem law8 (st : List Nat) (q : P8) (a : Pl) : Agree st q (sumP [a, nonePl]) (seqP [a, idP]) := agree_of fun x => by
  simp only [mk_sum2, mk_drop, or_false, mk_seq2, mk_id]
  exact ⟨fun h => ⟨x, h, rfl⟩, fun ⟨y, h, e⟩ => by rw [e]; exact h⟩
theorem law9 (st : List Nat) (q : P8) (a : Pl) : Agree st q (seqP [a, idP]) (seqP [idP, a]) := agree_of fun x => by
  simp only [mk_seq2, mk_id]
  exact ⟨fun ⟨y, h, e⟩ => ⟨q, rfl, by rw [e]; exact h⟩, fun ⟨y, e, h⟩ => ⟨x, by rw [e] at h; exact h, rfl⟩⟩
theorem law10 (st : List Nat) (q : P8) (a : Pl) : Agree st q (seqP [a, nonePl]) (seqP [nonePl, a]) := agree_of fun x => by
  simp only [mk_seq2, mk_drop]
  exact ⟨fun ⟨y, _, e⟩ => e.elim, fun ⟨y, e, _⟩ => e.elim⟩
theorem law11 (st : List Nat) (q : P8) (a : Pl) : Agree st q (seqP [nonePl, a]) nonePl := agree_of fun x => by
  simp only [mk_seq2, mk_drop]
  exact ⟨fun ⟨y, e, _⟩ => e.elim, fun e => e.elim⟩
theorem law12 (st : List Nat) (q : P8) (a b c : Pl) : Agree st q (seqP [a, sumP [b, c]]) (sumP [seqP [a, b], seqP [a, c]]) := agree_of fun x => by
  simp only [mk_seq2, mk_sum2]
  constructor
  · rintro ⟨y, h, k | k⟩
    · exact .inl ⟨y, h, k⟩
    · exact .inr ⟨y, h, k⟩
  · rintro (⟨y, h, k⟩ | ⟨y, h, k⟩)
    · exact ⟨y, h, .inl k⟩
    · exact ⟨y, h, .inr k⟩
theorem law13 (st : List Nat) (q : P8) (a b c : Pl) : Agree st q (seqP [sumP [a, b], c]) (sumP [seqP [a, c], seqP [b, c]]) := agree_of fun x => by
  simp only [mk_seq2, mk_sum2]
  constructor
  · rintro ⟨y, h | h, k⟩
    · exact .inl ⟨y, h, k⟩
    · exact .inr ⟨y, h, k⟩
  · rintro (⟨y, h, k⟩ | ⟨y, h, k⟩)
    · exact ⟨y, .inl h, k⟩
    · exact ⟨y, .inr h, k⟩
/-! ### Of predicates -/
/-- It lets q through as it is, or not at all. -/
def Lets (st : List Nat) (a : Pl) : Prop := ∀ q x, Mk st a q x → x = q
theorem lets_pred {st : List Nat} {parts : Int} {a : Pl} (hp : predP a = true) (hf : formP parts a = true) : Lets st a := fun q x h => by
  obtain ⟨l, hl, ho⟩ := pred_only st parts a q hp hf
  exact ho.2 x (((mkP_is st a q l hl).2 x).2 h)
theorem Lets.ex {st : List Nat} {a : Pl} (h : Lets st a) (q : P8) : (∃ y, Mk st a q y) ↔ Mk st a q q :=
  ⟨fun ⟨y, hy⟩ => by rw [h q y hy] at hy; exact hy, fun hq => ⟨q, hq⟩⟩
theorem Lets.iff {st : List Nat} {a : Pl} (h : Lets st a) (q x : P8) : Mk st a q x ↔ Mk st a q q ∧ x = q :=
  ⟨fun hx => by have e := h q x hx; subst e; exact ⟨hx, rfl⟩, fun ⟨hq, e⟩ => by rw [e]; exact hq⟩
theorem lets_not (st : List Nat) (a : Pl) : Lets st (notP a) := fun q x h => ((mk_not st a q x).1 h).2
theorem Lets.seq {st : List Nat} {a b : Pl} (ha : Lets st a) (hb : Lets st b) (q x : P8) : Mk st (seqP [a, b]) q x ↔ (Mk st a q q ∧ Mk st b q q) ∧ x = q := by
  rw [mk_seq2]
  constructor
  · rintro ⟨y, h1, h2⟩
    have e := ha q y h1
    subst e
    have e := hb y x h2
    subst e
    exact ⟨⟨h1, h2⟩, rfl⟩
  · rintro ⟨⟨h1, h2⟩, rfl⟩; exact ⟨_, h1, h2⟩
theorem Lets.not {st : List Nat} {a : Pl} (h : Lets st a) (q x : P8) : Mk st (notP a) q x ↔ ¬ Mk st a q q ∧ x = q := by rw [mk_not, h.ex]
theorem Lets.sum {st : List Nat} {a b : Pl} (ha : Lets st a) (hb : Lets st b) : Lets st (sumP [a, b]) := fun q x h => by
  rcases (mk_sum2 st a b q x).1 h with h | h
  · exact ha q x h
  · exact hb q x h
theorem Lets.sq {st : List Nat} {a b : Pl} (ha : Lets st a) (hb : Lets st b) : Lets st (seqP [a, b]) := fun q x h => ((ha.seq hb q x).1 h).2
section
variable {st : List Nat} {a b : Pl} (q : P8)
theorem nots1 (ha : Lets st a) : Agree st q (sumP [a, notP a]) idP := agree_of fun x => by
  rw [mk_sum2, ha.iff, ha.not, mk_id]
  by_cases h : Mk st a q q <;> simp [h]
theorem nots2 (ha : Lets st a) : Agree st q (seqP [a, notP a]) nonePl := agree_of fun x => by
  rw [ha.seq (lets_not st a), mk_drop, ha.not q q]
  by_cases h : Mk st a q q <;> simp [h]
theorem nots3 (ha : Lets st a) : Agree st q (notP (notP a)) a := agree_of fun x => by
  rw [(lets_not st a).not, ha.not, ha.iff q x]
  by_cases h : Mk st a q q <;> simp [h]
theorem nots4 (ha : Lets st a) : Agree st q a (seqP [a, a]) := agree_of fun x => by
  rw [ha.seq ha, ha.iff q x, and_self]
theorem nots5 (ha : Lets st a) (hb : Lets st b) : Agree st q (notP (sumP [a, b])) (seqP [notP a, notP b]) := agree_of fun x => by
  rw [(ha.sum hb).not, (lets_not st a).seq (lets_not st b), mk_sum2, ha.not, hb.not]
  by_cases h : Mk st a q q <;> by_cases k : Mk st b q q <;> simp [h, k]
theorem nots6 (ha : Lets st a) (hb : Lets st b) : Agree st q (notP (seqP [a, b])) (sumP [notP a, notP b]) := agree_of fun x => by
  rw [(ha.sq hb).not, ha.seq hb, mk_sum2, ha.not, hb.not]
  by_cases h : Mk st a q q <;> by_cases k : Mk st b q q <;> simp [h, k]
theorem nots7 (ha : Lets st a) (hb : Lets st b) : Agree st q (seqP [a, b]) (seqP [b, a]) := agree_of fun x => by
  rw [ha.seq hb, hb.seq ha, and_comm (a := Mk st a q q)]
end
end Go.Proofs.Ytipiepcbgjceaaa
