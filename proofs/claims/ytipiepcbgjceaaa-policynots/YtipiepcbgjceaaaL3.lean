/- What predicates make, and the laws of sums, sequences and nots, as a model; no conditions. -/
import Derived.Test.YtipiepcbgjceaaaL2
set_option linter.unusedVariables false
set_option linter.unusedSimpArgs false
namespace Go.Proofs.Ytipiepcbgjceaaa

/-- None but q. -/
def Only (q : P8) (l : List P8) : Prop := SS l ∧ ∀ z ∈ l, z = q
theorem Only.len {q : P8} {l : List P8} (h : Only q l) : l.length ≤ 1 := len_le_of l [q] (ss_nodup h.1) fun z hz => by rw [h.2 z hz]; exact List.mem_singleton.2 rfl
theorem Only.nil (q : P8) : Only q [] := ⟨ss_nil, fun _ h => by cases h⟩
theorem Only.one (q : P8) : Only q [q] := ⟨ss_one q, fun z h => List.mem_singleton.1 h⟩
theorem Only.ite (q : P8) (c : Prop) [Decidable c] : Only q (if c then [q] else []) := by
  split
  · exact Only.one q
  · exact Only.nil q
theorem Only.uni {q : P8} {a b : List P8} (ha : Only q a) (hb : Only q b) : Only q (uni a b) := ⟨uni_ss _ _, fun z hz => ((mem_uni a b z).1 hz).elim (ha.2 z) (hb.2 z)⟩
theorem Only.eq {q : P8} {l : List P8} (h : Only q l) : l = [] ∨ l = [q] := by
  match l, h.len, h.2 with
  | [], _, _ => exact .inl rfl
  | [x], _, k => exact .inr (by rw [k x (List.mem_singleton.2 rfl)])
theorem eachM_only {g : P8 → Option (List P8)} {q : P8} (hg : ∃ m, g q = some m ∧ Only q m) : ∀ (l acc : List P8), (∀ z ∈ l, z = q) → Only q acc → ∃ r, eachM g l acc = some r ∧ Only q r
  | [], acc, _, ha => ⟨acc, by rw [eachM], ha⟩
  | x :: l, acc, hl, ha => by
    obtain ⟨m, hm, hq⟩ := hg
    have hx : x = q := hl x (List.mem_cons_self ..)
    have hu := ha.uni hq
    have := hu.len
    rw [eachM, hx, hm]
    dsimp only
    rw [if_neg (by omega)]
    exact eachM_only ⟨m, hm, hq⟩ l _ (fun z hz => hl z (List.mem_cons_of_mem _ hz)) hu
/-- A predicate lets a packet through, or not; its work is never too great. -/
theorem pred_only (st : List Nat) (parts : Int) : ∀ (p : Pl) (q : P8), predP p = true → formP parts p = true → ∃ l, mkP st p q = some l ∧ Only q l
  | .mk op f n kids, q, hp, hf => by
    rw [formP_eq, Bool.and_eq_true] at hf
    rw [predP, Bool.or_eq_true, Bool.and_eq_true] at hp
    rw [mkP_mk]
    by_cases h0 : op = 0
    · rw [if_pos h0]; exact ⟨_, rfl, Only.nil q⟩
    rw [if_neg h0]
    by_cases h1 : op = 1
    · rw [if_pos h1]; exact ⟨_, rfl, Only.one q⟩
    rw [if_neg h1]
    by_cases h2 : op = 2
    · rw [if_pos h2]; exact ⟨_, rfl, Only.ite q _⟩
    rw [if_neg h2]
    by_cases h3 : op = 3
    · rw [if_pos h3]; exact ⟨_, rfl, Only.ite q _⟩
    rw [if_neg h3]
    by_cases h4 : op = 4
    · rw [if_pos h4]
      have hk := hf.1
      subst h4
      unfold nodeB at hk
      simp only [show ¬((4 : Int) = 0 ∨ (4 : Int) = 1) by omega, show ¬(4 : Int) = 2 by omega, show ¬(4 : Int) = 3 by omega, show ¬(4 : Int) = 5 by omega, if_false, if_true, Bool.and_eq_true] at hk
      obtain ⟨l, hl, hq⟩ := fst kids q hk.2 hf.2
      rw [hl]
      exact ⟨_, rfl, Only.ite q _⟩
    rw [if_neg h4]
    have hm : opM op = true ∧ predP.predL kids = true := by
      rcases hp with h | h
      · unfold opB at h
        simp [h0, h1, h2, h3, h4] at h
      · exact h
    by_cases h5 : op = 5
    · subst h5; exact absurd hm.1 (by decide)
    rw [if_neg h5]
    by_cases h6 : op = 6
    · rw [if_pos h6]
      exact seq kids [q] q hm.2 hf.2 (Only.one q)
    · rw [if_neg h6]
      exact sum kids q [] hm.2 hf.2 (Only.nil q)
  where
  fst : ∀ (k : List Pl) (q : P8), pred0 k = true → formP.formL parts k = true → ∃ l, mkP.mkFst st k q = some l ∧ Only q l
  | [], q, h, _ => by rw [pred0] at h; cases h
  | p :: r, q, h, hf => by
    rw [pred0] at h
    rw [formP.formL, Bool.and_eq_true] at hf
    rw [mkP.mkFst]
    exact pred_only st parts p q h hf.1
  seq : ∀ (k : List Pl) (l : List P8) (q : P8), predP.predL k = true → formP.formL parts k = true → Only q l → ∃ r, mkP.mkSeq st k l = some r ∧ Only q r
  | [], l, q, _, _, ho => ⟨l, by rw [mkP.mkSeq], ho⟩
  | p :: r, l, q, h, hf, ho => by
    rw [predP.predL, Bool.and_eq_true] at h
    rw [formP.formL, Bool.and_eq_true] at hf
    rw [mkP.mkSeq]
    obtain ⟨m, hm, hq⟩ := eachM_only (g := fun x => mkP st p x) (pred_only st parts p q h.1 hf.1) l [] ho.2 (Only.nil q)
    rw [hm]
    exact seq r m q h.2 hf.2 hq
  sum : ∀ (k : List Pl) (q : P8) (acc : List P8), predP.predL k = true → formP.formL parts k = true → Only q acc → ∃ r, mkP.mkSum st k q acc = some r ∧ Only q r
  | [], q, acc, _, _, ho => ⟨acc, by rw [mkP.mkSum], ho⟩
  | p :: r, q, acc, h, hf, ho => by
    rw [predP.predL, Bool.and_eq_true] at h
    rw [formP.formL, Bool.and_eq_true] at hf
    rw [mkP.mkSum]
    obtain ⟨m, hm, hq⟩ := pred_only st parts p q h.1 hf.1
    have hu := ho.uni hq
    have := hu.len
    rw [hm]
    dsimp only
    rw [if_neg (by omega)]
    exact sum r q _ h.2 hf.2 hu

/-! ### The laws -/
/-- Two policies make the same of q, where the work of neither is too great. -/
def Agree (st : List Nat) (q : P8) (p r : Pl) : Prop := ∀ l m, mkP st p q = some l → mkP st r q = some m → l = m
theorem agree_of {st : List Nat} {q : P8} {p r : Pl} (h : ∀ x, Mk st p q x ↔ Mk st r q x) : Agree st q p r :=
  fun l m hl hm => (mkP_is st p q l hl).same (mkP_is st r q m hm) h
def sumP (l : List Pl) : Pl := .mk 7 0 0 l
def seqP (l : List Pl) : Pl := .mk 6 0 0 l
def notP (p : Pl) : Pl := .mk 4 0 0 [p]
def idP : Pl := .mk 1 0 0 []
def nonePl : Pl := .mk 0 0 0 []
theorem mk_sum2 (st : List Nat) (a b : Pl) (q x : P8) : Mk st (sumP [a, b]) q x ↔ Mk st a q x ∨ Mk st b q x := by
  unfold sumP; rw [Mk_mk]; simp [Mk.MkSum]
theorem mk_sum3 (st : List Nat) (a b c : Pl) (q x : P8) : Mk st (sumP [a, b, c]) q x ↔ Mk st a q x ∨ Mk st b q x ∨ Mk st c q x := by
  unfold sumP; rw [Mk_mk]; simp [Mk.MkSum]
theorem mk_seq2 (st : List Nat) (a b : Pl) (q x : P8) : Mk st (seqP [a, b]) q x ↔ ∃ y, Mk st a q y ∧ Mk st b y x := by
  unfold seqP; rw [Mk_mk]; simp [Mk.MkSeq]
theorem mk_seq3 (st : List Nat) (a b c : Pl) (q x : P8) : Mk st (seqP [a, b, c]) q x ↔ ∃ y, Mk st a q y ∧ ∃ z, Mk st b y z ∧ Mk st c z x := by
  unfold seqP; rw [Mk_mk]; simp [Mk.MkSeq]
theorem mk_not (st : List Nat) (a : Pl) (q x : P8) : Mk st (notP a) q x ↔ (¬ ∃ y, Mk st a q y) ∧ x = q := by
  unfold notP; rw [Mk_mk]; simp [Mk.MkFst]
theorem mk_id (st : List Nat) (q x : P8) : Mk st idP q x ↔ x = q := by unfold idP; rw [Mk_mk]; simp
theorem mk_drop (st : List Nat) (q x : P8) : Mk st nonePl q x ↔ False := by unfold nonePl; rw [Mk_mk]; simp
theorem law1 (st : List Nat) (q : P8) (a b c : Pl) : Agree st q (sumP [a, sumP [b, c]]) (sumP [sumP [a, b], c]) := agree_of fun x => by simp only [mk_sum2, or_assoc]
theorem law2 (st : List Nat) (q : P8) (a b c : Pl) : Agree st q (sumP [sumP [a, b], c]) (sumP [a, b, c]) := agree_of fun x => by simp only [mk_sum2, mk_sum3, or_assoc]
theorem law3 (st : List Nat) (q : P8) (a b c : Pl) : Agree st q (sumP [a, b, c]) (sumP [c, b, a]) := agree_of fun x => by
  simp only [mk_sum3]
  constructor
  · rintro (h | h | h)
    · exact .inr (.inr h)
    · exact .inr (.inl h)
    · exact .inl h
  · rintro (h | h | h)
    · exact .inr (.inr h)
    · exact .inr (.inl h)
    · exact .inl h
theorem law4 (st : List Nat) (q : P8) (a b c : Pl) : Agree st q (seqP [a, seqP [b, c]]) (seqP [seqP [a, b], c]) := agree_of fun x => by
  simp only [mk_seq2]
  constructor
  · rintro ⟨y, h1, z, h2, h3⟩; exact ⟨z, ⟨y, h1, h2⟩, h3⟩
  · rintro ⟨z, ⟨y, h1, h2⟩, h3⟩; exact ⟨y, h1, z, h2, h3⟩
theorem law5 (st : List Nat) (q : P8) (a b c : Pl) : Agree st q (seqP [seqP [a, b], c]) (seqP [a, b, c]) := agree_of fun x => by
  simp only [mk_seq2, mk_seq3]
  constructor
  · rintro ⟨z, ⟨y, h1, h2⟩, h3⟩; exact ⟨y, h1, z, h2, h3⟩
  · rintro ⟨y, h1, z, h2, h3⟩; exact ⟨z, ⟨y, h1, h2⟩, h3⟩
theorem law6 (st : List Nat) (q : P8) (a : Pl) : Agree st q (sumP [a, a]) a := agree_of fun x => by simp only [mk_sum2, or_self]
theorem law7 (st : List Nat) (q : P8) (a : Pl) : Agree st q a (sumP [a, nonePl]) := agree_of fun x => by simp only [mk_sum2, mk_drop, or_false]
theorem law8 (st : List Nat) (q : P8) (a : Pl) : Agree st q (sumP [a, nonePl]) (seqP [a, idP]) := agree_of fun x => by
  simp only [mk_sum2, mk_drop, or_false, mk_seq2, mk_id]
  exact ⟨fun h => ⟨x, h, rfl⟩, fun ⟨y, h, e⟩ => by rw [e]; exact h⟩
theorem law9 (st : List Nat) (q : P8) (a : Pl) : Agree st q (seqP [a, idP]) (seqP [idP, a]) := agree_of fun x => by
  simp only [mk_seq2, mk_id]
  exact ⟨fun ⟨y, h, e⟩ => ⟨q, rfl, by rw [e]; exact h⟩, fun ⟨y, e, h⟩ => ⟨x, by rw [e] at h; exact h, rfl⟩⟩
theorem law10 (st : List Nat) (q : P8) (a : Pl) : Agree st q (seqP [a, nonePl]) (seqP [nonePl, a]) := agree_of fun x => by
  simp only [mk_seq2, mk_drop]
  exact ⟨fun ⟨y, _, e⟩ => e.elim, fun ⟨y, e, _⟩ => e.elim⟩
theorem law11 (st : List Nat) (q : P8) (a : Pl) : Agree st q (seqP [nonePl, a]) nonePl := agree_of fun x => by
  simp only [mk_seq2, mk_drop]
  exact ⟨fun ⟨y, e, _⟩ => e.elim, fun e => e.elim⟩
theorem law12 (st : List Nat) (q : P8) (a b c : Pl) : Agree st q (seqP [a, sumP [b, c]]) (sumP [seqP [a, b], seqP [a, c]]) := agree_of fun x => by
  simp only [mk_seq2, mk_sum2]
  constructor
  · rintro ⟨y, h, k | k⟩
    · exact .inl ⟨y, h, k⟩
    · exact .inr ⟨y, h, k⟩
  · rintro (⟨y, h, k⟩ | ⟨y, h, k⟩)
    · exact ⟨y, h, .inl k⟩
    · exact ⟨y, h, .inr k⟩
theorem law13 (st : List Nat) (q : P8) (a b c : Pl) : Agree st q (seqP [sumP [a, b], c]) (sumP [seqP [a, c], seqP [b, c]]) := agree_of fun x => by
  simp only [mk_seq2, mk_sum2]
  constructor
  · rintro ⟨y, h | h, k⟩
    · exact .inl ⟨y, h, k⟩
    · exact .inr ⟨y, h, k⟩
  · rintro (⟨y, h, k⟩ | ⟨y, h, k⟩)
    · exact ⟨y, .inl h, k⟩
    · exact ⟨y, .inr h, k⟩
/-! ### Of predicates -/
/-- It lets q through as it is, or not at all. -/
def Lets (st : List Nat) (a : Pl) : Prop := ∀ q x, Mk st a q x → x = q
theorem lets_pred {st : List Nat} {parts : Int} {a : Pl} (hp : predP a = true) (hf : formP parts a = true) : Lets st a := fun q x h => by
  obtain ⟨l, hl, ho⟩ := pred_only st parts a q hp hf
  exact ho.2 x (((mkP_is st a q l hl).2 x).2 h)
theorem Lets.ex {st : List Nat} {a : Pl} (h : Lets st a) (q : P8) : (∃ y, Mk st a q y) ↔ Mk st a q q :=
  ⟨fun ⟨y, hy⟩ => by rw [h q y hy] at hy; exact hy, fun hq => ⟨q, hq⟩⟩
theorem Lets.iff {st : List Nat} {a : Pl} (h : Lets st a) (q x : P8) : Mk st a q x ↔ Mk st a q q ∧ x = q :=
  ⟨fun hx => by have e := h q x hx; subst e; exact ⟨hx, rfl⟩, fun ⟨hq, e⟩ => by rw [e]; exact hq⟩
theorem lets_not (st : List Nat) (a : Pl) : Lets st (notP a) := fun q x h => ((mk_not st a q x).1 h).2
theorem Lets.seq {st : List Nat} {a b : Pl} (ha : Lets st a) (hb : Lets st b) (q x : P8) : Mk st (seqP [a, b]) q x ↔ (Mk st a q q ∧ Mk st b q q) ∧ x = q := by
  rw [mk_seq2]
  constructor
  · rintro ⟨y, h1, h2⟩
    have e := ha q y h1
    subst e
    have e := hb y x h2
    subst e
    exact ⟨⟨h1, h2⟩, rfl⟩
  · rintro ⟨⟨h1, h2⟩, rfl⟩; exact ⟨_, h1, h2⟩
theorem Lets.not {st : List Nat} {a : Pl} (h : Lets st a) (q x : P8) : Mk st (notP a) q x ↔ ¬ Mk st a q q ∧ x = q := by rw [mk_not, h.ex]
theorem Lets.sum {st : List Nat} {a b : Pl} (ha : Lets st a) (hb : Lets st b) : Lets st (sumP [a, b]) := fun q x h => by
  rcases (mk_sum2 st a b q x).1 h with h | h
  · exact ha q x h
  · exact hb q x h
theorem Lets.sq {st : List Nat} {a b : Pl} (ha : Lets st a) (hb : Lets st b) : Lets st (seqP [a, b]) := fun q x h => ((ha.seq hb q x).1 h).2
section
variable {st : List Nat} {a b : Pl} (q : P8)
theorem nots1 (ha : Lets st a) : Agree st q (sumP [a, notP a]) idP := agree_of fun x => by
  rw [mk_sum2, ha.iff, ha.not, mk_id]
  by_cases h : Mk st a q q <;> simp [h]
theorem nots2 (ha : Lets st a) : Agree st q (seqP [a, notP a]) nonePl := agree_of fun x => by
  rw [ha.seq (lets_not st a), mk_drop, ha.not q q]
  by_cases h : Mk st a q q <;> simp [h]
theorem nots3 (ha : Lets st a) : Agree st q (notP (notP a)) a := agree_of fun x => by
  rw [(lets_not st a).not, ha.not, ha.iff q x]
  by_cases h : Mk st a q q <;> simp [h]
theorem nots4 (ha : Lets st a) : Agree st q a (seqP [a, a]) := agree_of fun x => by
  rw [ha.seq ha, ha.iff q x, and_self]
theorem nots5 (ha : Lets st a) (hb : Lets st b) : Agree st q (notP (sumP [a, b])) (seqP [notP a, notP b]) := agree_of fun x => by
  rw [(ha.sum hb).not, (lets_not st a).seq (lets_not st b), mk_sum2, ha.not, hb.not]
  by_cases h : Mk st a q q <;> by_cases k : Mk st b q q <;> simp [h, k]
theorem nots6 (ha : Lets st a) (hb : Lets st b) : Agree st q (notP (seqP [a, b])) (sumP [notP a, notP b]) := agree_of fun x => by
  rw [(ha.sq hb).not, ha.seq hb, mk_sum2, ha.not, hb.not]
  by_cases h : Mk st a q q <;> by_cases k : Mk st b q q <;> simp [h, k]
theorem nots7 (ha : Lets st a) (hb : Lets st b) : Agree st q (seqP [a, b]) (seqP [b, a]) := agree_of fun x => by
  rw [ha.seq hb, hb.seq ha, and_comm (a := Mk st a q q)]
end
end Go.Proofs.Ytipiepcbgjceaaa
