/- What a policy makes, where packets are turned so that nothing said turns: the same, turned; no conditions. -/
import Derived.Test.YtipiepcbgjceaaaH1
set_option linter.unusedVariables false
set_option linter.unusedSimpArgs false
namespace Go.Proofs.Ytipiepcbgjceaaa

/-- A set, turned. -/
def turnS (π : P8 → P8) (l : List P8) : List P8 := sortL (l.map π)
theorem mem_turn (π : P8 → P8) (l : List P8) (z : P8) : z ∈ turnS π l ↔ ∃ y ∈ l, π y = z := by unfold turnS; rw [mem_sort, List.mem_map]
theorem turn_ss (π : P8 → P8) (l : List P8) : SS (turnS π l) := sort_ss _
theorem turn_nil (π : P8 → P8) : turnS π [] = [] := rfl
theorem turn_one (π : P8 → P8) (q : P8) : turnS π [q] = [π q] := sort_of_ss (ss_one (π q))
theorem nodup_map_inj {π : P8 → P8} (hi : ∀ x y, π x = π y → x = y) : ∀ {l : List P8}, l.Nodup → (l.map π).Nodup
  | [], _ => List.nodup_nil
  | x :: l, h => by
    obtain ⟨h1, h2⟩ := List.nodup_cons.1 h
    rw [List.map_cons]
    refine List.nodup_cons.2 ⟨fun k => ?_, nodup_map_inj hi h2⟩
    obtain ⟨y, hy, e⟩ := List.mem_map.1 k
    rw [hi y x e] at hy
    exact h1 hy
theorem turn_len {π : P8 → P8} (hi : ∀ x y, π x = π y → x = y) {l : List P8} (h : SS l) : (turnS π l).length = l.length := by
  have h1 : (turnS π l).length ≤ (l.map π).length := len_sort_le _
  have h2 : (l.map π).length ≤ (turnS π l).length := len_le_of _ _ (nodup_map_inj hi (ss_nodup h)) fun z hz => (mem_sort _ _).2 hz
  rw [List.length_map] at h1 h2
  omega
theorem turn_uni (π : P8 → P8) (a b : List P8) : uni (turnS π a) (turnS π b) = turnS π (uni a b) :=
  ss_unique _ _ (uni_ss _ _) (turn_ss _ _) fun z => by
    rw [mem_uni, mem_turn, mem_turn, mem_turn]
    constructor
    · rintro (⟨y, h, e⟩ | ⟨y, h, e⟩)
      · exact ⟨y, (mem_uni a b y).2 (.inl h), e⟩
      · exact ⟨y, (mem_uni a b y).2 (.inr h), e⟩
    · rintro ⟨y, h, e⟩
      rcases (mem_uni a b y).1 h with k | k
      · exact .inl ⟨y, k, e⟩
      · exact .inr ⟨y, k, e⟩

/-! ### Of each one: the order doesn't matter -/
theorem eachM_all {g : P8 → Option (List P8)} : ∀ (l acc r : List P8), eachM g l acc = some r → ∀ x ∈ l, ∃ m, g x = some m
  | [], acc, r, h, x, hx => by cases hx
  | y :: l, acc, r, h, x, hx => by
    rw [eachM] at h
    split at h
    · cases h
    · rename_i m hm
      split at h
      · cases h
      · rcases List.mem_cons.1 hx with rfl | hx
        · exact ⟨m, hm⟩
        · exact eachM_all l _ r h x hx
/-- What all together are. -/
def AllOf (g : P8 → Option (List P8)) (l acc r : List P8) : Prop := SS r ∧ ∀ z, z ∈ r ↔ z ∈ acc ∨ ∃ x ∈ l, ∃ m, g x = some m ∧ z ∈ m
theorem eachM_of {g : P8 → Option (List P8)} : ∀ (l acc r : List P8), SS acc → (∀ x ∈ l, ∃ m, g x = some m) → AllOf g l acc r → r.length ≤ 64 → eachM g l acc = some r
  | [], acc, r, ha, _, hr, _ => by
    rw [eachM]
    congr 1
    exact ss_unique _ _ ha hr.1 fun z => by
      rw [hr.2 z]
      constructor
      · exact .inl
      · rintro (h | ⟨x, hx, -⟩)
        · exact h
        · cases hx
  | y :: l, acc, r, ha, hs, hr, hl => by
    obtain ⟨m, hm⟩ := hs y (List.mem_cons_self ..)
    have hsub : (uni acc m).length ≤ r.length := len_le_of _ _ (ss_nodup (uni_ss _ _)) fun z hz => by
      rcases (mem_uni acc m z).1 hz with k | k
      · exact (hr.2 z).2 (.inl k)
      · exact (hr.2 z).2 (.inr ⟨y, List.mem_cons_self .., m, hm, k⟩)
    rw [eachM, hm]
    dsimp only
    rw [if_neg (by omega)]
    refine eachM_of l (uni acc m) r (uni_ss _ _) (fun x hx => hs x (List.mem_cons_of_mem _ hx)) ⟨hr.1, fun z => ?_⟩ hl
    rw [hr.2 z, mem_uni]
    constructor
    · rintro (h | ⟨x, hx, k, hk, hz⟩)
      · exact .inl (.inl h)
      · rcases List.mem_cons.1 hx with rfl | hx
        · rw [hm] at hk; cases hk; exact .inl (.inr hz)
        · exact .inr ⟨x, hx, k, hk, hz⟩
    · rintro ((h | h) | ⟨x, hx, k, hk, hz⟩)
      · exact .inl h
      · exact .inr ⟨y, List.mem_cons_self .., m, hm, h⟩
      · exact .inr ⟨x, List.mem_cons_of_mem _ hx, k, hk, hz⟩
theorem eachM_allOf {g : P8 → Option (List P8)} (hg : ∀ x m, g x = some m → SS m) (l r : List P8) (h : eachM g l [] = some r) : AllOf g l [] r :=
  eachM_is (g := g) (G := fun x z => ∃ m, g x = some m ∧ z ∈ m) (fun x m hm => ⟨hg x m hm, fun z => ⟨fun hz => ⟨m, hm, hz⟩, fun ⟨k, hk, hz⟩ => by rw [hm] at hk; cases hk; exact hz⟩⟩) l [] r ss_nil h
theorem eachM_turn {g : P8 → Option (List P8)} (hg : ∀ x m, g x = some m → SS m) {π : P8 → P8} (hi : ∀ x y, π x = π y → x = y) (l : List P8) (he : ∀ x ∈ l, g (π x) = (g x).map (turnS π)) :
    eachM g (turnS π l) [] = (eachM g l []).map (turnS π) := by
  -- one of the two is there, then so is the other one
  have hto : ∀ r, eachM g l [] = some r → eachM g (turnS π l) [] = some (turnS π r) := fun r h => by
    have hA := eachM_allOf hg l r h
    have hs := eachM_all l [] r h
    refine eachM_of _ _ _ ss_nil (fun z hz => ?_) ⟨turn_ss _ _, fun z => ?_⟩ ?_
    · obtain ⟨x, hx, rfl⟩ := (mem_turn π l z).1 hz
      obtain ⟨m, hm⟩ := hs x hx
      exact ⟨turnS π m, by rw [he x hx, hm]; rfl⟩
    · rw [mem_turn]
      constructor
      · rintro ⟨y, hy, rfl⟩
        rcases (hA.2 y).1 hy with k | ⟨x, hx, m, hm, hy'⟩
        · cases k
        · exact .inr ⟨π x, (mem_turn π l _).2 ⟨x, hx, rfl⟩, turnS π m, by rw [he x hx, hm]; rfl, (mem_turn π m _).2 ⟨y, hy', rfl⟩⟩
      · rintro (k | ⟨x', hx', m', hm', hz⟩)
        · cases k
        · obtain ⟨x, hx, rfl⟩ := (mem_turn π l x').1 hx'
          obtain ⟨m, hm⟩ := hs x hx
          rw [he x hx, hm] at hm'
          cases hm'
          obtain ⟨y, hy, rfl⟩ := (mem_turn π m z).1 hz
          exact ⟨y, (hA.2 y).2 (.inr ⟨x, hx, m, hm, hy⟩), rfl⟩
    · rw [turn_len hi hA.1]
      exact eachM_len l [] r (by simp) h
  have hfrom : ∀ r', eachM g (turnS π l) [] = some r' → ∃ r, eachM g l [] = some r := fun r' h => by
    have hA := eachM_allOf hg _ r' h
    have hs : ∀ x ∈ l, ∃ m, g x = some m := fun x hx => by
      obtain ⟨m, hm⟩ := eachM_all _ [] r' h (π x) ((mem_turn π l _).2 ⟨x, hx, rfl⟩)
      rw [he x hx] at hm
      cases hgx : g x with
      | none => rw [hgx] at hm; cases hm
      | some m => exact ⟨m, rfl⟩
    let R := sortL (l.flatMap fun x => (g x).getD [])
    have hR : AllOf g l [] R := ⟨sort_ss _, fun z => by
      show z ∈ sortL _ ↔ _
      rw [mem_sort, List.mem_flatMap]
      constructor
      · rintro ⟨x, hx, hz⟩
        obtain ⟨m, hm⟩ := hs x hx
        rw [hm] at hz
        exact .inr ⟨x, hx, m, hm, hz⟩
      · rintro (k | ⟨x, hx, m, hm, hz⟩)
        · cases k
        · exact ⟨x, hx, by rw [hm]; exact hz⟩⟩
    refine ⟨R, eachM_of l [] R ss_nil hs hR ?_⟩
    have h1 : (R.map π).length ≤ r'.length := len_le_of _ _ (nodup_map_inj hi (ss_nodup hR.1)) fun z hz => by
      obtain ⟨y, hy, rfl⟩ := List.mem_map.1 hz
      rcases (hR.2 y).1 hy with k | ⟨x, hx, m, hm, hy'⟩
      · cases k
      · exact (hA.2 _).2 (.inr ⟨π x, (mem_turn π l _).2 ⟨x, hx, rfl⟩, turnS π m, by rw [he x hx, hm]; rfl, (mem_turn π m _).2 ⟨y, hy', rfl⟩⟩)
    rw [List.length_map] at h1
    exact Nat.le_trans h1 (eachM_len _ [] r' (by simp) h)
  cases hr : eachM g l [] with
  | some r => exact hto r hr
  | none =>
    cases hr' : eachM g (turnS π l) [] with
    | none => rfl
    | some r' =>
      obtain ⟨r, h⟩ := hfrom r' hr'
      rw [hr] at h
      cases h

/-! ### A policy -/
/-- Nothing that a policy says is turned. -/
structure Turn (π : P8 → P8) (S : Int → Int → Prop) : Prop where
  inj : ∀ x y, π x = π y → x = y
  test : ∀ f n, S f n → ∀ q, (π q).get f = n ↔ q.get f = n
  puts : ∀ f n, S f n → ∀ q, π (q.wth f n) = (π q).wth f n
theorem Turn.mono {π : P8 → P8} {S S' : Int → Int → Prop} (h : Turn π S) (hs : ∀ f n, S' f n → S f n) : Turn π S' := ⟨h.inj, fun f n k => h.test f n (hs f n k), fun f n k => h.puts f n (hs f n k)⟩
theorem turn_if (π : P8 → P8) (c : Prop) [Decidable c] (q : P8) : (if c then [π q] else []) = turnS π (if c then [q] else []) := by
  split
  · rw [turn_one]
  · rfl
theorem turn_eq_nil (π : P8 → P8) (l : List P8) : turnS π l = [] ↔ l = [] := by
  constructor
  · intro h
    cases l with
    | nil => rfl
    | cons x l =>
      have : π x ∈ turnS π (x :: l) := (mem_turn _ _ _).2 ⟨x, List.mem_cons_self .., rfl⟩
      rw [h] at this
      cases this
  · rintro rfl; rfl
theorem mkP_turn (st : List Nat) {π : P8 → P8} : ∀ (p : Pl) (q : P8), Turn π (Says p) → mkP st p (π q) = (mkP st p q).map (turnS π)
  | .mk op f n kids, q, h => by
    have hk : Turn π (Says.saysL kids) := h.mono fun F N k => by rw [Says]; exact .inr k
    have hs : op = 2 ∨ op = 5 → Says (.mk op f n kids) f n := fun k => by rw [Says]; exact .inl ⟨k, rfl, rfl⟩
    rw [mkP_mk, mkP_mk]
    by_cases h0 : op = 0
    · rw [if_pos h0, if_pos h0]; rfl
    rw [if_neg h0, if_neg h0]
    by_cases h1 : op = 1
    · rw [if_pos h1, if_pos h1, Option.map_some, turn_one]
    rw [if_neg h1, if_neg h1]
    by_cases h2 : op = 2
    · rw [if_pos h2, if_pos h2, Option.map_some, ← turn_if]
      have := h.test f n (hs (.inl h2)) q
      by_cases h3 : q.get f = n
      · rw [if_pos h3, if_pos (this.2 h3)]
      · rw [if_neg h3, if_neg fun k => h3 (this.1 k)]
    rw [if_neg h2, if_neg h2]
    by_cases h3 : op = 3
    · rw [if_pos h3, if_pos h3, Option.map_some, ← turn_if]
    rw [if_neg h3, if_neg h3]
    by_cases h4 : op = 4
    · rw [if_pos h4, if_pos h4, fst kids q hk, Option.map_map, Option.map_map]
      cases mkP.mkFst st kids q with
      | none => rfl
      | some l =>
        simp only [Option.map_some, Function.comp]
        rw [← turn_if]
        by_cases hl : l = []
        · rw [if_pos hl, if_pos ((turn_eq_nil π l).2 hl)]
        · rw [if_neg hl, if_neg fun k => hl ((turn_eq_nil π l).1 k)]
    rw [if_neg h4, if_neg h4]
    by_cases h5 : op = 5
    · rw [if_pos h5, if_pos h5, Option.map_some, turn_one, h.puts f n (hs (.inr h5)) q]
    rw [if_neg h5, if_neg h5]
    by_cases h6 : op = 6
    · rw [if_pos h6, if_pos h6, ← turn_one]
      exact seq kids [q] hk
    rw [if_neg h6, if_neg h6]
    exact sum kids q [] hk
  where
  fst : ∀ (k : List Pl) (q : P8), Turn π (Says.saysL k) → mkP.mkFst st k (π q) = (mkP.mkFst st k q).map (turnS π)
  | [], q, _ => by rw [mkP.mkFst, mkP.mkFst]; rfl
  | p :: r, q, h => by
    rw [mkP.mkFst, mkP.mkFst]
    exact mkP_turn st p q (h.mono fun F N k => by rw [Says.saysL]; exact .inl k)
  seq : ∀ (k : List Pl) (l : List P8), Turn π (Says.saysL k) → mkP.mkSeq st k (turnS π l) = (mkP.mkSeq st k l).map (turnS π)
  | [], l, _ => by rw [mkP.mkSeq, mkP.mkSeq]; rfl
  | p :: r, l, h => by
    have hp : Turn π (Says p) := h.mono fun F N k => by rw [Says.saysL]; exact .inl k
    have hr : Turn π (Says.saysL r) := h.mono fun F N k => by rw [Says.saysL]; exact .inr k
    rw [mkP.mkSeq, mkP.mkSeq, eachM_turn (fun x m hm => mkP_ss hm) h.inj l fun x _ => mkP_turn st p x hp]
    cases eachM (fun x => mkP st p x) l [] with
    | none => rfl
    | some m =>
      dsimp only [Option.map_some]
      exact seq r m hr
  sum : ∀ (k : List Pl) (q : P8) (acc : List P8), Turn π (Says.saysL k) → mkP.mkSum st k (π q) (turnS π acc) = (mkP.mkSum st k q acc).map (turnS π)
  | [], q, acc, _ => by rw [mkP.mkSum, mkP.mkSum]; rfl
  | p :: r, q, acc, h => by
    have hp : Turn π (Says p) := h.mono fun F N k => by rw [Says.saysL]; exact .inl k
    have hr : Turn π (Says.saysL r) := h.mono fun F N k => by rw [Says.saysL]; exact .inr k
    rw [mkP.mkSum, mkP.mkSum, mkP_turn st p q hp]
    cases hm : mkP st p q with
    | none => rfl
    | some m =>
      dsimp only [Option.map_some]
      rw [turn_uni, turn_len h.inj (uni_ss _ _)]
      by_cases hl : 64 < (uni acc m).length
      · rw [if_pos hl, if_pos hl]; rfl
      · rw [if_neg hl, if_neg hl]
        exact sum r q (uni acc m) hr
end Go.Proofs.Ytipiepcbgjceaaa
/- A packet's likeness in a book, and the way back: what is made of the likeness is, brought back, what is made of the packet; no conditions. -/
set_option linter.unusedVariables false
set_option linter.unusedSimpArgs false
namespace Go.Proofs.Ytipiepcbgjceaaa

/-- A packet, changed field by field. -/
def P8.mapF (h : Nat → Int → Int) (q : P8) : P8 := ⟨h 0 q.a0, h 1 q.a1, h 2 q.a2, h 3 q.a3, h 4 q.a4, h 5 q.a5, h 6 q.a6, h 7 q.a7⟩
theorem lt8 {f : Int} (h : 0 ≤ f ∧ f < 8) : f = 0 ∨ f = 1 ∨ f = 2 ∨ f = 3 ∨ f = 4 ∨ f = 5 ∨ f = 6 ∨ f = 7 := by omega
theorem P8.mapF_get (h : Nat → Int → Int) (q : P8) {f : Int} (hf : 0 ≤ f ∧ f < 8) : (q.mapF h).get f = h f.toNat (q.get f) := by
  rcases lt8 hf with rfl | rfl | rfl | rfl | rfl | rfl | rfl | rfl <;> rfl
theorem P8.mapF_wth (h : Nat → Int → Int) (q : P8) {f n : Int} (hf : 0 ≤ f ∧ f < 8) : (q.wth f n).mapF h = (q.mapF h).wth f (h f.toNat n) := by
  rcases lt8 hf with rfl | rfl | rfl | rfl | rfl | rfl | rfl | rfl <;> rfl
theorem P8.mapF_inj {h : Nat → Int → Int} (hi : ∀ f, f < 8 → ∀ a b, h f a = h f b → a = b) (x y : P8) (e : x.mapF h = y.mapF h) : x = y := by
  obtain ⟨x0, x1, x2, x3, x4, x5, x6, x7⟩ := x
  obtain ⟨y0, y1, y2, y3, y4, y5, y6, y7⟩ := y
  simp only [P8.mapF, P8.mk.injEq] at e
  obtain ⟨e0, e1, e2, e3, e4, e5, e6, e7⟩ := e
  rw [hi 0 (by decide) _ _ e0, hi 1 (by decide) _ _ e1, hi 2 (by decide) _ _ e2, hi 3 (by decide) _ _ e3, hi 4 (by decide) _ _ e4, hi 5 (by decide) _ _ e5, hi 6 (by decide) _ _ e6, hi 7 (by decide) _ _ e7]
theorem P8.mapF_eq {h k : Nat → Int → Int} {x y : P8} (e : ∀ f : Nat, f < 8 → h f (x.get f) = k f (y.get f)) : x.mapF h = y.mapF k := by
  have e0 := e 0 (by decide)
  have e1 := e 1 (by decide)
  have e2 := e 2 (by decide)
  have e3 := e 3 (by decide)
  have e4 := e 4 (by decide)
  have e5 := e 5 (by decide)
  have e6 := e 6 (by decide)
  have e7 := e 7 (by decide)
  unfold P8.mapF
  rw [show h 0 x.a0 = k 0 y.a0 from e0, show h 1 x.a1 = k 1 y.a1 from e1, show h 2 x.a2 = k 2 y.a2 from e2, show h 3 x.a3 = k 3 y.a3 from e3, show h 4 x.a4 = k 4 y.a4 from e4, show h 5 x.a5 = k 5 y.a5 from e5, show h 6 x.a6 = k 6 y.a6 from e6, show h 7 x.a7 = k 7 y.a7 from e7]
theorem P8.mapF_id (x : P8) : x.mapF (fun _ v => v) = x := rfl
theorem P8.mapF_mapF (h k : Nat → Int → Int) (x : P8) : (x.mapF h).mapF k = x.mapF fun f v => k f (h f v) := rfl
theorem P8.get_mem (q : P8) {f : Nat} (hf : f < 8) : q.get f ∈ q.l := by
  have : f = 0 ∨ f = 1 ∨ f = 2 ∨ f = 3 ∨ f = 4 ∨ f = 5 ∨ f = 6 ∨ f = 7 := by omega
  rcases this with rfl | rfl | rfl | rfl | rfl | rfl | rfl | rfl <;> simp [P8.get, P8.l]

/-- A packet's likeness. -/
def likeP (oc : Nat → Nat) (sl : Nat → List Nat) (q : P8) : P8 := q.mapF fun f v => if v.toNat ∈ sl f then v else (oc f : Int)
/-- And back. -/
def backP (oc : Nat → Nat) (q x : P8) : P8 := x.mapF fun f v => if v = (oc f : Int) then q.get f else v

/-! ### What is said is of the right size -/
theorem says_form : ∀ (p : Pl) (f n : Int), formP 4 p = true → okN p → Says p f n → (0 ≤ f ∧ f < 8) ∧ 0 ≤ n ∧ n ≤ 65535
  | .mk op F N kids, f, n, hf, ho, h => by
    rw [formP_eq, Bool.and_eq_true] at hf
    rw [okN] at ho
    rw [Says] at h
    rcases h with ⟨h1, rfl, rfl⟩ | h
    · refine ⟨?_, ho.1⟩
      have hn := hf.1
      unfold nodeB at hn
      rcases h1 with rfl | rfl
      · simp at hn
        omega
      · simp at hn
        omega
    · exact go kids f n hf.2 ho.2 h
  where
  go : ∀ (k : List Pl) (f n : Int), formP.formL 4 k = true → okN.okL k → Says.saysL k f n → (0 ≤ f ∧ f < 8) ∧ 0 ≤ n ∧ n ≤ 65535
  | [], f, n, _, _, h => by rw [Says.saysL] at h; exact h.elim
  | p :: r, f, n, hf, ho, h => by
    rw [formP.formL, Bool.and_eq_true] at hf
    rw [okN.okL] at ho
    rw [Says.saysL] at h
    rcases h with h | h
    · exact says_form p f n hf.1 ho.1 h
    · exact go r f n hf.2 ho.2 h

/-! ### Where a number comes from -/
/-- What is made bears numbers of the packet's own, or said ones. -/
theorem mk_from (st : List Nat) : ∀ (p : Pl) (q x : P8), Mk st p q x → ∀ f : Nat, f < 8 → x.get f = q.get f ∨ Says p f (x.get f)
  | .mk op F N kids, q, x, h, f, hf => by
    rw [Mk_mk] at h
    rw [Says]
    split at h
    · exact h.elim
    split at h
    · rw [h]; exact .inl rfl
    split at h
    · rw [h.2]; exact .inl rfl
    split at h
    · rw [h.2]; exact .inl rfl
    split at h
    · rw [h.2]; exact .inl rfl
    split at h
    · rename_i h5
      rw [h]
      by_cases he : F = f
      · subst he
        refine .inr (.inl ⟨.inr h5, rfl, ?_⟩)
        have : f = 0 ∨ f = 1 ∨ f = 2 ∨ f = 3 ∨ f = 4 ∨ f = 5 ∨ f = 6 ∨ f = 7 := by omega
        rcases this with rfl | rfl | rfl | rfl | rfl | rfl | rfl | rfl <;> rfl
      · refine .inl ?_
        by_cases h8 : 0 ≤ F ∧ F < 8
        · have hne : F.toNat ≠ f := by omega
          unfold P8.get
          rw [P8.wth_l]
          unfold put
          rw [if_pos h8]
          simp only [Int.toNat_natCast]
          rw [List.getD_eq_getElem?_getD, List.getD_eq_getElem?_getD, List.getElem?_set_ne hne]
        · unfold P8.get
          rw [P8.wth_l]
          unfold put
          rw [if_neg h8]
    split at h
    · rcases seq kids q x h f hf with k | k
      · exact .inl k
      · exact .inr (.inr k)
    · rcases sum kids q x h f hf with k | k
      · exact .inl k
      · exact .inr (.inr k)
  where
  seq : ∀ (k : List Pl) (q x : P8), Mk.MkSeq st k q x → ∀ f : Nat, f < 8 → x.get f = q.get f ∨ Says.saysL k f (x.get f)
  | [], q, x, h, f, hf => by rw [Mk.MkSeq] at h; rw [h]; exact .inl rfl
  | p :: r, q, x, h, f, hf => by
    rw [Mk.MkSeq] at h
    rw [Says.saysL]
    obtain ⟨y, h1, h2⟩ := h
    rcases seq r y x h2 f hf with k | k
    · rw [k]
      rcases mk_from st p q y h1 f hf with k' | k'
      · exact .inl k'
      · exact .inr (.inl k')
    · exact .inr (.inr k)
  sum : ∀ (k : List Pl) (q x : P8), Mk.MkSum st k q x → ∀ f : Nat, f < 8 → x.get f = q.get f ∨ Says.saysL k f (x.get f)
  | [], q, x, h, f, hf => by rw [Mk.MkSum] at h; exact h.elim
  | p :: r, q, x, h, f, hf => by
    rw [Mk.MkSum] at h
    rw [Says.saysL]
    rcases h with h | h
    · rcases mk_from st p q x h f hf with k | k
      · exact .inl k
      · exact .inr (.inl k)
    · rcases sum r q x h f hf with k | k
      · exact .inl k
      · exact .inr (.inr k)

/-! ### There and back -/
/-- Two numbers change places. -/
def swap (a b v : Int) : Int := if v = a then b else if v = b then a else v
theorem swap_inj {a b x y : Int} (h : swap a b x = swap a b y) : x = y := by
  unfold swap at h
  split at h <;> split at h <;> (try split at h) <;> (try split at h) <;> omega
theorem swap_else {a b v : Int} (h1 : v ≠ a) (h2 : v ≠ b) : swap a b v = v := by unfold swap; rw [if_neg h1, if_neg h2]
def turnP (oc : Nat → Nat) (sl : Nat → List Nat) (q x : P8) : P8 := x.mapF fun f v => if (q.get f).toNat ∈ sl f then v else swap (oc f) (q.get f) v
/-- What a book says of a policy's numbers. -/
structure BookOK (T : Pl) (oc : Nat → Nat) (sl : Nat → List Nat) : Prop where
  mem : ∀ f, f < 8 → ∀ n : Nat, n ∈ sl f ↔ Says T (f : Int) (n : Int)
  oth : ∀ f, f < 8 → oc f ∉ sl f ∧ oc f ≤ 65535
theorem turn_like {oc : Nat → Nat} {sl : Nat → List Nat} (q : P8) : turnP oc sl q (likeP oc sl q) = q := by
  unfold turnP likeP
  rw [P8.mapF_mapF]
  conv => rhs; rw [← P8.mapF_id q]
  refine P8.mapF_eq fun f hf => ?_
  by_cases h : (q.get f).toNat ∈ sl f
  · simp only [if_pos h]
  · simp only [if_neg h]
    unfold swap
    rw [if_pos rfl]
theorem turn_ok {T : Pl} {oc : Nat → Nat} {sl : Nat → List Nat} (hb : BookOK T oc sl) (hf : formP 4 T = true) (ho : okN T) (q : P8) (hq : Q8 q) : Turn (turnP oc sl q) (Says T) := by
  have hfix : ∀ (f n : Int), Says T f n → (fun v => if (q.get f.toNat).toNat ∈ sl f.toNat then v else swap (oc f.toNat) (q.get f.toNat) v) n = n := fun f n hs => by
    obtain ⟨h1, h2⟩ := says_form T f n hf ho hs
    have hm : n.toNat ∈ sl f.toNat := (hb.mem f.toNat (by omega) n.toNat).2 (by rw [Int.toNat_of_nonneg h1.1, Int.toNat_of_nonneg h2.1]; exact hs)
    dsimp only
    split
    · rfl
    · rename_i hn
      refine swap_else (fun e => ?_) (fun e => ?_)
      · rw [e, Int.toNat_natCast] at hm
        exact (hb.oth f.toNat (by omega)).1 hm
      · rw [← e] at hn
        exact hn hm
  have hinj : ∀ f : Nat, f < 8 → ∀ a b : Int, (if (q.get f).toNat ∈ sl f then a else swap (oc f) (q.get f) a) = (if (q.get f).toNat ∈ sl f then b else swap (oc f) (q.get f) b) → a = b := fun f _ a b h => by
    split at h
    · exact h
    · exact swap_inj h
  refine ⟨P8.mapF_inj hinj, fun f n hs x => ?_, fun f n hs x => ?_⟩
  · obtain ⟨h1, -⟩ := says_form T f n hf ho hs
    unfold turnP
    rw [P8.mapF_get _ _ h1]
    have he := hfix f n hs
    dsimp only at he
    constructor
    · intro h
      rw [← he] at h
      exact hinj f.toNat (by omega) _ _ h
    · intro h
      rw [h]
      exact he
  · obtain ⟨h1, -⟩ := says_form T f n hf ho hs
    unfold turnP
    rw [P8.mapF_wth _ _ h1]
    have he := hfix f n hs
    dsimp only at he
    rw [he]
/-- The way back is the turning, for what is made. -/
theorem back_turn {T : Pl} {oc : Nat → Nat} {sl : Nat → List Nat} (hb : BookOK T oc sl) (hf : formP 4 T = true) (ho : okN T) (q : P8) (hq : Q8 q) (x : P8) (hx : Mk [] T (likeP oc sl q) x) : backP oc q x = turnP oc sl q x := by
  unfold backP turnP
  refine P8.mapF_eq fun f hf8 => ?_
  have hl : (likeP oc sl q).get f = if (q.get f).toNat ∈ sl f then q.get f else (oc f : Int) := by
    unfold likeP
    rw [P8.mapF_get _ _ (by omega)]
    rfl
  have hfr := mk_from [] T _ x hx f hf8
  rw [hl] at hfr
  have hq0 := hq (q.get f) (q.get_mem hf8)
  have hsay : ∀ v : Int, Says T f v → 0 ≤ v ∧ v.toNat ∈ sl f := fun v h => by
    have := (says_form T f v hf ho h).2
    exact ⟨this.1, (hb.mem f hf8 v.toNat).2 (by rw [Int.toNat_of_nonneg this.1]; exact h)⟩
  have hoc := (hb.oth f hf8).1
  by_cases hs : (q.get f).toNat ∈ sl f
  · rw [if_pos hs] at hfr ⊢
    rw [if_neg]
    intro e
    rcases hfr with k | k
    · rw [← k, e, Int.toNat_natCast] at hs
      exact hoc hs
    · have := (hsay _ k).2
      rw [e, Int.toNat_natCast] at this
      exact hoc this
  · rw [if_neg hs] at hfr ⊢
    unfold swap
    by_cases he : x.get f = (oc f : Int)
    · rw [if_pos he, if_pos he]
    · rw [if_neg he, if_neg he]
      rcases hfr with k | k
      · exact absurd k he
      · rw [if_neg]
        intro e
        have := (hsay _ k).2
        rw [e] at this
        exact hs this
/-- What is made of a packet is what is made of its likeness, brought back. -/
theorem mk_like {T : Pl} {oc : Nat → Nat} {sl : Nat → List Nat} (hb : BookOK T oc sl) (hf : formP 4 T = true) (ho : okN T) (q : P8) (hq : Q8 q) : mkP [] T q = (mkP [] T (likeP oc sl q)).map fun l => sortL (l.map (backP oc q)) := by
  have h := mkP_turn [] T (likeP oc sl q) (turn_ok hb hf ho q hq)
  rw [turn_like] at h
  rw [h]
  cases hm : mkP [] T (likeP oc sl q) with
  | none => rfl
  | some l =>
    simp only [Option.map_some, turnS]
    congr 2
    refine List.map_congr_left fun x hx => ?_
    exact (back_turn hb hf ho q hq x (((mkP_is [] T _ l hm).2 x).1 hx)).symm
theorem like_q8 {oc : Nat → Nat} {sl : Nat → List Nat} (ho : ∀ f, f < 8 → oc f ≤ 65535) {q : P8} (hq : Q8 q) : Q8 (likeP oc sl q) := by
  have key : ∀ (f : Nat) (v : Int), f < 8 → (0 ≤ v ∧ v ≤ 65535) → 0 ≤ (if v.toNat ∈ sl f then v else (oc f : Int)) ∧ (if v.toNat ∈ sl f then v else (oc f : Int)) ≤ 65535 := fun f v hf hv => by
    have := ho f hf
    split <;> omega
  intro z hz
  obtain ⟨q0, q1, q2, q3, q4, q5, q6, q7⟩ := q
  simp only [likeP, P8.mapF, P8.l, List.mem_cons, List.not_mem_nil, or_false] at hz
  have hm : ∀ v ∈ P8.l ⟨q0, q1, q2, q3, q4, q5, q6, q7⟩, 0 ≤ v ∧ v ≤ 65535 := hq
  simp only [P8.l, List.mem_cons, List.not_mem_nil, or_false, forall_eq_or_imp, forall_eq] at hm
  obtain ⟨h0, h1, h2, h3, h4, h5, h6, h7⟩ := hm
  rcases hz with rfl | rfl | rfl | rfl | rfl | rfl | rfl | rfl
  · exact key 0 _ (by decide) h0
  · exact key 1 _ (by decide) h1
  · exact key 2 _ (by decide) h2
  · exact key 3 _ (by decide) h3
  · exact key 4 _ (by decide) h4
  · exact key 5 _ (by decide) h5
  · exact key 6 _ (by decide) h6
  · exact key 7 _ (by decide) h7
end Go.Proofs.Ytipiepcbgjceaaa
