/- Plain facts on the order of packets, on lists in that order, each once, and on the document's Add; no conditions of mine. -/
import Derived.Test.YtipiepcbgjceaaaB0
import Derived.Lib.SliceRun
import Derived.Shelf.SlSortCmp.Insertion
import Derived.Test.YtipiepcbgjceaaaW3
set_option linter.unusedVariables false
set_option linter.unusedSimpArgs false
namespace Go.Proofs.Ytipiepcbgjceaaa
open Go.Sort Go.Lib Go.Shelf

/-- A packet: eight numbers. -/
structure P8 where
  a0 : Int
  a1 : Int
  a2 : Int
  a3 : Int
  a4 : Int
  a5 : Int
  a6 : Int
  a7 : Int
def P8.l (x : P8) : List Int := [x.a0, x.a1, x.a2, x.a3, x.a4, x.a5, x.a6, x.a7]
theorem P8.len (x : P8) : x.l.length = 8 := rfl
theorem P8.inj {x y : P8} (h : x.l = y.l) : x = y := by
  cases x; cases y; simp [P8.l] at h; simp [h]

/-- The order of two rows of numbers: by the first that differs. -/
def cmpL : List Int → List Int → Int
  | a :: r, b :: s => if a < b then -1 else if b < a then 1 else cmpL r s
  | _, _ => 0
theorem cmpL_self : ∀ l : List Int, cmpL l l = 0
  | [] => rfl
  | a :: r => by rw [cmpL, if_neg (by omega), if_neg (by omega)]; exact cmpL_self r
theorem cmpL_eq : ∀ l m : List Int, l.length = m.length → cmpL l m = 0 → l = m
  | [], [], _, _ => rfl
  | a :: r, b :: s, h, h0 => by
    rw [cmpL] at h0
    split at h0
    · omega
    · split at h0
      · omega
      · rw [cmpL_eq r s (by simpa using h) h0, show a = b by omega]
theorem cmpL_neg : ∀ l m : List Int, cmpL l m = - cmpL m l
  | [], [] => rfl
  | [], _ :: _ => rfl
  | _ :: _, [] => rfl
  | a :: r, b :: s => by
    rw [cmpL, cmpL]
    by_cases h1 : a < b
    · rw [if_pos h1, if_neg (by omega), if_pos h1]
    · by_cases h2 : b < a
      · rw [if_neg h1, if_pos h2, if_pos h2]; rfl
      · rw [if_neg h1, if_neg h2, if_neg h2, if_neg h1]; exact cmpL_neg r s
theorem cmpL_trans : ∀ l m n : List Int, l.length = m.length → m.length = n.length → cmpL l m < 0 → cmpL m n < 0 → cmpL l n < 0
  | [], [], [], _, _, h, _ => by simp [cmpL] at h
  | a :: r, b :: s, c :: t, h1, h2, h3, h4 => by
    rw [cmpL] at h3 h4 ⊢
    split at h3
    · split at h4
      · rw [if_pos (by omega)]; omega
      · split at h4
        · omega
        · rw [if_pos (by omega)]; omega
    · split at h3
      · omega
      · split at h4
        · rw [if_pos (by omega)]; omega
        · split at h4
          · omega
          · rw [if_neg (by omega), if_neg (by omega)]
            exact cmpL_trans r s t (by simpa using h1) (by simpa using h2) h3 h4
theorem cmpL_range : ∀ l m : List Int, cmpL l m = -1 ∨ cmpL l m = 0 ∨ cmpL l m = 1
  | [], [] => .inr (.inl rfl)
  | [], _ :: _ => .inr (.inl rfl)
  | _ :: _, [] => .inr (.inl rfl)
  | a :: r, b :: s => by
    rw [cmpL]
    split
    · exact .inl rfl
    · split
      · exact .inr (.inr rfl)
      · exact cmpL_range r s

def cf (x y : P8) : Int := cmpL x.l y.l
theorem cf_self (x : P8) : cf x x = 0 := cmpL_self _
theorem cf_eq {x y : P8} (h : cf x y = 0) : x = y := P8.inj (cmpL_eq x.l y.l (x.len.trans y.len.symm) h)
theorem cf_neg (x y : P8) : cf x y = - cf y x := cmpL_neg _ _
theorem cf_trans {x y z : P8} (h1 : cf x y < 0) (h2 : cf y z < 0) : cf x z < 0 := cmpL_trans x.l y.l z.l (x.len.trans y.len.symm) (y.len.trans z.len.symm) h1 h2
theorem ltOf_cf (x y : P8) : ltOf cf x y = decide (cf x y < 0) := rfl
theorem swo_cf : SWO (ltOf cf) where
  irrefl x := by rw [ltOf_cf, cf_self]; rfl
  trans x y z h1 h2 := by
    rw [ltOf_cf] at *
    exact decide_eq_true (cf_trans (of_decide_eq_true h1) (of_decide_eq_true h2))
  ntrans x y z h1 h2 := by
    rw [ltOf_cf] at *
    have h1' := of_decide_eq_false h1
    have h2' := of_decide_eq_false h2
    apply decide_eq_false
    intro h
    rcases Int.lt_or_eq_of_le (show cf y x ≤ 0 by rw [cf_neg]; omega) with k1 | k1
    · exact h2' (by
        have := cf_trans k1 h
        omega)
    · rw [cf_eq k1] at h2'
      exact h2' h
theorem tot_cf (x y : P8) (h1 : ltOf cf x y = false) (h2 : ltOf cf y x = false) : x = y := by
  rw [ltOf_cf] at *
  have h1' := of_decide_eq_false h1
  have h2' := of_decide_eq_false h2
  rw [cf_neg y x] at h2'
  exact cf_eq (by omega)

/-- In order, each once. -/
def SS (l : List P8) : Prop := l.Pairwise fun x y => cf x y < 0
theorem ss_unique : ∀ l m : List P8, SS l → SS m → (∀ x, x ∈ l ↔ x ∈ m) → l = m
  | [], [], _, _, _ => rfl
  | [], y :: m, _, _, h => by have := (h y).2 (List.mem_cons_self ..); cases this
  | x :: l, [], _, _, h => by have := (h x).1 (List.mem_cons_self ..); cases this
  | x :: l, y :: m, h1, h2, h => by
    obtain ⟨a1, b1⟩ := List.pairwise_cons.1 h1
    obtain ⟨a2, b2⟩ := List.pairwise_cons.1 h2
    have exy : x = y := by
      rcases List.mem_cons.1 ((h x).1 (List.mem_cons_self ..)) with e | e
      · exact e
      · rcases List.mem_cons.1 ((h y).2 (List.mem_cons_self ..)) with e' | e'
        · exact e'.symm
        · have k1 := a2 x e
          have k2 := a1 y e'
          rw [cf_neg] at k1
          omega
    subst exy
    rw [ss_unique l m b1 b2 fun z => ⟨fun hz => ?_, fun hz => ?_⟩]
    · rcases List.mem_cons.1 ((h z).1 (List.mem_cons_of_mem _ hz)) with e | e
      · have := a1 z hz
        rw [e, cf_self] at this
        omega
      · exact e
    · rcases List.mem_cons.1 ((h z).2 (List.mem_cons_of_mem _ hz)) with e | e
      · have := a2 z hz
        rw [e, cf_self] at this
        omega
      · exact e
theorem ss_snoc {l : List P8} {x : P8} (h : SS l) (hx : ∀ z ∈ l, cf z x < 0) : SS (l ++ [x]) := by
  unfold SS
  rw [List.pairwise_append]
  refine ⟨h, List.pairwise_singleton _ _, fun a ha b hb => ?_⟩
  rw [List.mem_singleton] at hb
  subst hb
  exact hx a ha

/-- One round of the document's Add. -/
def addStep (p : P8) (s : List P8 × Bool) (x : P8) : List P8 × Bool :=
  ((if cf p x ≠ 0 then (if s.2 = false ∧ cf p x ≤ 0 then s.1 ++ [p] else s.1) ++ [x] else (if s.2 = false ∧ cf p x ≤ 0 then s.1 ++ [p] else s.1)), s.2 || decide (cf p x ≤ 0))
def addTo (p : P8) (l : List P8) : List P8 × Bool := l.foldl (addStep p) ([], false)
def addL (l : List P8) (p : P8) : List P8 := if (addTo p l).2 = true then (addTo p l).1 else (addTo p l).1 ++ [p]
theorem addTo_snoc (p : P8) (l : List P8) (k : Nat) (h : k < l.length) : addTo p (l.take (k + 1)) = addStep p (addTo p (l.take k)) l[k] := by
  unfold addTo; rw [List.take_succ_eq_append_getElem h, List.foldl_append]; rfl
structure AddInv (p : P8) (u r : List P8) (s : List P8 × Bool) : Prop where
  ss : SS s.1
  mem : ∀ z, z ∈ s.1 ↔ (s.2 = true ∧ z = p) ∨ z ∈ u
  low : ∀ z ∈ s.1, ∀ y ∈ r, cf z y < 0
  lt : s.2 = false → ∀ z ∈ s.1, cf z p < 0
theorem addInv_step (p x : P8) (u r : List P8) (s : List P8 × Bool) (hr : ∀ y ∈ r, cf x y < 0) (h : AddInv p u (x :: r) s) : AddInv p (u ++ [x]) r (addStep p s x) := by
  obtain ⟨out, done⟩ := s
  obtain ⟨h1, h2, h3, h4⟩ := h
  simp only at h1 h2 h3 h4
  have hx : ∀ z ∈ out, cf z x < 0 := fun z hz => h3 z hz x (List.mem_cons_self ..)
  have hr3 : ∀ z ∈ out, ∀ y ∈ r, cf z y < 0 := fun z hz y hy => h3 z hz y (List.mem_cons_of_mem _ hy)
  cases done with
  | true =>
    have hp : p ∈ out := (h2 p).2 (.inl ⟨rfl, rfl⟩)
    have hpx := hx p hp
    have e : addStep p (out, true) x = (out ++ [x], true) := by
      simp [addStep, show ¬ cf p x = 0 by omega]
    rw [e]
    refine ⟨ss_snoc h1 hx, fun z => ?_, fun z hz y hy => ?_, fun hh => by cases hh⟩
    · simp only [List.mem_append, List.mem_singleton, h2 z, or_assoc]
    · rcases List.mem_append.1 hz with k | k
      · exact hr3 z k y hy
      · rw [List.mem_singleton] at k; subst k; exact hr y hy
  | false =>
    have h4' := h4 rfl
    rcases Int.lt_trichotomy (cf p x) 0 with hc | hc | hc
    · have e : addStep p (out, false) x = (out ++ [p] ++ [x], true) := by
        simp [addStep, show ¬ cf p x = 0 by omega, show cf p x ≤ 0 by omega]
      rw [e]
      refine ⟨ss_snoc (ss_snoc h1 h4') (fun z hz => ?_), fun z => ?_, fun z hz y hy => ?_, fun hh => by cases hh⟩
      · rcases List.mem_append.1 hz with k | k
        · exact hx z k
        · rw [List.mem_singleton] at k; subst k; exact hc
      · simp only [List.mem_append, List.mem_singleton, h2 z]
        simp
        constructor
        · rintro ((a | a) | a)
          · exact .inr (.inl a)
          · exact .inl a
          · exact .inr (.inr a)
        · rintro (a | a | a)
          · exact .inl (.inr a)
          · exact .inl (.inl a)
          · exact .inr a
      · rcases List.mem_append.1 hz with k | k
        · rcases List.mem_append.1 k with k | k
          · exact hr3 z k y hy
          · rw [List.mem_singleton] at k; subst k; exact cf_trans hc (hr y hy)
        · rw [List.mem_singleton] at k; subst k; exact hr y hy
    · have e : addStep p (out, false) x = (out ++ [p], true) := by
        simp [addStep, hc]
      rw [e]
      have exp := cf_eq hc
      refine ⟨ss_snoc h1 h4', fun z => ?_, fun z hz y hy => ?_, fun hh => by cases hh⟩
      · simp only [List.mem_append, List.mem_singleton, h2 z]
        subst exp
        simp
        exact fun a => .inr a
      · rcases List.mem_append.1 hz with k | k
        · exact hr3 z k y hy
        · rw [List.mem_singleton] at k; subst k; rw [exp]; exact hr y hy
    · have e : addStep p (out, false) x = (out ++ [x], false) := by
        simp [addStep, show ¬ cf p x = 0 by omega, show ¬ cf p x ≤ 0 by omega]
      rw [e]
      refine ⟨ss_snoc h1 hx, fun z => ?_, fun z hz y hy => ?_, fun _ z hz => ?_⟩
      · simp only [List.mem_append, List.mem_singleton, h2 z]
        simp
      · rcases List.mem_append.1 hz with k | k
        · exact hr3 z k y hy
        · rw [List.mem_singleton] at k; subst k; exact hr y hy
      · rcases List.mem_append.1 hz with k | k
        · exact h4' z k
        · rw [List.mem_singleton] at k; subst k; rw [cf_neg]; omega
theorem addInv_all (p : P8) : ∀ (r u : List P8) (s : List P8 × Bool), SS r → AddInv p u r s → AddInv p (u ++ r) [] (r.foldl (addStep p) s)
  | [], u, s, _, h => by rw [List.append_nil]; exact h
  | x :: r, u, s, hs, h => by
    obtain ⟨a1, b1⟩ := List.pairwise_cons.1 hs
    have := addInv_all p r (u ++ [x]) _ b1 (addInv_step p x u r s a1 h)
    simpa using this
theorem addL_ok (l : List P8) (p : P8) (h : SS l) : SS (addL l p) ∧ ∀ z, z ∈ addL l p ↔ z ∈ l ∨ z = p := by
  have hI := addInv_all p l [] ([], false) h (AddInv.mk List.Pairwise.nil (fun z => by simp) (fun z hz => by simp at hz) (fun _ z hz => by simp at hz))
  rw [show l.foldl (addStep p) ([], false) = addTo p l from rfl] at hI
  unfold addL
  cases hd : (addTo p l).2 with
  | true =>
    rw [if_pos rfl]
    refine ⟨hI.ss, fun z => ?_⟩
    rw [hI.mem, hd]; simp
    exact Or.comm
  | false =>
    rw [if_neg (by simp)]
    refine ⟨ss_snoc hI.ss (hI.lt hd), fun z => ?_⟩
    rw [List.mem_append, hI.mem, hd]; simp
def sortL (l : List P8) : List P8 := l.foldl addL []
theorem sortL_snoc (l : List P8) (k : Nat) (h : k < l.length) : sortL (l.take (k + 1)) = addL (sortL (l.take k)) l[k] := by
  unfold sortL; rw [List.take_succ_eq_append_getElem h, List.foldl_append]; rfl
theorem sort_go : ∀ (l u : List P8), SS u → SS (l.foldl addL u) ∧ ∀ z, z ∈ l.foldl addL u ↔ z ∈ u ∨ z ∈ l
  | [], u, h => ⟨h, fun z => by simp⟩
  | x :: l, u, h => by
    have h1 := addL_ok u x h
    have h2 := sort_go l _ h1.1
    refine ⟨h2.1, fun z => ?_⟩
    rw [List.foldl_cons, h2.2, h1.2, List.mem_cons, or_assoc]
theorem sortL_ok (l : List P8) : SS (sortL l) ∧ ∀ z, z ∈ sortL l ↔ z ∈ l := by
  have := sort_go l [] List.Pairwise.nil
  refine ⟨this.1, fun z => ?_⟩
  rw [show sortL l = l.foldl addL [] from rfl, this.2]; simp
theorem addTo_len (p : P8) (l : List P8) : (addTo p l).1.length ≤ 2 * l.length := by
  unfold addTo
  have key : ∀ (l : List P8) (s : List P8 × Bool), (l.foldl (addStep p) s).1.length ≤ s.1.length + 2 * l.length := by
    intro l
    induction l with
    | nil => intro s; simp
    | cons x r ih =>
      intro s
      have h1 := ih (addStep p s x)
      have h2 : (addStep p s x).1.length ≤ s.1.length + 2 := by
        simp only [addStep]
        split <;> split <;> simp
      rw [List.foldl_cons, List.length_cons]
      omega
  have := key l ([], false)
  simpa using this
end Go.Proofs.Ytipiepcbgjceaaa
/- What packet.Compare and the document's Compare answer, for every two packets; no conditions of mine. -/
set_option linter.unusedVariables false
set_option linter.unusedSimpArgs false
namespace Go.Proofs.Ytipiepcbgjceaaa
open Go.RowKit Go.Sort

def cmp1 (x y : Int) : Int := if x < y then -1 else if y < x then 1 else 0
theorem cmp43 (x y : Int) (w : World) : Calls Try.prog 67 #[.int .u16 x, .int .u16 y] w fun e w' => e = .returned (.int .i64 (cmp1 x y)) ∧ w' = w := by
  have hN : ∀ (x : Int) (w : World), Calls Try.prog 85 #[.int .u16 x] w fun e w' => e = .returned (.bool false) ∧ w' = w := by
    intro x w
    go_enter Try.func85, Try.ntmps85
    go_wp2
    go_ret
    exact ⟨by simp, rfl⟩
  unfold cmp1
  by_cases h1 : x < y
  · have d1 : decide (x < y) = true := by simp; omega
    rw [if_pos h1]
    clear h1
    go_enter Try.func67, Try.ntmps67
    go_wp2_with (go_at_call 85; refine (hN _ _).mono ?_; rintro e w' ⟨rfl, rfl⟩)
    go_ret
    exact ⟨rfl, rfl⟩
  · have d1 : decide (x < y) = false := by simp; omega
    rw [if_neg h1]
    by_cases h2 : y < x
    · have d2 : decide (y < x) = true := by simp; omega
      rw [if_pos h2]
      clear h1 h2
      go_enter Try.func67, Try.ntmps67
      go_wp2_with (go_at_call 85; refine (hN _ _).mono ?_; rintro e w' ⟨rfl, rfl⟩)
      go_ret
      exact ⟨rfl, rfl⟩
    · have d2 : decide (y < x) = false := by simp; omega
      rw [if_neg h2]
      clear h1 h2
      go_enter Try.func67, Try.ntmps67
      go_wp2_with (go_at_call 85; refine (hN _ _).mono ?_; rintro e w' ⟨rfl, rfl⟩)
      go_ret
      exact ⟨rfl, rfl⟩

theorem cmpL_drop (l m : List Int) (k : Nat) (h1 : k < l.length) (h2 : k < m.length) : cmpL (l.drop k) (m.drop k) = if l.getD k 0 < m.getD k 0 then -1 else if m.getD k 0 < l.getD k 0 then 1 else cmpL (l.drop (k + 1)) (m.drop (k + 1)) := by
  rw [List.drop_eq_getElem_cons h1, List.drop_eq_getElem_cons h2, cmpL]
  simp [List.getD_eq_getElem?_getD, List.getElem?_eq_getElem h1, List.getElem?_eq_getElem h2]
/-- The cells of a packet. -/
def enc8 (x : P8) : List Value := [.int .u16 x.a0, .int .u16 x.a1, .int .u16 x.a2, .int .u16 x.a3, .int .u16 x.a4, .int .u16 x.a5, .int .u16 x.a6, .int .u16 x.a7]
/-- The value of a packet. -/
abbrev P8.v (x : P8) : Value := pk x.a0 x.a1 x.a2 x.a3 x.a4 x.a5 x.a6 x.a7
theorem enc8_cells (x : P8) : cellsP x.l = (enc8 x).toArray := rfl
theorem P8.v_enc (x : P8) : x.v = .agg (enc8 x).toArray := rfl
theorem grow_more (w : World) (q n : Nat) (os : Array Obj) : (grow (w.drewN q) os).drewN n = grow (w.drewN (q + n)) os := by
  simp [grow, World.drewN, Nat.add_assoc]
theorem gw_more {w wr : World} (h : ∃ q os, wr = grow (w.drewN q) os) (n : Nat) : ∃ q os, wr.drewN n = grow (w.drewN q) os := by
  obtain ⟨q, os, rfl⟩ := h
  exact ⟨_, _, grow_more w q n os⟩
theorem grow_two (w : World) (A B : Obj) : (w.alloc A).alloc B = grow (w.drewN 0) #[A, B] := by
  rw [alloc_eq_grow, alloc_eq_grow, grow_grow]; rfl

set_option maxRecDepth 100000 in
set_option maxHeartbeats 400000 in
theorem cmp27 (x y : P8) (w : World) : Calls Try.prog 55 #[x.v, y.v] w fun e w' => e = .returned (.int .i64 (cf x y)) ∧ ∃ q os, w' = grow (w.drewN q) os := by
  have hl := x.len
  have hm := y.len
  have hbx : ∀ (w : World) (B : Obj), ((w.alloc (.cells (cellsP x.l) 26)).alloc B).heap[w.heap.size]? = some (.cells (cellsP x.l) 26) := fun w B => heap_alloc2_old _ _ _
  have hby : ∀ (w : World) (A : Obj), ((w.alloc A).alloc (.cells (cellsP y.l) 26)).heap[w.heap.size + 1]? = some (.cells (cellsP y.l) 26) := fun w B => heap_alloc2_new _ _ _
  unfold cf
  rw [show x.v = .agg (cellsP x.l) from rfl, show y.v = .agg (cellsP y.l) from rfl]
  generalize x.l = l at *
  generalize y.l = m at *
  obtain ⟨a0, a1, a2, a3, a4, a5, a6, a7, rfl⟩ := eight hl
  obtain ⟨b0, b1, b2, b3, b4, b5, b6, b7, rfl⟩ := eight hm
  have hbx' := hbx w
  have hby' := hby w
  simp only [cellsP, List.map_cons, List.map_nil] at hbx' hby' ⊢
  clear hbx hby
  go_enter Try.func55, Try.ntmps55
  go_wp2
  go_loopw [7] (fun i wr => ∃ k : Nat, k ≤ 8 ∧ i = .int .i64 k ∧ Hid (cmpL [a0, a1, a2, a3, a4, a5, a6, a7] [b0, b1, b2, b3, b4, b5, b6, b7] = cmpL ([a0, a1, a2, a3, a4, a5, a6, a7].drop k) ([b0, b1, b2, b3, b4, b5, b6, b7].drop k)) ∧ wr.heap[w.heap.size]? = some (.cells #[.int .u16 a0, .int .u16 a1, .int .u16 a2, .int .u16 a3, .int .u16 a4, .int .u16 a5, .int .u16 a6, .int .u16 a7] 26) ∧ wr.heap[w.heap.size + 1]? = some (.cells #[.int .u16 b0, .int .u16 b1, .int .u16 b2, .int .u16 b3, .int .u16 b4, .int .u16 b5, .int .u16 b6, .int .u16 b7] 26) ∧ Hid (∃ q os, wr = grow (w.drewN q) os)) (fun i _ => 8 - (intOf i).toNat)
  case atStart => exact ⟨0, Nat.zero_le _, rfl, rfl, hbx' _, hby' _, ⟨0, _, grow_two w _ _⟩⟩
  case round =>
    obtain ⟨k, hk, rfl, HC, hx, hy, HW⟩ := hrel
    by_cases hlt : k < 8
    · have c1 := getD8 hx (k : Int) (by omega) (by omega)
      have c2 := getD8 hy (k : Int) (by omega) (by omega)
      simp only [Int.toNat_natCast] at c1 c2
      have hstep := cmpL_drop [a0, a1, a2, a3, a4, a5, a6, a7] [b0, b1, b2, b3, b4, b5, b6, b7] k hlt hlt
      rw [← HC.out] at hstep
      have HC2 : Hid (cmpL [a0, a1, a2, a3, a4, a5, a6, a7] [b0, b1, b2, b3, b4, b5, b6, b7] = _) := hstep
      clear hstep HC
      generalize [a0, a1, a2, a3, a4, a5, a6, a7].getD k 0 = X at *
      generalize [b0, b1, b2, b3, b4, b5, b6, b7].getD k 0 = Y at *
      have hcm := cmp43 X Y
      by_cases h1 : X < Y
      · rw [show cmp1 X Y = -1 by simp [cmp1, h1]] at hcm
        have HR : Hid (cmpL [a0, a1, a2, a3, a4, a5, a6, a7] [b0, b1, b2, b3, b4, b5, b6, b7] = -1) := by show _ = _; rw [HC2.out, if_pos h1]
        clear HC2 h1
        go_wp2
        go_quiet ((go_at_call 67; exact Calls.quiet_of_same (hcm _)))
        go_wp2
        go_ret
        refine ⟨by rw [HR.out]; rfl, ?_⟩
        first | exact gw_more HW.out _ | exact gw_more (gw_more HW.out _) _
      · by_cases h2 : Y < X
        · rw [show cmp1 X Y = 1 by simp [cmp1, h1, h2]] at hcm
          have HR : Hid (cmpL [a0, a1, a2, a3, a4, a5, a6, a7] [b0, b1, b2, b3, b4, b5, b6, b7] = 1) := by show _ = _; rw [HC2.out, if_neg h1, if_pos h2]
          clear HC2 h1 h2
          go_wp2
          go_quiet ((go_at_call 67; exact Calls.quiet_of_same (hcm _)))
          go_wp2
          go_ret
          refine ⟨by rw [HR.out]; rfl, ?_⟩
          first | exact gw_more HW.out _ | exact gw_more (gw_more HW.out _) _
        · rw [show cmp1 X Y = 0 by simp [cmp1, h1, h2]] at hcm
          have HR : Hid (cmpL [a0, a1, a2, a3, a4, a5, a6, a7] [b0, b1, b2, b3, b4, b5, b6, b7] = cmpL ([a0, a1, a2, a3, a4, a5, a6, a7].drop (k + 1)) ([b0, b1, b2, b3, b4, b5, b6, b7].drop (k + 1))) := by show _ = _; rw [HC2.out, if_neg h1, if_neg h2]
          clear HC2 h1 h2
          go_wp2
          go_quiet ((go_at_call 67; exact Calls.quiet_of_same (hcm _)))
          go_wp2
          refine ⟨⟨k + 1, by omega, by go_num, HR, hx, hy, ?_⟩, by simp [intOf]; omega⟩
          first | exact gw_more HW.out _ | exact gw_more (gw_more HW.out _) _
    · have hk8 : k = 8 := by omega
      subst hk8
      have HR : Hid (cmpL [a0, a1, a2, a3, a4, a5, a6, a7] [b0, b1, b2, b3, b4, b5, b6, b7] = 0) := HC.out
      clear HC
      go_wp2
      go_ret
      exact ⟨by rw [HR.out]; rfl, HW.out⟩

set_option maxRecDepth 100000 in
set_option maxHeartbeats 400000 in
theorem cmp28 (x y : P8) (w : World) : Calls Try.prog 57 #[x.v, y.v] w fun e w' => e = .returned (.int .i64 (cf x y)) ∧ ∃ q os, w' = grow (w.drewN q) os := by
  have hl := x.len
  have hm := y.len
  have hbx : ∀ (w : World) (B : Obj), ((w.alloc (.cells (cellsP x.l) 26)).alloc B).heap[w.heap.size]? = some (.cells (cellsP x.l) 26) := fun w B => heap_alloc2_old _ _ _
  have hby : ∀ (w : World) (A : Obj), ((w.alloc A).alloc (.cells (cellsP y.l) 26)).heap[w.heap.size + 1]? = some (.cells (cellsP y.l) 26) := fun w B => heap_alloc2_new _ _ _
  unfold cf
  rw [show x.v = .agg (cellsP x.l) from rfl, show y.v = .agg (cellsP y.l) from rfl]
  generalize x.l = l at *
  generalize y.l = m at *
  obtain ⟨a0, a1, a2, a3, a4, a5, a6, a7, rfl⟩ := eight hl
  obtain ⟨b0, b1, b2, b3, b4, b5, b6, b7, rfl⟩ := eight hm
  have hbx' := hbx w
  have hby' := hby w
  simp only [cellsP, List.map_cons, List.map_nil] at hbx' hby' ⊢
  clear hbx hby
  go_enter Try.func57, Try.ntmps57
  go_wp2
  go_loopw [5] (fun i wr => ∃ k : Nat, k ≤ 8 ∧ i = .int .i64 k ∧ Hid (cmpL [a0, a1, a2, a3, a4, a5, a6, a7] [b0, b1, b2, b3, b4, b5, b6, b7] = cmpL ([a0, a1, a2, a3, a4, a5, a6, a7].drop k) ([b0, b1, b2, b3, b4, b5, b6, b7].drop k)) ∧ wr.heap[w.heap.size]? = some (.cells #[.int .u16 a0, .int .u16 a1, .int .u16 a2, .int .u16 a3, .int .u16 a4, .int .u16 a5, .int .u16 a6, .int .u16 a7] 26) ∧ wr.heap[w.heap.size + 1]? = some (.cells #[.int .u16 b0, .int .u16 b1, .int .u16 b2, .int .u16 b3, .int .u16 b4, .int .u16 b5, .int .u16 b6, .int .u16 b7] 26) ∧ Hid (∃ q os, wr = grow (w.drewN q) os)) (fun i _ => 8 - (intOf i).toNat)
  case atStart => exact ⟨0, Nat.zero_le _, rfl, rfl, hbx' _, hby' _, ⟨0, _, grow_two w _ _⟩⟩
  case round =>
    obtain ⟨k, hk, rfl, HC, hx, hy, HW⟩ := hrel
    by_cases hlt : k < 8
    · have c1 := getD8 hx (k : Int) (by omega) (by omega)
      have c2 := getD8 hy (k : Int) (by omega) (by omega)
      simp only [Int.toNat_natCast] at c1 c2
      have hstep := cmpL_drop [a0, a1, a2, a3, a4, a5, a6, a7] [b0, b1, b2, b3, b4, b5, b6, b7] k hlt hlt
      rw [← HC.out] at hstep
      have HC2 : Hid (cmpL [a0, a1, a2, a3, a4, a5, a6, a7] [b0, b1, b2, b3, b4, b5, b6, b7] = _) := hstep
      clear hstep HC
      generalize [a0, a1, a2, a3, a4, a5, a6, a7].getD k 0 = X at *
      generalize [b0, b1, b2, b3, b4, b5, b6, b7].getD k 0 = Y at *
      by_cases h1 : X < Y
      · have d1 : decide (X < Y) = true := by simp; omega
        have HR : Hid (cmpL [a0, a1, a2, a3, a4, a5, a6, a7] [b0, b1, b2, b3, b4, b5, b6, b7] = -1) := by show _ = _; rw [HC2.out, if_pos h1]
        clear HC2 h1
        go_wp2
        go_quiet (fail)
        go_wp2
        go_ret
        refine ⟨by rw [HR.out]; rfl, ?_⟩
        first | exact gw_more HW.out _ | exact gw_more (gw_more HW.out _) _
      · have d1 : decide (X < Y) = false := by simp; omega
        by_cases h2 : Y < X
        · have d2 : decide (Y < X) = true := by simp; omega
          have HR : Hid (cmpL [a0, a1, a2, a3, a4, a5, a6, a7] [b0, b1, b2, b3, b4, b5, b6, b7] = 1) := by show _ = _; rw [HC2.out, if_neg h1, if_pos h2]
          clear HC2 h1 h2
          go_wp2
          go_quiet (fail)
          go_wp2
          go_quiet (fail)
          go_wp2
          go_ret
          refine ⟨by rw [HR.out]; rfl, ?_⟩
          first | exact gw_more HW.out _ | exact gw_more (gw_more HW.out _) _
        · have d2 : decide (Y < X) = false := by simp; omega
          have HR : Hid (cmpL [a0, a1, a2, a3, a4, a5, a6, a7] [b0, b1, b2, b3, b4, b5, b6, b7] = cmpL ([a0, a1, a2, a3, a4, a5, a6, a7].drop (k + 1)) ([b0, b1, b2, b3, b4, b5, b6, b7].drop (k + 1))) := by show _ = _; rw [HC2.out, if_neg h1, if_neg h2]
          clear HC2 h1 h2
          go_wp2
          go_quiet (fail)
          go_wp2
          go_quiet (fail)
          go_wp2
          refine ⟨⟨k + 1, by omega, by go_num, HR, hx, hy, ?_⟩, by simp [intOf]; omega⟩
          first | exact gw_more HW.out _ | exact gw_more (gw_more HW.out _) _
    · have hk8 : k = 8 := by omega
      subst hk8
      have HR : Hid (cmpL [a0, a1, a2, a3, a4, a5, a6, a7] [b0, b1, b2, b3, b4, b5, b6, b7] = 0) := HC.out
      clear HC
      go_wp2
      go_ret
      exact ⟨by rw [HR.out]; rfl, HW.out⟩
end Go.Proofs.Ytipiepcbgjceaaa
