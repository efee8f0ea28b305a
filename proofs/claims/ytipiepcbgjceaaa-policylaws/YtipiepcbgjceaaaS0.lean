/- Plain facts on the order of packets, on lists in that order, each once, and on the document's Add; no conditions of mine. -/
import Derived.Test.YtipiepcbgjceaaaB0
import Derived.Lib.SliceRun
import Derived.Shelf.SlSortCmp.Insertion
import Derived.Test.YtipiepcbgjceaaaW1
import Derived.Lib.QuietBelow
set_option linter.unusedVariables false
set_option linter.unusedSimpArgs false
namespace Go.Proofs.Ytipiepcbgjceaaa
open Go.Sort Go.Lib Go.Shelf

/-- A packet: eight numbers. -/
structure P8 where
  a0 : Int
  a1 : Int
  a2 : Int
  a3 : Int
  a4 : Int
  a5 : Int
  a6 : Int
  a7 : Int
def P8.l (x : P8) : List Int := [x.a0, x.a1, x.a2, x.a3, x.a4, x.a5, x.a6, x.a7]
theorem P8.len (x : P8) : x.l.length = 8 := rfl
theorem P8.inj {x y : P8} (h : x.l = y.l) : x = y := by
  cases x; cases y; simp [P8.l] at h; simp [h]

/-- The order of two rows of numbers: by the first that differs. -/
def cmpL : List Int → List Int → Int
  | a :: r, b :: s => if a < b then -1 else if b < a then 1 else cmpL r s
  | _, _ => 0
theorem cmpL_self : ∀ l : List Int, cmpL l l = 0
  | [] => rfl
  | a :: r => by rw [cmpL, if_neg (by omega), if_neg (by omega)]; exact cmpL_self r
theorem cmpL_eq : ∀ l m : List Int, l.length = m.length → cmpL l m = 0 → l = m
  | [], [], _, _ => rfl
  | a :: r, b :: s, h, h0 => by
    rw [cmpL] at h0
    split at h0
    · omega
    · split at h0
      · omega
      · rw [cmpL_eq r s (by simpa using h) h0, show a = b by omega]
theorem cmpL_neg : ∀ l m : List Int, cmpL l m = - cmpL m l
  | [], [] => rfl
  | [], _ :: _ => rfl
  | _ :: _, [] => rfl
  | a :: r, b :: s => by
    rw [cmpL, cmpL]
    by_cases h1 : a < b
    · rw [if_pos h1, if_neg (by omega), if_pos h1]
    · by_cases h2 : b < a
      · rw [if_neg h1, if_pos h2, if_pos h2]; rfl
      · rw [if_neg h1, if_neg h2, if_neg h2, if_neg h1]; exact cmpL_neg r s
theorem cmpL_trans : ∀ l m n : List Int, l.length = m.length → m.length = n.length → cmpL l m < 0 → cmpL m n < 0 → cmpL l n < 0
  | [], [], [], _, _, h, _ => by simp [cmpL] at h
  | a :: r, b :: s, c :: t, h1, h2, h3, h4 => by
    rw [cmpL] at h3 h4 ⊢
    split at h3
    · split at h4
      · rw [if_pos (by omega)]; omega
      · split at h4
        · omega
        · rw [if_pos (by omega)]; omega
    · split at h3
      · omega
      · split at h4
        · rw [if_pos (by omega)]; omega
        · split at h4
          · omega
          · rw [if_neg (by omega), if_neg (by omega)]
            exact cmpL_trans r s t (by simpa using h1) (by simpa using h2) h3 h4
theorem cmpL_range : ∀ l m : List Int, cmpL l m = -1 ∨ cmpL l m = 0 ∨ cmpL l m = 1
  | [], [] => .inr (.inl rfl)
  | [], _ :: _ => .inr (.inl rfl)
  | _ :: _, [] => .inr (.inl rfl)
  | a :: r, b :: s => by
    rw [cmpL]
    split
    · exact .inl rfl
    · split
      · exact .inr (.inr rfl)
      · exact cmpL_range r s

def cf (x y : P8) : Int := cmpL x.l y.l
theorem cf_self (x : P8) : cf x x = 0 := cmpL_self _
theorem cf_eq {x y : P8} (h : cf x y = 0) : x = y := P8.inj (cmpL_eq x.l y.l (x.len.trans y.len.symm) h)
theorem cf_neg (x y : P8) : cf x y = - cf y x := cmpL_neg _ _
theorem cf_trans {x y z : P8} (h1 : cf x y < 0) (h2 : cf y z < 0) : cf x z < 0 := cmpL_trans x.l y.l z.l (x.len.trans y.len.symm) (y.len.trans z.len.symm) h1 h2
theorem ltOf_cf (x y : P8) : ltOf cf x y = decide (cf x y < 0) := rfl
theorem swo_cf : SWO (ltOf cf) where
  irrefl x := by rw [ltOf_cf, cf_self]; rfl
  trans x y z h1 h2 := by
    rw [ltOf_cf] at *
    exact decide_eq_true (cf_trans (of_decide_eq_true h1) (of_decide_eq_true h2))
  ntrans x y z h1 h2 := by
    rw [ltOf_cf] at *
    have h1' := of_decide_eq_false h1
    have h2' := of_decide_eq_false h2
    apply decide_eq_false
    intro h
    rcases Int.lt_or_eq_of_le (show cf y x ≤ 0 by rw [cf_neg]; omega) with k1 | k1
    · exact h2' (by
        have := cf_trans k1 h
        omega)
    · rw [cf_eq k1] at h2'
      exact h2' h
theorem tot_cf (x y : P8) (h1 : ltOf cf x y = false) (h2 : ltOf cf y x = false) : x = y := by
  rw [ltOf_cf] at *
  have h1' := of_decide_eq_false h1
  have h2' := of_decide_eq_false h2
  rw [cf_neg y x] at h2'
  exact cf_eq (by omega)

/-- In order, each once. -/
def SS (l : List P8) : Prop := l.Pairwise fun x y => cf x y < 0
theorem ss_unique : ∀ l m : List P8, SS l → SS m → (∀ x, x ∈ l ↔ x ∈ m) → l = m
  | [], [], _, _, _ => rfl
  | [], y :: m, _, _, h => by have := (h y).2 (List.mem_cons_self ..); cases this
  | x :: l, [], _, _, h => by have := (h x).1 (List.mem_cons_self ..); cases this
  | x :: l, y :: m, h1, h2, h => by
    obtain ⟨a1, b1⟩ := List.pairwise_cons.1 h1
    obtain ⟨a2, b2⟩ := List.pairwise_cons.1 h2
    have exy : x = y := by
      rcases List.mem_cons.1 ((h x).1 (List.mem_cons_self ..)) with e | e
      · exact e
      · rcases List.mem_cons.1 ((h y).2 (List.mem_cons_self ..)) with e' | e'
        · exact e'.symm
        · have k1 := a2 x e
          have k2 := a1 y e'
          rw [cf_neg] at k1
          omega
    subst exy
    rw [ss_unique l m b1 b2 fun z => ⟨fun hz => ?_, fun hz => ?_⟩]
    · rcases List.mem_cons.1 ((h z).1 (List.mem_cons_of_mem _ hz)) with e | e
      · have := a1 z hz
        rw [e, cf_self] at this
        omega
      · exact e
    · rcases List.mem_cons.1 ((h z).2 (List.mem_cons_of_mem _ hz)) with e | e
      · have := a2 z hz
        rw [e, cf_self] at this
        omega
      · exact e
theorem ss_snoc {l : List P8} {x : P8} (h : SS l) (hx : ∀ z ∈ l, cf z x < 0) : SS (l ++ [x]) := by
  unfold SS
  rw [List.pairwise_append]
  refine ⟨h, List.pairwise_singleton _ _, fun a ha b hb => ?_⟩
  rw [List.mem_singleton] at hb
  subst hb
  exact hx a ha

/-- One round of the document's Add. -/
def addStep (p : P8) (s : List P8 × Bool) (x : P8) : List P8 × Bool :=
  ((if cf p x ≠ 0 then (if s.2 = false ∧ cf p x ≤ 0 then s.1 ++ [p] else s.1) ++ [x] else (if s.2 = false ∧ cf p x ≤ 0 then s.1 ++ [p] else s.1)), s.2 || decide (cf p x ≤ 0))
def addTo (p : P8) (l : List P8) : List P8 × Bool := l.foldl (addStep p) ([], false)
def addL (l : List P8) (p : P8) : List P8 := if (addTo p l).2 = true then (addTo p l).1 else (addTo p l).1 ++ [p]
theorem addTo_snoc (p : P8) (l : List P8) (k : Nat) (h : k < l.length) : addTo p (l.take (k + 1)) = addStep p (addTo p (l.take k)) l[k] := by
  unfold addTo; rw [List.take_succ_eq_append_getElem h, List.foldl_append]; rfl
structure AddInv (p : P8) (u r : List P8) (s : List P8 × Bool) : Prop where
  ss : SS s.1
  mem : ∀ z, z ∈ s.1 ↔ (s.2 = true ∧ z = p) ∨ z ∈ u
  low : ∀ z ∈ s.1, ∀ y ∈ r, cf z y < 0
  lt : s.2 = false → ∀ z ∈ s.1, cf z p < 0
theorem addInv_step (p x : P8) (u r : List P8) (s : List P8 × Bool) (hr : ∀ y ∈ r, cf x y < 0) (h : AddInv p u (x :: r) s) : AddInv p (u ++ [x]) r (addStep p s x) := by
  obtain ⟨out, done⟩ := s
  obtain ⟨h1, h2, h3, h4⟩ := h
  simp only at h1 h2 h3 h4
  have hx : ∀ z ∈ out, cf z x < 0 := fun z hz => h3 z hz x (List.mem_cons_self ..)
  have hr3 : ∀ z ∈ out, ∀ y ∈ r, cf z y < 0 := fun z hz y hy => h3 z hz y (List.mem_cons_of_mem _ hy)
  cases done with
  | true =>
    have hp : p ∈ out := (h2 p).2 (.inl ⟨rfl, rfl⟩)
    have hpx := hx p hp
    have e : addStep p (out, true) x = (out ++ [x], true) := by
      simp [addStep, show ¬ cf p x = 0 by omega]
    rw [e]
    refine ⟨ss_snoc h1 hx, fun z => ?_, fun z hz y hy => ?_, fun hh => by cases hh⟩
    · simp only [List.mem_append, List.mem_singleton, h2 z, or_assoc]
    · rcases List.mem_append.1 hz with k | k
      · exact hr3 z k y hy
      · rw [List.mem_singleton] at k; subst k; exact hr y hy
  | false =>
    have h4' := h4 rfl
    rcases Int.lt_trichotomy (cf p x) 0 with hc | hc | hc
    · have e : addStep p (out, false) x = (out ++ [p] ++ [x], true) := by
        simp [addStep, show ¬ cf p x = 0 by omega, show cf p x ≤ 0 by omega]
      rw [e]
      refine ⟨ss_snoc (ss_snoc h1 h4') (fun z hz => ?_), fun z => ?_, fun z hz y hy => ?_, fun hh => by cases hh⟩
      · rcases List.mem_append.1 hz with k | k
        · exact hx z k
        · rw [List.mem_singleton] at k; subst k; exact hc
      · simp only [List.mem_append, List.mem_singleton, h2 z]
        simp
        constructor
        · rintro ((a | a) | a)
          · exact .inr (.inl a)
          · exact .inl a
          · exact .inr (.inr a)
        · rintro (a | a | a)
          · exact .inl (.inr a)
          · exact .inl (.inl a)
          · exact .inr a
      · rcases List.mem_append.1 hz with k | k
        · rcases List.mem_append.1 k with k | k
          · exact hr3 z k y hy
          · rw [List.mem_singleton] at k; subst k; exact cf_trans hc (hr y hy)
        · rw [List.mem_singleton] at k; subst k; exact hr y hy
    · have e : addStep p (out, false) x = (out ++ [p], true) := by
        simp [addStep, hc]
      rw [e]
      have exp := cf_eq hc
      refine ⟨ss_snoc h1 h4', fun z => ?_, fun z hz y hy => ?_, fun hh => by cases hh⟩
      · simp only [List.mem_append, List.mem_singleton, h2 z]
        subst exp
        simp
        exact fun a => .inr a
      · rcases List.mem_append.1 hz with k | k
        · exact hr3 z k y hy
        · rw [List.mem_singleton] at k; subst k; rw [exp]; exact hr y hy
    · have e : addStep p (out, false) x = (out ++ [x], false) := by
        simp [addStep, show ¬ cf p x = 0 by omega, show ¬ cf p x ≤ 0 by omega]
      rw [e]
      refine ⟨ss_snoc h1 hx, fun z => ?_, fun z hz y hy => ?_, fun _ z hz => ?_⟩
      · simp only [List.mem_append, List.mem_singleton, h2 z]
        simp
      · rcases List.mem_append.1 hz with k | k
        · exact hr3 z k y hy
        · rw [List.mem_singleton] at k; subst k; exact hr y hy
      · rcases List.mem_append.1 hz with k | k
        · exact h4' z k
        · rw [List.mem_singleton] at k; subst k; rw [cf_neg]; omega
theorem addInv_all (p : P8) : ∀ (r u : List P8) (s : List P8 × Bool), SS r → AddInv p u r s → AddInv p (u ++ r) [] (r.foldl (addStep p) s)
  | [], u, s, _, h => by rw [List.append_nil]; exact h
  | x :: r, u, s, hs, h => by
    obtain ⟨a1, b1⟩ := List.pairwise_cons.1 hs
    have := addInv_all p r (u ++ [x]) _ b1 (addInv_step p x u r s a1 h)
    simpa using this
theorem addL_ok (l : List P8) (p : P8) (h : SS l) : SS (addL l p) ∧ ∀ z, z ∈ addL l p ↔ z ∈ l ∨ z = p := by
  have hI := addInv_all p l [] ([], false) h (AddInv.mk List.Pairwise.nil (fun z => by simp) (fun z hz => by simp at hz) (fun _ z hz => by simp at hz))
  rw [show l.foldl (addStep p) ([], false) = addTo p l from rfl] at hI
  unfold addL
  cases hd : (addTo p l).2 with
  | true =>
    rw [if_pos rfl]
    refine ⟨hI.ss, fun z => ?_⟩
    rw [hI.mem, hd]; simp
    exact Or.comm
  | false =>
    rw [if_neg (by simp)]
    refine ⟨ss_snoc hI.ss (hI.lt hd), fun z => ?_⟩
    rw [List.mem_append, hI.mem, hd]; simp
def sortL (l : List P8) : List P8 := l.foldl addL []
theorem sortL_snoc (l : List P8) (k : Nat) (h : k < l.length) : sortL (l.take (k + 1)) = addL (sortL (l.take k)) l[k] := by
  unfold sortL; rw [List.take_succ_eq_append_getElem h, List.foldl_append]; rfl
theorem sort_go : ∀ (l u : List P8), SS u → SS (l.foldl addL u) ∧ ∀ z, z ∈ l.foldl addL u ↔ z ∈ u ∨ z ∈ l
  | [], u, h => ⟨h, fun z => by simp⟩
  | x :: l, u, h => by
    have h1 := addL_ok u x h
    have h2 := sort_go l _ h1.1
    refine ⟨h2.1, fun z => ?_⟩
    rw [List.foldl_cons, h2.2, h1.2, List.mem_cons, or_assoc]
theorem sortL_ok (l : List P8) : SS (sortL l) ∧ ∀ z, z ∈ sortL l ↔ z ∈ l := by
  have := sort_go l [] List.Pairwise.nil
  refine ⟨this.1, fun z => ?_⟩
  rw [show sortL l = l.foldl addL [] from rfl, this.2]; simp
theorem addTo_len (p : P8) (l : List P8) : (addTo p l).1.length ≤ 2 * l.length := by
  unfold addTo
  have key : ∀ (l : List P8) (s : List P8 × Bool), (l.foldl (addStep p) s).1.length ≤ s.1.length + 2 * l.length := by
    intro l
    induction l with
    | nil => intro s; simp
    | cons x r ih =>
      intro s
      have h1 := ih (addStep p s x)
      have h2 : (addStep p s x).1.length ≤ s.1.length + 2 := by
        simp only [addStep]
        split <;> split <;> simp
      rw [List.foldl_cons, List.length_cons]
      omega
  have := key l ([], false)
  simpa using this
end Go.Proofs.Ytipiepcbgjceaaa
/- What packet.Compare and the document's Compare answer, for every two packets; no conditions of mine. -/
set_option linter.unusedVariables false
set_option linter.unusedSimpArgs false
namespace Go.Proofs.Ytipiepcbgjceaaa
open Go.RowKit Go.Sort

def cmp1 (x y : Int) : Int := if x < y then -1 else if y < x then 1 else 0
theorem cmp43 (x y : Int) (w : World) : Calls Try.prog 67 #[.int .u16 x, .int .u16 y] w fun e w' => e = .returned (.int .i64 (cmp1 x y)) ∧ w' = w := by
  have hN : ∀ (x : Int) (w : World), Calls Try.prog 85 #[.int .u16 x] w fun e w' => e = .returned (.bool false) ∧ w' = w := by
    intro x w
    go_enter Try.func85, Try.ntmps85
    go_wp2
    go_ret
    exact ⟨by simp, rfl⟩
  unfold cmp1
  by_cases h1 : x < y
  · have d1 : decide (x < y) = true := by simp; omega
    rw [if_pos h1]
    clear h1
    go_enter Try.func67, Try.ntmps67
    go_wp2_with (go_at_call 85; refine (hN _ _).mono ?_; rintro e w' ⟨rfl, rfl⟩)
    go_ret
    exact ⟨rfl, rfl⟩
  · have d1 : decide (x < y) = false := by simp; omega
    rw [if_neg h1]
    by_cases h2 : y < x
    · have d2 : decide (y < x) = true := by simp; omega
      rw [if_pos h2]
      clear h1 h2
      go_enter Try.func67, Try.ntmps67
      go_wp2_with (go_at_call 85; refine (hN _ _).mono ?_; rintro e w' ⟨rfl, rfl⟩)
      go_ret
      exact ⟨rfl, rfl⟩
    · have d2 : decide (y < x) = false := by simp; omega
      rw [if_neg h2]
      clear h1 h2
      go_enter Try.func67, Try.ntmps67
      go_wp2_with (go_at_call 85; refine (hN _ _).mono ?_; rintro e w' ⟨rfl, rfl⟩)
      go_ret
      exact ⟨rfl, rfl⟩

theorem cmpL_drop (l m : List Int) (k : Nat) (h1 : k < l.length) (h2 : k < m.length) : cmpL (l.drop k) (m.drop k) = if l.getD k 0 < m.getD k 0 then -1 else if m.getD k 0 < l.getD k 0 then 1 else cmpL (l.drop (k + 1)) (m.drop (k + 1)) := by
  rw [List.drop_eq_getElem_cons h1, List.drop_eq_getElem_cons h2, cmpL]
  simp [List.getD_eq_getElem?_getD, List.getElem?_eq_getElem h1, List.getElem?_eq_getElem h2]
/-- The cells of a packet. -/
def enc8 (x : P8) : List Value := [.int .u16 x.a0, .int .u16 x.a1, .int .u16 x.a2, .int .u16 x.a3, .int .u16 x.a4, .int .u16 x.a5, .int .u16 x.a6, .int .u16 x.a7]
/-- The value of a packet. -/
abbrev P8.v (x : P8) : Value := pk x.a0 x.a1 x.a2 x.a3 x.a4 x.a5 x.a6 x.a7
theorem enc8_cells (x : P8) : cellsP x.l = (enc8 x).toArray := rfl
theorem P8.v_enc (x : P8) : x.v = .agg (enc8 x).toArray := rfl
theorem grow_more (w : World) (q n : Nat) (os : Array Obj) : (grow (w.drewN q) os).drewN n = grow (w.drewN (q + n)) os := by
  simp [grow, World.drewN, Nat.add_assoc]
theorem gw_more {w wr : World} (h : ∃ q os, wr = grow (w.drewN q) os) (n : Nat) : ∃ q os, wr.drewN n = grow (w.drewN q) os := by
  obtain ⟨q, os, rfl⟩ := h
  exact ⟨_, _, grow_more w q n os⟩
theorem grow_two (w : World) (A B : Obj) : (w.alloc A).alloc B = grow (w.drewN 0) #[A, B] := by
  rw [alloc_eq_grow, alloc_eq_grow, grow_grow]; rfl

set_option maxRecDepth 100000 in
set_option maxHeartbeats 400000 in
theorem cmp27 (x y : P8) (w : World) : Calls Try.prog 55 #[x.v, y.v] w fun e w' => e = .returned (.int .i64 (cf x y)) ∧ ∃ q os, w' = grow (w.drewN q) os := by
  have hl := x.len
  have hm := y.len
  have hbx : ∀ (w : World) (B : Obj), ((w.alloc (.cells (cellsP x.l) 26)).alloc B).heap[w.heap.size]? = some (.cells (cellsP x.l) 26) := fun w B => heap_alloc2_old _ _ _
  have hby : ∀ (w : World) (A : Obj), ((w.alloc A).alloc (.cells (cellsP y.l) 26)).heap[w.heap.size + 1]? = some (.cells (cellsP y.l) 26) := fun w B => heap_alloc2_new _ _ _
  unfold cf
  rw [show x.v = .agg (cellsP x.l) from rfl, show y.v = .agg (cellsP y.l) from rfl]
  generalize x.l = l at *
  generalize y.l = m at *
  obtain ⟨a0, a1, a2, a3, a4, a5, a6, a7, rfl⟩ := eight hl
  obtain ⟨b0, b1, b2, b3, b4, b5, b6, b7, rfl⟩ := eight hm
  have hbx' := hbx w
  have hby' := hby w
  simp only [cellsP, List.map_cons, List.map_nil] at hbx' hby' ⊢
  clear hbx hby
  go_enter Try.func55, Try.ntmps55
  go_wp2
  go_loopw [7] (fun i wr => ∃ k : Nat, k ≤ 8 ∧ i = .int .i64 k ∧ Hid (cmpL [a0, a1, a2, a3, a4, a5, a6, a7] [b0, b1, b2, b3, b4, b5, b6, b7] = cmpL ([a0, a1, a2, a3, a4, a5, a6, a7].drop k) ([b0, b1, b2, b3, b4, b5, b6, b7].drop k)) ∧ wr.heap[w.heap.size]? = some (.cells #[.int .u16 a0, .int .u16 a1, .int .u16 a2, .int .u16 a3, .int .u16 a4, .int .u16 a5, .int .u16 a6, .int .u16 a7] 26) ∧ wr.heap[w.heap.size + 1]? = some (.cells #[.int .u16 b0, .int .u16 b1, .int .u16 b2, .int .u16 b3, .int .u16 b4, .int .u16 b5, .int .u16 b6, .int .u16 b7] 26) ∧ Hid (∃ q os, wr = grow (w.drewN q) os)) (fun i _ => 8 - (intOf i).toNat)
  case atStart => exact ⟨0, Nat.zero_le _, rfl, rfl, hbx' _, hby' _, ⟨0, _, grow_two w _ _⟩⟩
  case round =>
    obtain ⟨k, hk, rfl, HC, hx, hy, HW⟩ := hrel
    by_cases hlt : k < 8
    · have c1 := getD8 hx (k : Int) (by omega) (by omega)
      have c2 := getD8 hy (k : Int) (by omega) (by omega)
      simp only [Int.toNat_natCast] at c1 c2
      have hstep := cmpL_drop [a0, a1, a2, a3, a4, a5, a6, a7] [b0, b1, b2, b3, b4, b5, b6, b7] k hlt hlt
      rw [← HC.out] at hstep
      have HC2 : Hid (cmpL [a0, a1, a2, a3, a4, a5, a6, a7] [b0, b1, b2, b3, b4, b5, b6, b7] = _) := hstep
      clear hstep HC
      generalize [a0, a1, a2, a3, a4, a5, a6, a7].getD k 0 = X at *
      generalize [b0, b1, b2, b3, b4, b5, b6, b7].getD k 0 = Y at *
      have hcm := cmp43 X Y
      by_cases h1 : X < Y
      · rw [show cmp1 X Y = -1 by simp [cmp1, h1]] at hcm
        have HR : Hid (cmpL [a0, a1, a2, a3, a4, a5, a6, a7] [b0, b1, b2, b3, b4, b5, b6, b7] = -1) := by show _ = _; rw [HC2.out, if_pos h1]
        clear HC2 h1
        go_wp2
        go_quiet ((go_at_call 67; exact Calls.quiet_of_same (hcm _)))
        go_wp2
        go_ret
        refine ⟨by rw [HR.out]; rfl, ?_⟩
        first | exact gw_more HW.out _ | exact gw_more (gw_more HW.out _) _
      · by_cases h2 : Y < X
        · rw [show cmp1 X Y = 1 by simp [cmp1, h1, h2]] at hcm
          have HR : Hid (cmpL [a0, a1, a2, a3, a4, a5, a6, a7] [b0, b1, b2, b3, b4, b5, b6, b7] = 1) := by show _ = _; rw [HC2.out, if_neg h1, if_pos h2]
          clear HC2 h1 h2
          go_wp2
          go_quiet ((go_at_call 67; exact Calls.quiet_of_same (hcm _)))
          go_wp2
          go_ret
          refine ⟨by rw [HR.out]; rfl, ?_⟩
          first | exact gw_more HW.out _ | exact gw_more (gw_more HW.out _) _
        · rw [show cmp1 X Y = 0 by simp [cmp1, h1, h2]] at hcm
          have HR : Hid (cmpL [a0, a1, a2, a3, a4, a5, a6, a7] [b0, b1, b2, b3, b4, b5, b6, b7] = cmpL ([a0, a1, a2, a3, a4, a5, a6, a7].drop (k + 1)) ([b0, b1, b2, b3, b4, b5, b6, b7].drop (k + 1))) := by show _ = _; rw [HC2.out, if_neg h1, if_neg h2]
          clear HC2 h1 h2
          go_wp2
          go_quiet ((go_at_call 67; exact Calls.quiet_of_same (hcm _)))
          go_wp2
          refine ⟨⟨k + 1, by omega, by go_num, HR, hx, hy, ?_⟩, by simp [intOf]; omega⟩
          first | exact gw_more HW.out _ | exact gw_more (gw_more HW.out _) _
    · have hk8 : k = 8 := by omega
      subst hk8
      have HR : Hid (cmpL [a0, a1, a2, a3, a4, a5, a6, a7] [b0, b1, b2, b3, b4, b5, b6, b7] = 0) := HC.out
      clear HC
      go_wp2
      go_ret
      exact ⟨by rw [HR.out]; rfl, HW.out⟩

set_option maxRecDepth 100000 in
set_option maxHeartbeats 400000 in
theorem cmp28 (x y : P8) (w : World) : Calls Try.prog 57 #[x.v, y.v] w fun e w' => e = .returned (.int .i64 (cf x y)) ∧ ∃ q os, w' = grow (w.drewN q) os := by
  have hl := x.len
  have hm := y.len
  have hbx : ∀ (w : World) (B : Obj), ((w.alloc (.cells (cellsP x.l) 26)).alloc B).heap[w.heap.size]? = some (.cells (cellsP x.l) 26) := fun w B => heap_alloc2_old _ _ _
  have hby : ∀ (w : World) (A : Obj), ((w.alloc A).alloc (.cells (cellsP y.l) 26)).heap[w.heap.size + 1]? = some (.cells (cellsP y.l) 26) := fun w B => heap_alloc2_new _ _ _
  unfold cf
  rw [show x.v = .agg (cellsP x.l) from rfl, show y.v = .agg (cellsP y.l) from rfl]
  generalize x.l = l at *
  generalize y.l = m at *
  obtain ⟨a0, a1, a2, a3, a4, a5, a6, a7, rfl⟩ := eight hl
  obtain ⟨b0, b1, b2, b3, b4, b5, b6, b7, rfl⟩ := eight hm
  have hbx' := hbx w
  have hby' := hby w
  simp only [cellsP, List.map_cons, List.map_nil] at hbx' hby' ⊢
  clear hbx hby
  go_enter Try.func57, Try.ntmps57
  go_wp2
  go_loopw [5] (fun i wr => ∃ k : Nat, k ≤ 8 ∧ i = .int .i64 k ∧ Hid (cmpL [a0, a1, a2, a3, a4, a5, a6, a7] [b0, b1, b2, b3, b4, b5, b6, b7] = cmpL ([a0, a1, a2, a3, a4, a5, a6, a7].drop k) ([b0, b1, b2, b3, b4, b5, b6, b7].drop k)) ∧ wr.heap[w.heap.size]? = some (.cells #[.int .u16 a0, .int .u16 a1, .int .u16 a2, .int .u16 a3, .int .u16 a4, .int .u16 a5, .int .u16 a6, .int .u16 a7] 26) ∧ wr.heap[w.heap.size + 1]? = some (.cells #[.int .u16 b0, .int .u16 b1, .int .u16 b2, .int .u16 b3, .int .u16 b4, .int .u16 b5, .int .u16 b6, .int .u16 b7] 26) ∧ Hid (∃ q os, wr = grow (w.drewN q) os)) (fun i _ => 8 - (intOf i).toNat)
  case atStart => exact ⟨0, Nat.zero_le _, rfl, rfl, hbx' _, hby' _, ⟨0, _, grow_two w _ _⟩⟩
  case round =>
    obtain ⟨k, hk, rfl, HC, hx, hy, HW⟩ := hrel
    by_cases hlt : k < 8
    · have c1 := getD8 hx (k : Int) (by omega) (by omega)
      have c2 := getD8 hy (k : Int) (by omega) (by omega)
      simp only [Int.toNat_natCast] at c1 c2
      have hstep := cmpL_drop [a0, a1, a2, a3, a4, a5, a6, a7] [b0, b1, b2, b3, b4, b5, b6, b7] k hlt hlt
      rw [← HC.out] at hstep
      have HC2 : Hid (cmpL [a0, a1, a2, a3, a4, a5, a6, a7] [b0, b1, b2, b3, b4, b5, b6, b7] = _) := hstep
      clear hstep HC
      generalize [a0, a1, a2, a3, a4, a5, a6, a7].getD k 0 = X at *
      generalize [b0, b1, b2, b3, b4, b5, b6, b7].getD k 0 = Y at *
      by_cases h1 : X < Y
      · have d1 : decide (X < Y) = true := by simp; omega
        have HR : Hid (cmpL [a0, a1, a2, a3, a4, a5, a6, a7] [b0, b1, b2, b3, b4, b5, b6, b7] = -1) := by show _ = _; rw [HC2.out, if_pos h1]
        clear HC2 h1
        go_wp2
        go_quiet (fail)
        go_wp2
        go_ret
        refine ⟨by rw [HR.out]; rfl, ?_⟩
        first | exact gw_more HW.out _ | exact gw_more (gw_more HW.out _) _
      · have d1 : decide (X < Y) = false := by simp; omega
        by_cases h2 : Y < X
        · have d2 : decide (Y < X) = true := by simp; omega
          have HR : Hid (cmpL [a0, a1, a2, a3, a4, a5, a6, a7] [b0, b1, b2, b3, b4, b5, b6, b7] = 1) := by show _ = _; rw [HC2.out, if_neg h1, if_pos h2]
          clear HC2 h1 h2
          go_wp2
          go_quiet (fail)
          go_wp2
          go_quiet (fail)
          go_wp2
          go_ret
          refine ⟨by rw [HR.out]; rfl, ?_⟩
          first | exact gw_more HW.out _ | exact gw_more (gw_more HW.out _) _
        · have d2 : decide (Y < X) = false := by simp; omega
          have HR : Hid (cmpL [a0, a1, a2, a3, a4, a5, a6, a7] [b0, b1, b2, b3, b4, b5, b6, b7] = cmpL ([a0, a1, a2, a3, a4, a5, a6, a7].drop (k + 1)) ([b0, b1, b2, b3, b4, b5, b6, b7].drop (k + 1))) := by show _ = _; rw [HC2.out, if_neg h1, if_neg h2]
          clear HC2 h1 h2
          go_wp2
          go_quiet (fail)
          go_wp2
          go_quiet (fail)
          go_wp2
          refine ⟨⟨k + 1, by omega, by go_num, HR, hx, hy, ?_⟩, by simp [intOf]; omega⟩
          first | exact gw_more HW.out _ | exact gw_more (gw_more HW.out _) _
    · have hk8 : k = 8 := by omega
      subst hk8
      have HR : Hid (cmpL [a0, a1, a2, a3, a4, a5, a6, a7] [b0, b1, b2, b3, b4, b5, b6, b7] = 0) := HC.out
      clear HC
      go_wp2
      go_ret
      exact ⟨by rw [HR.out]; rfl, HW.out⟩
end Go.Proofs.Ytipiepcbgjceaaa
/- How a list of packets lies in memory, and what the document's Same answers at two lists of the same packets; no conditions of mine but what each contract states. -/
set_option linter.unusedVariables false
set_option linter.unusedSimpArgs false
namespace Go.Proofs.Ytipiepcbgjceaaa
open Go.RowKit Go.Joins Go.Sort

/-- A packet's cells lie there. -/
def At8 (w : World) (b o : Nat) (x : P8) : Prop :=
  w.cell? ⟨b, o, none⟩ = some (.int .u16 x.a0) ∧ w.cell? ⟨b, o + 1, none⟩ = some (.int .u16 x.a1) ∧ w.cell? ⟨b, o + 2, none⟩ = some (.int .u16 x.a2) ∧ w.cell? ⟨b, o + 3, none⟩ = some (.int .u16 x.a3) ∧ w.cell? ⟨b, o + 4, none⟩ = some (.int .u16 x.a4) ∧ w.cell? ⟨b, o + 5, none⟩ = some (.int .u16 x.a5) ∧ w.cell? ⟨b, o + 6, none⟩ = some (.int .u16 x.a6) ∧ w.cell? ⟨b, o + 7, none⟩ = some (.int .u16 x.a7)
theorem At8.cell {w : World} {b o : Nat} {x : P8} (h : At8 w b o x) : ∀ j, j < 8 → w.cell? ⟨b, o + j, none⟩ = (enc8 x)[j]? := by
  obtain ⟨h0, h1, h2, h3, h4, h5, h6, h7⟩ := h
  intro j hj
  match j, hj with
  | 0, _ => exact h0
  | 1, _ => exact h1
  | 2, _ => exact h2
  | 3, _ => exact h3
  | 4, _ => exact h4
  | 5, _ => exact h5
  | 6, _ => exact h6
  | 7, _ => exact h7
theorem At8.of {w : World} {b o : Nat} {x : P8} (h : ∀ j, j < 8 → w.cell? ⟨b, o + j, none⟩ = (enc8 x)[j]?) : At8 w b o x :=
  ⟨h 0 (by decide), h 1 (by decide), h 2 (by decide), h 3 (by decide), h 4 (by decide), h 5 (by decide), h 6 (by decide), h 7 (by decide)⟩
theorem At8.lt {w : World} {b o : Nat} {x : P8} (h : At8 w b o x) : b < w.heap.size := block_lt_of_cell h.1
theorem At8.below {w w' : World} {b o B : Nat} {x : P8} (h : At8 w b o x) (hB : Below B w w') (hb : b < B) : At8 w' b o x :=
  At8.of fun j hj => by rw [hB.cell (p := ⟨b, o + j, none⟩) hb]; exact h.cell j hj

/-- Packets lie behind a slice. -/
def Pks (w : World) (v : Value) (L : List P8) : Prop :=
  (∃ b off cap, v = .slice (some ⟨b, off, none⟩) L.length cap ∧ b < w.heap.size ∧ ∀ i (h : i < L.length), At8 w b (off + i * 8) L[i]) ∨ (L = [] ∧ ∃ a c, v = .slice a 0 c)
theorem Pks.below {w w' : World} {v : Value} {L : List P8} (h : Pks w v L) (hB : Below w.heap.size w w') : Pks w' v L := by
  rcases h with ⟨b, off, cap, hv, hb, hc⟩ | h
  · exact .inl ⟨b, off, cap, hv, Nat.lt_of_lt_of_le hb hB.size, fun i hi => (hc i hi).below hB hb⟩
  · exact .inr h

/-- The cells of packets, one behind the other. -/
def flat8 (L : List P8) : List Value := L.flatMap enc8
theorem flat8_append (a b : List P8) : flat8 (a ++ b) = flat8 a ++ flat8 b := by simp [flat8]
theorem flat8_length : ∀ L : List P8, (flat8 L).length = L.length * 8
  | [] => rfl
  | x :: r => by
    have := flat8_length r
    simp only [flat8, List.flatMap_cons, List.length_append, List.length_cons] at this ⊢
    rw [this, show (enc8 x).length = 8 from rfl]; omega
theorem flat8_get : ∀ (L : List P8) (i : Nat) (h : i < L.length) (j : Nat), j < 8 → (flat8 L)[i * 8 + j]? = (enc8 L[i])[j]?
  | x :: r, 0, _, j, hj => by
    simp only [flat8, List.flatMap_cons]
    rw [List.getElem?_append_left (by rw [show (enc8 x).length = 8 from rfl]; omega)]
    simp
  | x :: r, i + 1, h, j, hj => by
    have := flat8_get r i (by simpa using h) j hj
    simp only [flat8, List.flatMap_cons] at this ⊢
    rw [List.getElem?_append_right (by rw [show (enc8 x).length = 8 from rfl]; omega), show (enc8 x).length = 8 from rfl, show (i + 1) * 8 + j - 8 = i * 8 + j by omega, this]
    rfl
theorem own_at {w : World} {B g n cap : Nat} {cur : Array Value} {L : List P8} (hgg : w.heap[g]? = some (.cells cur 26 (0, 0))) (hl : L.length = n) (htk : cur.toList.take (n * 8) = flat8 L) : ∀ i (h : i < L.length), At8 w g (0 + i * 8) L[i] := by
  subst hl
  intro i hi
  refine At8.of fun j hj => ?_
  rw [cell_of_row _ _ _ _ _ _ hgg]
  have hlt : i * 8 + j < L.length * 8 := by omega
  have := flat8_get L i hi j hj
  rw [← htk, List.getElem?_take_of_lt hlt, Array.getElem?_toList] at this
  rw [show 0 + i * 8 + j = i * 8 + j by omega]
  exact this
theorem pks_of_own {w : World} {B : Nat} {v : Value} {L : List P8} (h : w.ownsRow B 26 8 v L.length (flat8 L)) : Pks w v L := by
  rcases h.2 with ⟨hv, hn⟩ | ⟨g, cap, cur, hv, hB, hgg, hcap, hmax, hsz, htk⟩
  · exact .inr ⟨List.length_eq_zero_iff.1 hn, none, 0, hv⟩
  · exact .inl ⟨g, 0, cap, hv, (Array.getElem?_eq_some_iff.1 hgg).1, own_at (B := B) (cap := cap) hgg rfl htk⟩

theorem eqlP (x : P8) (w : World) : (Op.equalIn 10000 26 x.v x.v).run Try.prog w = .ok true w := by
  rw [eql8, same8_self]
theorem Pks.nil {w : World} {v : Value} (h : Pks w v []) : ∃ a c, v = .slice a 0 c := by
  rcases h with ⟨b, off, cap, hv, _⟩ | ⟨_, h⟩
  · exact ⟨_, _, hv⟩
  · exact h
theorem Pks.ne {w : World} {v : Value} {L : List P8} (h : Pks w v L) (hL : L ≠ []) : ∃ b off cap, v = .slice (some ⟨b, off, none⟩) L.length cap ∧ b < w.heap.size ∧ ∀ i (h : i < L.length), At8 w b (off + i * 8) L[i] := by
  rcases h with h | ⟨h, _⟩
  · exact h
  · exact absurd h hL

set_option maxRecDepth 100000 in
set_option maxHeartbeats 400000 in
theorem same25 (v1 v2 : Value) (L : List P8) (hlen : L.length ≤ 1000) (w : World) (h1 : Pks w v1 L) (h2 : Pks w v2 L) :
    Calls Try.prog 11 #[v1, v2] w fun e w' => e = .returned (.bool true) ∧ Below w.heap.size w w' := by
  by_cases hL : L = []
  · subst hL
    obtain ⟨a1, c1, rfl⟩ := h1.nil
    obtain ⟨a2, c2, rfl⟩ := h2.nil
    clear h1 h2
    go_enter Try.func11, Try.ntmps11
    go_wp2
    go_loopw [5] (fun i wr => i = .int .i64 0 ∧ Hid (wr = w)) (fun i _ => 0)
    case atStart => exact ⟨rfl, rfl⟩
    case round =>
      obtain ⟨rfl, HW⟩ := hrel
      go_wp2
      go_ret
      exact ⟨rfl, by rw [HW.out]; exact Below.refl _ _⟩
  · obtain ⟨b1, o1, c1, rfl, hb1, hc1⟩ := h1.ne hL
    obtain ⟨b2, o2, c2, rfl, hb2, hc2⟩ := h2.ne hL
    clear h1 h2
    have hne : ((L.length : Int) != (L.length : Int)) = false := by simp
    go_enter Try.func11, Try.ntmps11
    go_wp2
    go_loopw [5] (fun i wr => ∃ k : Nat, k ≤ L.length ∧ i = .int .i64 k ∧ Hid (Below w.heap.size w wr)) (fun i _ => L.length - (intOf i).toNat)
    case atStart => exact ⟨0, Nat.zero_le _, rfl, Below.refl _ _⟩
    case round =>
      obtain ⟨k, hk, rfl, HB⟩ := hrel
      by_cases hlt : k < L.length
      · obtain ⟨p0, p1, p2, p3, p4, p5, p6, p7⟩ := (hc1 k hlt).below HB.out hb1
        obtain ⟨q0, q1, q2, q3, q4, q5, q6, q7⟩ := (hc2 k hlt).below HB.out hb2
        generalize L[k] = x at *
        have e := eqlP x
        unfold P8.v at e
        clear hc1 hc2
        go_wp2
        go_quiet (fail)
        go_wp2
        refine ⟨⟨k + 1, by omega, by go_num, below_drewN HB.out _⟩, by simp [intOf]; omega⟩
      · have hkl : k = L.length := by omega
        subst hkl
        clear hc1 hc2
        go_wp2
        go_ret
        exact ⟨rfl, HB.out⟩
end Go.Proofs.Ytipiepcbgjceaaa
/- What the document's Add and Sort leave, for every list of at most 60 packets; no conditions of mine but what each contract states. -/
set_option linter.unusedVariables false
set_option linter.unusedSimpArgs false
namespace Go.Proofs.Ytipiepcbgjceaaa
open Go.RowKit Go.Joins Go.Sort

theorem info24' : (Try.prog.info? 26).map (fun i => (i.zero, i.size, i.bytes)) = some (some (pk 0 0 0 0 0 0 0 0), 8, 16) := by kernel_rfl
theorem addTo_len1 (p : P8) (l : List P8) : (addTo p l).1.length ≤ l.length + (if (addTo p l).2 = true then 1 else 0) := by
  unfold addTo
  have key : ∀ (l : List P8) (s : List P8 × Bool) (n : Nat), s.1.length ≤ n + (if s.2 = true then 1 else 0) → (l.foldl (addStep p) s).1.length ≤ n + l.length + (if (l.foldl (addStep p) s).2 = true then 1 else 0) := by
    intro l
    induction l with
    | nil => intro s n h; exact h
    | cons x r ih =>
      intro s n h
      have h1 := ih (addStep p s x) (n + 1) (by
        obtain ⟨out, d⟩ := s
        simp only [addStep] at h ⊢
        cases d <;> simp at h ⊢ <;> (repeat' split) <;> (try simp) <;> omega)
      rw [List.foldl_cons, List.length_cons]
      omega
  have := key l ([], false) 0 (by simp)
  simpa using this
theorem addL_len (l : List P8) (p : P8) : (addL l p).length ≤ l.length + 1 := by
  have := addTo_len1 p l
  unfold addL
  split
  · rename_i h; rw [if_pos h] at this; exact this
  · rename_i h; rw [if_neg h] at this; simp; omega
theorem sortL_len (l : List P8) : (sortL l).length ≤ l.length := by
  have key : ∀ (l u : List P8), (l.foldl addL u).length ≤ u.length + l.length := by
    intro l
    induction l with
    | nil => intro u; simp
    | cons x r ih =>
      intro u
      have h1 := ih (addL u x)
      have h2 := addL_len u x
      rw [List.foldl_cons, List.length_cons]
      omega
  have := key l []
  show (l.foldl addL []).length ≤ _
  simpa using this

theorem cell_new8 (w : World) (vs : List Value) (t : TypeId) : ∀ j u, vs[j]? = some u → (w.alloc (.cells vs.toArray t)).cell? ((⟨w.heap.size, 0, none⟩ : Addr).add j) = some u := by
  intro j u hj
  rw [show (⟨w.heap.size, 0, none⟩ : Addr).add j = ⟨w.heap.size, j, none⟩ by unfold Addr.add; split <;> simp_all, cell_of_row _ _ _ _ _ _ (heap_alloc_new w (.cells vs.toArray t))]
  simpa using hj
theorem enc8_one (x : P8) : ∀ u ∈ enc8 x, u.oneCell' = true := by
  intro u hu
  simp [enc8] at hu
  rcases hu with rfl | rfl | rfl | rfl | rfl | rfl | rfl | rfl <;> rfl

/-- What stands in memory while the document's Add goes on. -/
structure ASt (w : World) (p : P8) (v : Value) (out : List P8) (wr : World) : Prop where
  own : wr.ownsRow (w.heap.size + 1) 26 8 v out.length (flat8 out)
  box : wr.heap[w.heap.size]? = some (.cells #[.int .u16 p.a0, .int .u16 p.a1, .int .u16 p.a2, .int .u16 p.a3, .int .u16 p.a4, .int .u16 p.a5, .int .u16 p.a6, .int .u16 p.a7] 26)
  bel : Below w.heap.size w wr
theorem ASt.below {w wr w' : World} {p : P8} {v : Value} {out : List P8} (h : ASt w p v out wr) (hb : Below wr.heap.size wr w') : ASt w p v out w' :=
  ⟨own_below h.own hb, (hb.block _ (heap_lt h.box)).trans h.box, h.bel.trans (hb.mono h.bel.size)⟩
theorem ASt.app {w wr w' : World} {p : P8} {v v' : Value} {out : List P8} (h : ASt w p v out wr) (x : P8) (o : Obj) (ho : w'.ownsRow (w.heap.size + 1) 26 8 v' (out.length + 1) (flat8 out ++ enc8 x)) (hg : (wr.alloc o).grownBy w' v.ownBlock) : ASt w p v' (out ++ [x]) w' := by
  have hlt := heap_lt h.box
  refine ⟨?_, ?_, ?_⟩
  · rw [flat8_append, List.length_append, show flat8 [x] = enc8 x by simp [flat8]]; exact ho
  · have hfar : some w.heap.size ≠ v.ownBlock := fun e => by have := (h.own.lt _ e.symm).1; omega
    rw [hg.block w.heap.size (by simp; omega) hfar, Below.heap_alloc _ _ _ hlt]; exact h.box
  · exact Below.grown (h.bel.alloc (by omega) _) hg (by simp; omega) (fun j hj => by have := (h.own.lt _ hj).1; omega)
theorem Pks.form {w : World} {v : Value} {L : List P8} (h : Pks w v L) : ∃ sa sc, v = .slice sa L.length sc ∧ ∀ k (hk : k < L.length), ∃ b off, sa = some ⟨b, off, none⟩ ∧ b < w.heap.size ∧ At8 w b (off + k * 8) L[k] := by
  rcases h with ⟨b, off, cap, hv, hb, hc⟩ | ⟨rfl, a, c, hv⟩
  · exact ⟨_, _, hv, fun k hk => ⟨b, off, rfl, hb, hc k hk⟩⟩
  · exact ⟨a, c, hv, fun k hk => by simp at hk⟩
theorem addStep_tf {p x : P8} {out : List P8} {s : List P8 × Bool} (h : s = (out, true)) (hc : (cf p x == 0) = false) : addStep p s x = (out ++ [x], true) := by
  have : ¬ cf p x = 0 := by simpa using hc
  subst h; simp [addStep, this]
theorem addStep_tt {p x : P8} {out : List P8} {s : List P8 × Bool} (h : s = (out, true)) (hc : cf p x = 0) : addStep p s x = (out, true) := by
  subst h; simp [addStep, hc]
theorem addStep_fl {p x : P8} {out : List P8} {s : List P8 × Bool} (h : s = (out, false)) (hc : cf p x < 0) : addStep p s x = (out ++ [p] ++ [x], true) := by
  have h1 : ¬ cf p x = 0 := by omega
  have h2 : cf p x ≤ 0 := by omega
  subst h; simp [addStep, h1, h2]
theorem addStep_fe {p x : P8} {out : List P8} {s : List P8 × Bool} (h : s = (out, false)) (hc : cf p x = 0) : addStep p s x = (out ++ [p], true) := by
  subst h; simp [addStep, hc]
theorem addStep_fg {p x : P8} {out : List P8} {s : List P8 × Bool} (h : s = (out, false)) (hc : 0 < cf p x) : addStep p s x = (out ++ [x], false) := by
  have h1 : ¬ cf p x = 0 := by omega
  have h2 : ¬ cf p x ≤ 0 := by omega
  subst h; simp [addStep, h1, h2]

set_option maxRecDepth 100000 in
set_option maxHeartbeats 1000000 in
theorem add42 (v : Value) (L : List P8) (p : P8) (hlen : L.length ≤ 500) (w : World) (h : Pks w v L) :
    Calls Try.prog 48 #[v, p.v] w fun e w' => ∃ v', e = .returned v' ∧ Pks w' v' (addL L p) ∧ Below w.heap.size w w' := by
  obtain ⟨sa, sc, rfl, hc⟩ := h.form
  clear h
  obtain ⟨i0, hi, hz0, hz1, hz2⟩ := info_parts info24'
  unfold P8.v pk
  go_enter Try.func48, Try.ntmps48
  go_wp2
  go_loopw [5, 6, 7] (fun v dn i wr => ∃ (k : Nat) (out : List P8) (d : Bool), k ≤ L.length ∧ i = .int .i64 k ∧ dn = .bool d ∧ out.length ≤ 2 * k ∧ Hid (addTo p (L.take k) = (out, d)) ∧ Hid (ASt w p v out wr)) (fun _ _ i _ => L.length - (intOf i).toNat)
  case atStart => exact ⟨0, [], false, Nat.zero_le _, rfl, rfl, Nat.le_refl _, rfl, ⟨World.ownsRow_nil _ _ _ _, heap_alloc_new _ _, (Below.refl _ _).alloc (Nat.le_refl _) _⟩⟩
  case round =>
    obtain ⟨k, out, d, hk, rfl, rfl, hol, HA, HS⟩ := hrel
    by_cases hlt : k < L.length
    · obtain ⟨b, off, rfl, hb, hat⟩ := hc k hlt
      have HA2 : Hid (addTo p (L.take (k + 1)) = addStep p (addTo p (L.take k)) L[k]) := addTo_snoc p L k hlt
      have hx := hat.below HS.out.bel hb
      have hxx : Hid (∀ w', Below w.heap.size w w' → At8 w' b (off + k * 8) L[k]) := fun w' hB => hat.below hB hb
      generalize L[k] = x at *
      clear hat hc
      obtain ⟨q0, q1, q2, q3, q4, q5, q6, q7⟩ := hx
      obtain ⟨⟨r0, r1, r2, r3, r4, r5, r6, r7⟩, -, -⟩ := row8 HS.out.box
      have s0 := cell_regrown q0
      have s1 := cell_regrown q1
      have s2 := cell_regrown q2
      have s3 := cell_regrown q3
      have s4 := cell_regrown q4
      have s5 := cell_regrown q5
      have s6 := cell_regrown q6
      have s7 := cell_regrown q7
      have t0 := cell_regrown r0
      have t1 := cell_regrown r1
      have t2 := cell_regrown r2
      have t3 := cell_regrown r3
      have t4 := cell_regrown r4
      have t5 := cell_regrown r5
      have t6 := cell_regrown r6
      have t7 := cell_regrown r7
      have cC : Hid (∀ d os, Calls Try.prog 57 #[p.v, x.v] (grow (redrawn wr d) os) fun e w'' => e = .returned (.int .i64 (cf p x)) ∧ ∃ p : Regrown, w'' = grow (redrawn wr p.d) p.os) := fun d os => Calls.regrown_of ((cmp28 p x _).mono fun e w' ⟨he, q, os', hw⟩ => ⟨he, by rw [hw]; exact below_grown q os'⟩)
      go_wp2
      clear q0 q1 q2 q3 q4 q5 q6 q7 r0 r1 r2 r3 r4 r5 r6 r7
      refine wp_region_quiet_below (by kernel_rfl) (by kernel_rfl) ?_
      repeat (go_big_quiet_step (first | (go_at_call 57; exact cC.out _ _)))
      refine wpQuiet_nil ?_
      intro _ hw'
      obtain ⟨⟨dq, osq⟩, hw''⟩ := hw'
      subst hw''
      have HS2 : Hid (ASt w p u5 out (grow (redrawn wr dq) osq)) := HS.out.below (below_regrown wr dq osq)
      generalize (grow (redrawn wr dq) osq) = W at *
      clear s0 s1 s2 s3 s4 s5 s6 s7 t0 t1 t2 t3 t4 t5 t6 t7 cC HS
      have hsz := heap_lt HS2.out.box
      have hk60 : k < 500 := by omega
      obtain ⟨c, hc⟩ : ∃ c, cf p x = c := ⟨_, rfl⟩
      have HC : Hid (cf p x = c) := hc
      rw [hc]
      clear hc
      cases d with
      | true =>
        by_cases hc0 : c = 0
        · have dne : (c != 0) = false := by simp; omega
          have hcz : Hid (c = 0) := hc0
          clear hc0
          go_wp2
          go_roundw
          case rel => exact ⟨k + 1, out, true, by omega, by go_num, rfl, by omega, HA2.out.trans (addStep_tt HA.out (HC.out.trans hcz.out)), HS2⟩
          case measure => simp [intOf]; omega
        · have dne : (c != 0) = true := by simp; omega
          have hcz : Hid ((cf p x == 0) = false) := by show _ = _; rw [HC.out]; simp; omega
          clear hc0
          obtain ⟨q0, q1, q2, q3, q4, q5, q6, q7⟩ := hxx.out _ HS2.out.bel
          go_wp2_with (at_builtin; refine wpList_append_own _ rfl _ _ 33 rfl (w.heap.size + 1) 26 i0 (pk 0 0 0 0 0 0 0 0) 8 16 Try.underlying33 hi hz0 hz1 hz2 rfl (by decide) u5 _ _ rfl (HS2.out.own.alloc _) ⟨W.heap.size, 0, none⟩ 1 1 (enc8 x) rfl rfl (cell_new8 _ _ _) (enc8_one x) (by unfold maxLen; (try simp); omega) (by (try simp); omega) (by simp; omega) ?_; intro v3 w3 hown3 hgrow3 hnil3)
          have HS3 : Hid (ASt w p v3 (out ++ [x]) w3) := HS2.out.app x _ hown3 hgrow3
          clear hown3 hgrow3 hnil3
          go_wp2
          go_roundw
          case rel => exact ⟨k + 1, out ++ [x], true, by omega, by go_num, rfl, by simp; omega, HA2.out.trans (addStep_tf HA.out hcz.out), HS3⟩
          case measure => simp [intOf]; omega
      | false =>
        rcases Int.lt_trichotomy c 0 with hc0 | hc0 | hc0
        · have dne : (c != 0) = true := by simp; omega
          have dle : decide (c ≤ 0) = true := by simp; omega
          have hcz : Hid (cf p x < 0) := by show _ < _; rw [HC.out]; exact hc0
          clear hc0
          obtain ⟨⟨r0, r1, r2, r3, r4, r5, r6, r7⟩, -, -⟩ := row8 HS2.out.box
          go_wp2_with (first | (at_builtin; refine wpList_append_own _ rfl _ _ 33 rfl (w.heap.size + 1) 26 i0 (pk 0 0 0 0 0 0 0 0) 8 16 Try.underlying33 hi hz0 hz1 hz2 rfl (by decide) u5 _ _ rfl (HS2.out.own.alloc _) ⟨W.heap.size, 0, none⟩ 1 1 (enc8 p) rfl rfl (cell_new8 _ _ _) (enc8_one p) (by unfold maxLen; (try simp); omega) (by (try simp); omega) (by simp; omega) ?_; intro v3 w3 hown3 hgrow3 hnil3; have HS3 : Hid (ASt w p v3 (out ++ [p]) w3) := HS2.out.app p _ hown3 hgrow3; have hsz3 := heap_lt HS3.out.box; obtain ⟨q0, q1, q2, q3, q4, q5, q6, q7⟩ := hxx.out _ HS3.out.bel) | (at_builtin; refine wpList_append_own _ rfl _ _ 33 rfl (w.heap.size + 1) 26 i0 (pk 0 0 0 0 0 0 0 0) 8 16 Try.underlying33 hi hz0 hz1 hz2 rfl (by decide) v3 _ _ rfl (HS3.out.own.alloc _) ⟨w3.heap.size, 0, none⟩ 1 1 (enc8 x) rfl rfl (cell_new8 _ _ _) (enc8_one x) (by unfold maxLen; (try simp); omega) (by (try simp); omega) (by simp; omega) ?_; intro v4 w4 hown4 hgrow4 hnil4))
          clear hown3 hgrow3 hnil3
          have HS4 : Hid (ASt w p v4 (out ++ [p] ++ [x]) w4) := HS3.out.app x _ hown4 hgrow4
          clear hown4 hgrow4 hnil4
          go_wp2
          go_roundw
          case rel => exact ⟨k + 1, out ++ [p] ++ [x], true, by omega, by go_num, rfl, by simp; omega, HA2.out.trans (addStep_fl HA.out hcz.out), HS4⟩
          case measure => simp [intOf]; omega
        · have dne : (c != 0) = false := by simp; omega
          have dle : decide (c ≤ 0) = true := by simp; omega
          have hcz : Hid (cf p x = 0) := by show _ = _; rw [HC.out]; exact hc0
          clear hc0
          obtain ⟨⟨r0, r1, r2, r3, r4, r5, r6, r7⟩, -, -⟩ := row8 HS2.out.box
          go_wp2_with (at_builtin; refine wpList_append_own _ rfl _ _ 33 rfl (w.heap.size + 1) 26 i0 (pk 0 0 0 0 0 0 0 0) 8 16 Try.underlying33 hi hz0 hz1 hz2 rfl (by decide) u5 _ _ rfl (HS2.out.own.alloc _) ⟨W.heap.size, 0, none⟩ 1 1 (enc8 p) rfl rfl (cell_new8 _ _ _) (enc8_one p) (by unfold maxLen; (try simp); omega) (by (try simp); omega) (by simp; omega) ?_; intro v3 w3 hown3 hgrow3 hnil3)
          have HS3 : Hid (ASt w p v3 (out ++ [p]) w3) := HS2.out.app p _ hown3 hgrow3
          clear hown3 hgrow3 hnil3
          go_wp2
          go_roundw
          case rel => exact ⟨k + 1, out ++ [p], true, by omega, by go_num, rfl, by simp; omega, HA2.out.trans (addStep_fe HA.out hcz.out), HS3⟩
          case measure => simp [intOf]; omega
        · have dne : (c != 0) = true := by simp; omega
          have dle : decide (c ≤ 0) = false := by simp; omega
          have hcz : Hid (0 < cf p x) := by show _ < _; rw [HC.out]; exact hc0
          clear hc0
          obtain ⟨q0, q1, q2, q3, q4, q5, q6, q7⟩ := hxx.out _ HS2.out.bel
          go_wp2_with (at_builtin; refine wpList_append_own _ rfl _ _ 33 rfl (w.heap.size + 1) 26 i0 (pk 0 0 0 0 0 0 0 0) 8 16 Try.underlying33 hi hz0 hz1 hz2 rfl (by decide) u5 _ _ rfl (HS2.out.own.alloc _) ⟨W.heap.size, 0, none⟩ 1 1 (enc8 x) rfl rfl (cell_new8 _ _ _) (enc8_one x) (by unfold maxLen; (try simp); omega) (by (try simp); omega) (by simp; omega) ?_; intro v3 w3 hown3 hgrow3 hnil3)
          have HS3 : Hid (ASt w p v3 (out ++ [x]) w3) := HS2.out.app x _ hown3 hgrow3
          clear hown3 hgrow3 hnil3
          go_wp2
          go_roundw
          case rel => exact ⟨k + 1, out ++ [x], false, by omega, by go_num, rfl, by simp; omega, HA2.out.trans (addStep_fg HA.out hcz.out), HS3⟩
          case measure => simp [intOf]; omega
    · have hkl : k = L.length := by omega
      subst hkl
      have hsz := heap_lt HS.out.box
      have HA1 : Hid (addTo p L = (out, d)) := by have := HA.out; rwa [List.take_length] at this
      clear HA
      cases d with
      | true =>
        go_wp2
        go_ret
        refine ⟨_, rfl, ?_, HS.out.bel⟩
        have e : addL L p = out := by unfold addL; rw [HA1.out]; rfl
        rw [e]
        exact pks_of_own HS.out.own
      | false =>
        obtain ⟨⟨r0, r1, r2, r3, r4, r5, r6, r7⟩, -, -⟩ := row8 HS.out.box
        go_wp2_with (at_builtin; refine wpList_append_own _ rfl _ _ 33 rfl (w.heap.size + 1) 26 i0 (pk 0 0 0 0 0 0 0 0) 8 16 Try.underlying33 hi hz0 hz1 hz2 rfl (by decide) u5 _ _ rfl (HS.out.own.alloc _) ⟨wr.heap.size, 0, none⟩ 1 1 (enc8 p) rfl rfl (cell_new8 _ _ _) (enc8_one p) (by unfold maxLen; (try simp); omega) (by (try simp); omega) (by simp; omega) ?_; intro v3 w3 hown3 hgrow3 hnil3)
        have HS3 : Hid (ASt w p v3 (out ++ [p]) w3) := HS.out.app p _ hown3 hgrow3
        clear hown3 hgrow3 hnil3
        go_wp2
        go_ret
        refine ⟨_, rfl, ?_, HS3.out.bel⟩
        have e : addL L p = out ++ [p] := by unfold addL; rw [HA1.out]; rfl
        rw [e]
        exact pks_of_own HS3.out.own

end Go.Proofs.Ytipiepcbgjceaaa
