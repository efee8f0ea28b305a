/- The lists of a table and the lists it was made of; a table of one's own under way (merge.Of). -/
import Derived.Test.YtbcikkofbdfmaaaZ6
set_option linter.unusedVariables false
set_option linter.unusedSimpArgs false
namespace Go.Proofs.Ytbcikkofbdfmaaa
open Go.RowKit Go.Joins Go.Sort

theorem key_inj {r s : Rx} (h : key r = key s) : r = s := by
  cases r; cases s
  unfold key at h
  injection h with h1 h2
  subst h1 h2; rfl
theorem sameB_iff {A B : Lst} : sameB A B = true ↔ A = B := by
  unfold sameB
  rw [decide_eq_true_eq]
  refine ⟨fun h => ?_, fun h => by rw [h]⟩
  refine List.ext_getElem (by simpa using congrArg List.length h) fun k h1 h2 => key_inj ?_
  have := List.getElem_of_eq h (i := k) (by simpa using h1)
  simpa using this
theorem sameB_self (A : Lst) : sameB A A = true := sameB_iff.2 rfl
theorem sameAll_iff : ∀ {A B : List Lst}, sameAll A B = true ↔ A = B
  | [], [] => ⟨fun _ => rfl, fun _ => rfl⟩
  | [], _ :: _ => ⟨fun h => by simp [sameAll] at h, fun h => by cases h⟩
  | _ :: _, [] => ⟨fun h => by simp [sameAll] at h, fun h => by cases h⟩
  | a :: A, b :: B => by
    unfold sameAll
    rw [Bool.and_eq_true, sameB_iff, sameAll_iff]
    exact ⟨fun ⟨h1, h2⟩ => by rw [h1, h2], fun h => by injection h with h1 h2; exact ⟨h1, h2⟩⟩
theorem sameT_iff {a b : Tab} : sameT a b = true ↔ a = b := by
  unfold sameT
  rw [Bool.and_eq_true, decide_eq_true_eq, sameAll_iff]
  cases a; cases b
  exact ⟨fun ⟨h1, h2⟩ => by simp_all, fun h => by injection h with h1 h2; exact ⟨h1, h2⟩⟩
theorem findM_some {T : List Lst} {x : Lst} {k : Nat} (h : findM T x = some k) : ∃ h : k < T.length, T[k] = x := by
  unfold findM at h
  rw [List.findIdx?_eq_some_iff_getElem] at h
  obtain ⟨h1, h2, -⟩ := h
  exact ⟨h1, sameB_iff.1 h2⟩
theorem findM_none {T : List Lst} {x : Lst} (h : findM T x = none) : x ∉ T := by
  unfold findM at h
  rw [List.findIdx?_eq_none_iff] at h
  intro hx
  have := h x hx
  rw [sameB_self] at this
  cases this
/-- The table's tags lead to the lists it was made of; each list is one of them. -/
structure Fits (T : List Lst) (t : Tab) : Prop where
  len : t.n.length = T.length
  leads : ∀ j (h : j < T.length), ∃ i : Nat, t.n[j]? = some (i : Int) ∧ t.l[i]? = some T[j]
  each : ∀ i, i < t.l.length → ∃ j : Nat, j < T.length ∧ t.n[j]? = some (i : Int)
theorem Fits.step {T : List Lst} {t : Tab} {x : Lst} (h : Fits T t) : Fits (T ++ [x]) (ofStep t x) := by
  have hl := h.len
  cases hf : findM t.l x with
  | some k =>
    rw [ofStep_some hf]
    obtain ⟨h1, h2⟩ := findM_some hf
    refine ⟨by simp [hl], fun j hj => ?_, fun i hi => ?_⟩
    · by_cases e : j < T.length
      · obtain ⟨i, a, b⟩ := h.leads j e
        exact ⟨i, by rw [List.getElem?_append_left (by omega)]; exact a, by rw [List.getElem_append_left e]; exact b⟩
      · have ej : j = T.length := by simp at hj; omega
        subst ej
        refine ⟨k, by rw [List.getElem?_append_right (by omega), hl]; simp, ?_⟩
        rw [List.getElem?_eq_getElem h1, h2]; simp
    · obtain ⟨j, a, b⟩ := h.each i hi
      exact ⟨j, by simp; omega, by rw [List.getElem?_append_left (by omega)]; exact b⟩
  | none =>
    rw [ofStep_none hf]
    refine ⟨by simp [hl], fun j hj => ?_, fun i hi => ?_⟩
    · by_cases e : j < T.length
      · obtain ⟨i, a, b⟩ := h.leads j e
        have hi : i < t.l.length := by
          rcases Nat.lt_or_ge i t.l.length with h9 | h9
          · exact h9
          · rw [List.getElem?_eq_none h9] at b; cases b
        exact ⟨i, by rw [List.getElem?_append_left (by omega)]; exact a, by rw [List.getElem_append_left e, List.getElem?_append_left hi]; exact b⟩
      · have ej : j = T.length := by simp at hj; omega
        subst ej
        refine ⟨t.l.length, by rw [List.getElem?_append_right (by omega), hl]; simp, ?_⟩
        rw [List.getElem?_append_right (Nat.le_refl _)]; simp
    · by_cases e : i < t.l.length
      · obtain ⟨j, a, b⟩ := h.each i e
        exact ⟨j, by simp; omega, by rw [List.getElem?_append_left (by omega)]; exact b⟩
      · have ei : i = t.l.length := by simp at hi; omega
        subst ei
        exact ⟨T.length, by simp, by rw [List.getElem?_append_right (by omega), hl]; simp⟩
theorem fits_go : ∀ (T A : List Lst) (t : Tab), Fits A t → Fits (A ++ T) (T.foldl ofStep t)
  | [], A, t, h => by simpa using h
  | x :: T, A, t, h => by
    have := fits_go T (A ++ [x]) _ h.step
    simpa using this
theorem fits (T : List Lst) : Fits T (ofT T) := by
  have := fits_go T [] ⟨[], []⟩ ⟨rfl, fun j h => absurd h (Nat.not_lt_zero _), fun i h => absurd h (Nat.not_lt_zero _)⟩
  simpa [ofT] using this
theorem Fits.mem {T : List Lst} {t : Tab} (h : Fits T t) {x : Lst} (hx : x ∈ T) : x ∈ t.l := by
  obtain ⟨j, hj, rfl⟩ := List.getElem_of_mem hx
  obtain ⟨i, -, b⟩ := h.leads j hj
  exact List.mem_of_getElem? b
theorem ofT_all (T : List Lst) (p : Lst → Bool) : (ofT T).l.all p = T.all p := by
  rw [Bool.eq_iff_iff, List.all_eq_true, List.all_eq_true]
  refine ⟨fun h x hx => h x ((fits T).mem hx), fun h x hx => h x ?_⟩
  have := ofT_mem T T.length (Nat.le_refl _) x (by rw [List.take_length]; exact hx)
  exact this
/-- The tags' lists are those it was made of. -/
theorem Fits.back {T : List Lst} {t : Tab} (h : Fits T t) : t.n.map (atI t) = T := by
  refine List.ext_getElem (by simp [h.len]) fun j h1 h2 => ?_
  obtain ⟨i, a, b⟩ := h.leads j h2
  rw [List.getElem_map]
  have hj : j < t.n.length := by rw [h.len]; exact h2
  rw [List.getElem?_eq_getElem hj] at a
  injection a with a
  rw [a]
  unfold atI
  rw [Int.toNat_natCast, List.getD_eq_getElem?_getD, b]
  rfl
theorem Fits.ok {T : List Lst} {t : Tab} (h : Fits T t) : t.n.all (okI t) = true := by
  rw [List.all_eq_true]
  intro z hz
  obtain ⟨j, hj, rfl⟩ := List.getElem_of_mem hz
  obtain ⟨i, a, b⟩ := h.leads j (by rw [← h.len]; exact hj)
  rw [List.getElem?_eq_getElem hj] at a
  injection a with a
  have hi : i < t.l.length := by
    rcases Nat.lt_or_ge i t.l.length with h9 | h9
    · exact h9
    · rw [List.getElem?_eq_none h9] at b; cases b
  rw [a]
  unfold okI
  rw [decide_eq_true (by omega), decide_eq_true (by omega)]
  rfl
/-- A table that was made of lists is right. -/
theorem right_of {T : List Lst} (h : (ofRes T).2 = 0) : (ofRes T).1 = ofT T ∧ rRight (ofT T) = true := by
  have h1 : (ofRes T).1 = ofT T := by
    unfold ofRes at h ⊢
    split
    · rename_i h9; rw [if_pos h9] at h; cases h
    · rename_i h9
      rw [if_neg h9] at h
      split
      · rename_i h8; rw [if_pos h8] at h; cases h
      · rfl
  refine ⟨h1, ?_⟩
  unfold rRight
  rw [(fits T).ok, (fits T).back, h, h1, sameT_iff.2 rfl]
  rfl
/-- Two tables of the same tags, as many lists, where each list is one that a tag leads to. -/
theorem same_lists {t : Tab} (hok : t.n.all (okI t) = true) (hn : (ofT (t.n.map (atI t))).n = t.n) (hl : (ofT (t.n.map (atI t))).l.length = t.l.length) : ofT (t.n.map (atI t)) = t := by
  have hF := fits (t.n.map (atI t))
  generalize ofT (t.n.map (atI t)) = u at *
  have hll : u.l = t.l := by
    refine List.ext_getElem hl fun i h1 h2 => ?_
    obtain ⟨j, a, b⟩ := hF.each i h1
    obtain ⟨i', c, d⟩ := hF.leads j a
    rw [b] at c
    injection c with c
    have ei : i = i' := by omega
    subst ei
    rw [List.getElem?_eq_getElem h1] at d
    injection d with d
    rw [d, List.getElem_map]
    have hj : j < t.n.length := by simpa using a
    have e1 : t.n[j] = (i : Int) := by
      rw [hn, List.getElem?_eq_getElem hj] at b
      injection b
    rw [e1]
    unfold atI
    rw [Int.toNat_natCast, List.getD_eq_getElem?_getD, List.getElem?_eq_getElem h2]
    rfl
  cases u; cases t
  simp_all
/-- Whether a table is right, as the program reckons it. -/
def cRight (t : Tab) : Bool := decide (t.n.length ≤ 256) && (t.n.all (okI t) && (decide ((ofRes (t.n.map (atI t))).2 = 0) && (decide ((ofRes (t.n.map (atI t))).1.n = t.n) && decide ((ofRes (t.n.map (atI t))).1.l.length = t.l.length))))
theorem cRight_eq (t : Tab) : cRight t = rRight t := by
  unfold cRight rRight
  cases hok : t.n.all (okI t) with
  | false => simp
  | true =>
    cases hz : decide ((ofRes (t.n.map (atI t))).2 = 0) with
    | false => simp
    | true =>
      have h0 := of_decide_eq_true hz
      have h1 := (right_of h0).1
      have hlen : t.n.length ≤ 256 := by
        unfold ofRes at h0
        split at h0
        · cases h0
        · split at h0
          · cases h0
          · rename_i h8
            simp at h8
            omega
      rw [h1, decide_eq_true hlen]
      simp only [Bool.true_and]
      rw [Bool.eq_iff_iff, Bool.and_eq_true, decide_eq_true_eq, decide_eq_true_eq, sameT_iff]
      refine ⟨fun ⟨a, b⟩ => (same_lists hok a b).symm, fun h => ?_⟩
      rw [← h]
      exact ⟨rfl, rfl⟩
end Go.Proofs.Ytbcikkofbdfmaaa
