/- Lists that are unlike, each some times: what table they make; lists of a call's own, under way. -/
import Derived.Test.YtbcikkofbdfmaaaZF
set_option linter.unusedVariables false
set_option linter.unusedSimpArgs false
namespace Go.Proofs.Ytbcikkofbdfmaaa
open Go.RowKit Go.Joins Go.Sort

def Li (i : Nat) : Lst := ⟨[(2, (i : Int))], []⟩ :: List.replicate 99 ⟨[], []⟩
def Tn (m : Nat) : Nat → List Lst
  | 0 => []
  | n + 1 => Tn m n ++ List.replicate m (Li n)
theorem Li_len (i : Nat) : (Li i).length = 100 := by unfold Li; simp
theorem Li_inj {i j : Nat} (h : Li i = Li j) : i = j := by
  unfold Li at h
  injection h with h _
  injection h with h _
  injection h with h _
  injection h with _ h
  omega
theorem Li_right (i : Nat) : rightM (Li i) = true := by
  unfold rightM
  rw [Bool.and_eq_true, decide_eq_true_eq, List.all_eq_true]
  refine ⟨fun r hr => ?_, by rw [Li_len]; decide⟩
  unfold Li at hr
  rcases List.mem_cons.1 hr with rfl | hr
  · rfl
  · obtain ⟨_, rfl⟩ := List.mem_replicate.1 hr
    rfl
theorem Tn_len (m : Nat) : ∀ n, (Tn m n).length = n * m
  | 0 => by simp [Tn]
  | n + 1 => by rw [Tn, List.length_append, Tn_len m n, List.length_replicate, Nat.succ_mul]
theorem Tn_mem (m : Nat) : ∀ n, ∀ x ∈ Tn m n, ∃ i, x = Li i
  | 0, x, h => by simp [Tn] at h
  | n + 1, x, h => by
    rw [Tn] at h
    rcases List.mem_append.1 h with h | h
    · exact Tn_mem m n x h
    · exact ⟨n, (List.mem_replicate.1 h).2⟩
theorem fold_in (x : Lst) : ∀ (m : Nat) (t : Tab), x ∈ t.l → ((List.replicate m x).foldl ofStep t).l = t.l
  | 0, t, _ => rfl
  | m + 1, t, h => by
    rw [List.replicate_succ, List.foldl_cons]
    have h1 : (ofStep t x).l = t.l := by
      cases hf : findM t.l x with
      | some k => rw [ofStep_some hf]
      | none => exact absurd h (findM_none hf)
    rw [fold_in x m _ (by rw [h1]; exact h), h1]
theorem ofT_Tn (m : Nat) (hm : 0 < m) : ∀ n, (ofT (Tn m n)).l = (List.range n).map Li
  | 0 => rfl
  | n + 1 => by
    have ih := ofT_Tn m hm n
    obtain ⟨m', rfl⟩ : ∃ m', m = m' + 1 := ⟨m - 1, by omega⟩
    unfold ofT at ih ⊢
    rw [Tn, List.foldl_append, List.replicate_succ, List.foldl_cons]
    generalize (Tn (m' + 1) n).foldl ofStep ⟨[], []⟩ = t at *
    have hno : findM t.l (Li n) = none := by
      cases hf : findM t.l (Li n) with
      | none => rfl
      | some k =>
        exfalso
        obtain ⟨h1, h2⟩ := findM_some hf
        have h3 : Li n ∈ t.l := by rw [← h2]; exact List.getElem_mem h1
        rw [ih] at h3
        obtain ⟨j, hj, he⟩ := List.mem_map.1 h3
        have := Li_inj he
        rw [List.mem_range] at hj
        omega
    rw [ofStep_none hno, fold_in _ _ _ (by simp)]
    show t.l ++ [Li n] = _
    rw [ih, List.range_succ, List.map_append]
    rfl
theorem rows_Li : ∀ n, rowsM ((List.range n).map Li) = 100 * n
  | 0 => rfl
  | n + 1 => by rw [List.range_succ, List.map_append, rowsM_app, rows_Li n]; simp [rowsM, Li_len]; omega
theorem full_of (m n : Nat) (hm : 0 < m) (hlen : n * m ≤ 256) : ofRes (Tn m n) = if 1000 < 100 * n then (⟨[], []⟩, 24) else (ofT (Tn m n), 0) := by
  unfold ofRes
  rw [ofT_Tn m hm, rows_Li]
  split
  · rfl
  · rw [if_neg]
    rw [Tn_len, decide_eq_false (by omega), show (Tn m n).all rightM = true from List.all_eq_true.2 fun x hx => by
      obtain ⟨i, rfl⟩ := Tn_mem m n x hx
      exact Li_right i]
    simp
/-- Lists of a call's own, under way. -/
structure SSt (w : World) (zl : Value) (L : List Lst) (U : List Value) (W : World) : Prop where
  bel : Below w.heap.size w W
  rows : W.ownsRow w.heap.size 43 1 zl L.length U
  each : ∀ k (h : k < L.length), ∃ u, U[k]? = some u ∧ In (offB w.heap.size zl) W (fun W => RowsAt W u L[k])
theorem SSt.below {w : World} {zl : Value} {L : List Lst} {U : List Value} {W W' : World} (h : SSt w zl L U W) (hb : Below W.heap.size W W') : SSt w zl L U W' :=
  ⟨h.bel.trans (hb.mono h.bel.size), own_below h.rows hb, fun k hk => by
    obtain ⟨u, h1, h2⟩ := h.each k hk
    exact ⟨u, h1, h2.step (.below hb)⟩⟩
theorem SSt.lists {w : World} {zl : Value} {L : List Lst} {U : List Value} {W : World} (h : SSt w zl L U W) : ListsAt W zl L := by
  rcases h.rows.2 with ⟨hv, hn⟩ | ⟨b, cap, cur, hv, hB, hgg, hcap, hmax, hsz, htk⟩
  · exact ⟨none, 0, by rw [hv, hn], by rw [hn]; exact Nat.zero_le _, fun k hk => absurd hk (by omega)⟩
  · refine ⟨_, cap, hv, by unfold maxLen at hmax; omega, fun k hk => ?_⟩
    obtain ⟨u, hu, hr⟩ := h.each k hk
    refine ⟨b, 0, rfl, hlt hgg, u, ?_, hr.now⟩
    have hrow := h.rows
    rw [hv] at hrow
    rw [Nat.zero_add, hrow.cellAt k (by omega), hu]
/-- What is off a row stays where the row grows. -/
theorem off_grown {B g n c : Nat} {y : Value} {W W' : World} {P : World → Prop} (hp : In (offB B y) W P) (gr : W.grownBy W' y.ownBlock) (hg : y.ownBlock = some g ∨ g = W.heap.size) : In (offB B (.slice (some ⟨g, 0, none⟩) n c)) W' P :=
  hp.move gr.size fun b hb e => by
    refine ⟨⟨e.1, fun e2 => ?_⟩, gr.block b hb fun e2 => e.2 e2.symm⟩
    have e3 : g = b := by simpa [Value.ownBlock] using e2
    subst e3
    rcases hg with h1 | h1
    · exact e.2 h1
    · omega
theorem SSt.push {w : World} {zl u : Value} {L : List Lst} {X : Lst} {U : List Value} {W W' : World} {g n c : Nat} (h : SSt w zl L U W) (hu : In (offB w.heap.size zl) W (fun W => RowsAt W u X))
    (own : W'.ownsRow w.heap.size 43 1 (.slice (some ⟨g, 0, none⟩) n c) (L.length + 1) (U ++ [u])) (gr : W.grownBy W' zl.ownBlock) (hg : zl.ownBlock = some g ∨ g = W.heap.size) :
    SSt w (.slice (some ⟨g, 0, none⟩) n c) (L ++ [X]) (U ++ [u]) W' := by
  have hUl : U.length = L.length := by have := h.rows.1; omega
  refine ⟨Below.grown h.bel gr h.bel.size fun b e => (h.rows.lt b e).1, by simpa using own, fun k hk => ?_⟩
  by_cases e : k < L.length
  · obtain ⟨v, h1, h2⟩ := h.each k e
    exact ⟨v, by rw [List.getElem?_append_left (by omega)]; exact h1, by rw [List.getElem_append_left e]; exact off_grown h2 gr hg⟩
  · have ek : k = L.length := by simp at hk; omega
    subst ek
    refine ⟨u, by rw [List.getElem?_append_right (by omega), hUl]; simp, ?_⟩
    rw [List.getElem_append_right (Nat.le_refl _)]
    simpa using off_grown hu gr hg
/-- The list's rows, made. -/
theorem li_at {W : World} {G P : Nat} (i : Nat) (hG : W.heap[G]? = some (.cells ((List.replicate 200 nilS).set 0 (.slice (some ⟨P, 0, none⟩) 1 1)).toArray 54)) (hP : W.heap[P]? = some (.cells #[.int .i64 2, .int .u16 (i : Int)] 50)) :
    RowsAt W (.slice (some ⟨G, 0, none⟩) 100 100) (Li i) := by
  refine ⟨_, 100, by rw [Li_len], by rw [Li_len]; omega, ⟨by rw [Li_len]; exact Nat.le_refl _, by omega⟩, fun k hk => ?_⟩
  rw [Li_len] at hk
  have hcell : ∀ j, W.cell? ⟨G, 0 + j, none⟩ = ((List.replicate 200 nilS).set 0 (.slice (some ⟨P, 0, none⟩) 1 1))[j]? := fun j => by rw [Nat.zero_add]; exact cellV hG j
  cases k with
  | zero =>
    refine ⟨G, 0, rfl, hlt hG, _, _, (hcell (0 * 2)).trans rfl, (hcell (0 * 2 + 1)).trans rfl, ?_, acts_nil W⟩
    exact .inl ⟨P, 0, 1, rfl, hlt hP, Nat.le_of_ble_eq_true rfl, fun j hj => by
      obtain rfl := one_k hj
      exact row2 hP⟩
  | succ k =>
    have e : (Li i)[k + 1]'(by rw [Li_len]; exact hk) = ⟨[], []⟩ := by
      unfold Li
      rw [List.getElem_cons_succ, List.getElem_replicate]
    rw [e]
    refine ⟨G, 0, rfl, hlt hG, nilS, nilS, ?_, ?_, pairs_nil W, acts_nil W⟩
    · rw [hcell, List.getElem?_set_ne (by omega), List.getElem?_replicate, if_pos (by omega)]
    · rw [show 0 + (k + 1) * 2 + 1 = 0 + ((k + 1) * 2 + 1) by omega, hcell, List.getElem?_set_ne (by omega), List.getElem?_replicate, if_pos (by omega)]
theorem li_in {W : World} {G P B : Nat} (i : Nat) (hB : B ≤ G) (hB2 : B ≤ P) (hG : W.heap[G]? = some (.cells ((List.replicate 200 nilS).set 0 (.slice (some ⟨P, 0, none⟩) 1 1)).toArray 54)) (hP : W.heap[P]? = some (.cells #[.int .i64 2, .int .u16 (i : Int)] 50)) :
    In (B ≤ ·) W (fun W => RowsAt W (.slice (some ⟨G, 0, none⟩) 100 100) (Li i)) := fun W' a =>
  li_at i ((a.2 _ (hlt hG) hB).trans hG) ((a.2 _ (hlt hP) hB2).trans hP)
end Go.Proofs.Ytbcikkofbdfmaaa
