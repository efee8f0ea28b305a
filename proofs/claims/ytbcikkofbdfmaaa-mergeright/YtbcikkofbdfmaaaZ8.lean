/- A table of one's own (merge.Of): its lists are cloned one by one. -/
import Derived.Test.YtbcikkofbdfmaaaZ7
import Derived.OneCell
set_option linter.unusedVariables false
set_option linter.unusedSimpArgs false
namespace Go.Proofs.Ytbcikkofbdfmaaa
open Go.RowKit Go.Joins Go.Sort

/-- w: where the lists handed in lie; g: the table's box; i of the lists are clones. -/
structure OSt (w : World) (r g : Nat) (zw zl : Value) (t : Tab) (i : Nat) (U : List Value) (W : World) : Prop where
  bel : Below w.heap.size w W
  box : W.heap[g]? = some (.cells #[zw, zl] 30)
  hg : w.heap.size ≤ g
  hr : r < w.heap.size
  res : W.heap[r]? = some (.cells #[.slice none 0 0, .slice none 0 0] 30)
  nums : W.ownsRow w.heap.size 3 1 zw t.n.length (t.n.map (Value.int .i64))
  rows : W.ownsRow w.heap.size 43 1 zl t.l.length U
  done : ∀ k (h : k < t.l.length), k < i → ∃ u, U[k]? = some u ∧ In (offB w.heap.size zl) W (fun W => RowsAt W u t.l[k])
  rest : ∀ k (h : k < t.l.length), i ≤ k → ∃ u, U[k]? = some u ∧ RowsAt w u t.l[k]
theorem OSt.below {w : World} {r g i : Nat} {zw zl : Value} {t : Tab} {U : List Value} {W W' : World} (h : OSt w r g zw zl t i U W) (hb : Below W.heap.size W W') : OSt w r g zw zl t i U W' :=
  ⟨h.bel.trans (hb.mono h.bel.size), (hb.block _ (hlt h.box)).trans h.box, h.hg, h.hr, (hb.block _ (hlt h.res)).trans h.res, own_below h.nums hb, own_below h.rows hb, fun k hk hi => by
    obtain ⟨u, h1, h2⟩ := h.done k hk hi
    exact ⟨u, h1, h2.step (.below hb)⟩, h.rest⟩
theorem own_apart {W : World} {B1 B2 n1 n2 : Nat} {v1 v2 : Value} {x1 x2 : List Value} (h1 : W.ownsRow B1 3 1 v1 n1 x1) (h2 : W.ownsRow B2 43 1 v2 n2 x2) {g : Nat} (hg : v2.ownBlock = some g) : v1.ownBlock ≠ some g := by
  intro e
  rcases h1.2 with ⟨rfl, -⟩ | ⟨a, _, c1, rfl, _, k1, _⟩
  · cases e
  · rcases h2.2 with ⟨rfl, -⟩ | ⟨b, _, c2, rfl, _, k2, _⟩
    · cases hg
    · have ea : a = g := by simpa [Value.ownBlock] using e
      have eb : b = g := by simpa [Value.ownBlock] using hg
      subst ea eb
      rw [k1] at k2
      injection k2 with k2
      injection k2 with _ k2 _
      exact absurd k2 (by decide)
/-- A clone put in its place. -/
theorem OSt.put {w : World} {r g i a n c : Nat} {zw : Value} {t : Tab} {U : List Value} {W : World} (h : OSt w r g zw (.slice (some ⟨a, 0, none⟩) n c) t i U W) (hi : i < t.l.length) (hbox : g ≠ a) (u : Value) (hu : In (offB w.heap.size (.slice (some ⟨a, 0, none⟩) n c)) W (fun W => RowsAt W u t.l[i])) :
    OSt w r g zw (.slice (some ⟨a, 0, none⟩) n c) t (i + 1) (U.set i u) (W.setCell ⟨a, i, none⟩ u) := by
  have hUl : U.length = t.l.length := by have := h.rows.1; omega
  have ha := h.rows.lt a rfl
  have hn : n = t.l.length := by
    rcases h.rows.2 with ⟨e, -⟩ | ⟨b, cap, cur, e, -⟩
    · cases e
    · injection e
  subst hn
  have ag : Agree (offB w.heap.size (.slice (some ⟨a, 0, none⟩) t.l.length c)) W (W.setCell ⟨a, i, none⟩ u) := Agree.set W _ _ _ fun e => e.2 rfl
  have hra := h.hr
  refine ⟨h.bel.setCell ha.1 _, (heap_setCell_other _ _ _ _ hbox).trans h.box, h.hg, h.hr, (heap_setCell_other _ _ _ _ (by show r ≠ a; omega)).trans h.res, ownsRow_setCell_other h.nums (a := ⟨a, i, none⟩) (own_apart h.nums h.rows rfl) u, (h.rows.stored i u).1, fun k hk hk2 => ?_, fun k hk hk2 => ?_⟩
  · by_cases e : k = i
    · subst e
      exact ⟨u, by rw [List.getElem?_set_self (by omega)], hu.step ag⟩
    · obtain ⟨u', h1, h2⟩ := h.done k hk (by omega)
      exact ⟨u', by rw [List.getElem?_set_ne (by omega)]; exact h1, h2.step ag⟩
  · obtain ⟨u', h1, h2⟩ := h.rest k hk (by omega)
    exact ⟨u', by rw [List.getElem?_set_ne (by omega)]; exact h1, h2⟩
/-- The result's box, written. -/
theorem OSt.out {w : World} {r g : Nat} {zw zl : Value} {t : Tab} {U : List Value} {W : World} (h : OSt w r g zw zl t t.l.length U W) (x y : Value) :
    TabAt ((W.setCell ⟨r, 0, none⟩ x).setCell ⟨r, 1, none⟩ y) zw zl t := by
  have hr := h.hr
  have n1 := ownsRow_setCell_below (ownsRow_setCell_below h.nums (a := ⟨r, 0, none⟩) (by show r < _; omega) x) (a := ⟨r, 1, none⟩) (by show r < _; omega) y
  have r1 := ownsRow_setCell_below (ownsRow_setCell_below h.rows (a := ⟨r, 0, none⟩) (by show r < _; omega) x) (a := ⟨r, 1, none⟩) (by show r < _; omega) y
  have ag : Agree (offB w.heap.size zl) W ((W.setCell ⟨r, 0, none⟩ x).setCell ⟨r, 1, none⟩ y) := (Agree.set W r 0 x fun e => by have := e.1; omega).trans (Agree.set _ r 1 y fun e => by have := e.1; omega)
  generalize ((W.setCell ⟨r, 0, none⟩ x).setCell ⟨r, 1, none⟩ y) = W' at *
  constructor
  · rcases n1.2 with ⟨hv, hn⟩ | ⟨b, cap, cur, hv, hB, hgg, hcap, hmax, hsz, htk⟩
    · exact ⟨none, 0, by rw [hv, hn], by rw [hn]; exact Nat.zero_le _, fun k hk => absurd hk (by omega)⟩
    · refine ⟨_, cap, hv, by unfold maxLen at hmax; omega, fun k hk => ⟨b, 0, rfl, hlt hgg, ?_⟩⟩
      have hrow := n1
      rw [hv] at hrow
      rw [Nat.zero_add, hrow.cellAt k (by omega), List.getElem?_map, List.getElem?_eq_getElem hk]
      rfl
  · rcases r1.2 with ⟨hv, hn⟩ | ⟨b, cap, cur, hv, hB, hgg, hcap, hmax, hsz, htk⟩
    · exact ⟨none, 0, by rw [hv, hn], by rw [hn]; exact Nat.zero_le _, fun k hk => absurd hk (by omega)⟩
    · refine ⟨_, cap, hv, by unfold maxLen at hmax; omega, fun k hk => ?_⟩
      obtain ⟨u, hu, hin⟩ := h.done k hk hk
      refine ⟨b, 0, rfl, hlt hgg, u, ?_, hin _ ag⟩
      have hrow := r1
      rw [hv] at hrow
      rw [Nat.zero_add, hrow.cellAt k (by omega), hu]
theorem rises_len : ∀ (L : Prs) (lo : Int), riseF lo L = true → lo < 8 → (L.length : Int) + lo ≤ 7 ∨ L = []
  | [], lo, _, _ => .inr rfl
  | c :: L, lo, h, _ => by
    unfold riseF at h
    rw [Bool.and_eq_true, Bool.and_eq_true, decide_eq_true_eq, decide_eq_true_eq] at h
    obtain ⟨⟨h1, h2⟩, h3⟩ := h
    refine .inl ?_
    rcases rises_len L c.1 h3 h2 with h4 | h4
    · rw [List.length_cons]; omega
    · subst h4; simp; omega
theorem rises_small {L : Prs} (h : rises L = true) : L.length ≤ 1000 := by
  rcases rises_len L (-1) h (by decide) with h1 | h1
  · omega
  · subst h1; exact Nat.zero_le _
theorem right_small {L : Lst} (h : rightM L = true) : L.length ≤ 1000 ∧ ∀ r ∈ L, smallR r := by
  unfold rightM at h
  rw [Bool.and_eq_true, decide_eq_true_eq, List.all_eq_true] at h
  refine ⟨h.2, fun r hr => ?_⟩
  have h1 := h.1 r hr
  unfold rowOK at h1
  rw [Bool.and_eq_true, Bool.and_eq_true, decide_eq_true_eq, List.all_eq_true] at h1
  exact ⟨rises_small h1.1, by omega, fun c hc => rises_small (h1.2.2 c hc)⟩
end Go.Proofs.Ytbcikkofbdfmaaa
