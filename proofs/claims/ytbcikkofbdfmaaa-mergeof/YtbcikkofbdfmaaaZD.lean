/- That the package is awake (pointsmanlaw10.awake): two tags by one list; no conditions. -/
import Derived.Test.YtbcikkofbdfmaaaZC
set_option linter.unusedVariables false
set_option linter.unusedSimpArgs false
namespace Go.Proofs.Ytbcikkofbdfmaaa
open Go.RowKit Go.Joins Go.Sort

def awA : Lst := [⟨[], [[(1, 2)]]⟩]
def awB : Lst := [⟨[], []⟩]
def awT : List Lst := [awA, awB, awA]
def zeroP : P8 := ⟨0, 0, 0, 0, 0, 0, 0, 0⟩
theorem aw_of : ofRes awT = (⟨[0, 1, 0], [awA, awB]⟩, 0) := by kernel_rfl
theorem aw_l2 : listM ⟨[0, 1, 0], [awA, awB]⟩ 2 = some awA := by kernel_rfl
theorem aw_l3 : listM ⟨[0, 1, 0], [awA, awB]⟩ 3 = none := by kernel_rfl
theorem aw_look : lookL zeroP awA = [⟨0, 2, 0, 0, 0, 0, 0, 0⟩] := by kernel_rfl
theorem aw_rows : rowsM [awA, awB] = 2 := by kernel_rfl
theorem aw_right : rRight ⟨[0, 1, 0], [awA, awB]⟩ = true := by kernel_rfl
theorem rowsM_take_le (T : List Lst) (k : Nat) : rowsM (T.take k) ≤ rowsM T := by
  have h := rowsM_app (T.take k) (T.drop k)
  rw [List.take_append_drop] at h
  omega
theorem pairs_nil (W : World) : PairsAny W (.slice none 0 0) [] := .inr ⟨rfl, none, 0, rfl⟩
theorem acts_nil (W : World) : ActsAt W (.slice none 0 0) [] := ⟨none, 0, rfl, Nat.zero_le _, fun k hk => absurd hk (Nat.not_lt_zero _)⟩
theorem one_k {k : Nat} (h : k < 1) : k = 0 := by omega
/-- The five blocks. -/
theorem aw_lists {W : World} {g : Nat} (h0 : W.heap[g]? = some (.cells #[.int .i64 1, .int .u16 2] 50)) (h1 : W.heap[g + 1]? = some (.cells #[.slice (some ⟨g, 0, none⟩) 1 1] 56)) (h2 : W.heap[g + 1 + 1]? = some (.cells #[.slice none 0 0, .slice (some ⟨g + 1, 0, none⟩) 1 1] 54))
    (h3 : W.heap[g + 1 + 1 + 1]? = some (.cells #[.slice none 0 0, .slice none 0 0] 54)) (h4 : W.heap[g + 1 + 1 + 1 + 1]? = some (.cells #[.slice (some ⟨g + 1 + 1, 0, none⟩) 1 1, .slice (some ⟨g + 1 + 1 + 1, 0, none⟩) 1 1, .slice (some ⟨g + 1 + 1, 0, none⟩) 1 1] 43)) :
    ListsAt W (.slice (some ⟨g + 1 + 1 + 1 + 1, 0, none⟩) 3 3) awT := by
  have hp : PairsAny W (.slice (some ⟨g, 0, none⟩) 1 1) [(1, 2)] := .inl ⟨g, 0, 1, rfl, heap_lt h0, by decide, fun k hk => by
    obtain rfl := one_k hk
    exact row2 h0⟩
  have ha : ActsAt W (.slice (some ⟨g + 1, 0, none⟩) 1 1) [[(1, 2)]] := ⟨some ⟨g + 1, 0, none⟩, 1, rfl, by decide, fun k hk => by
    obtain rfl := one_k hk
    exact ⟨g + 1, 0, rfl, heap_lt h1, _, box1 h1, hp⟩⟩
  have hA : RowsAt W (.slice (some ⟨g + 1 + 1, 0, none⟩) 1 1) awA := ⟨some ⟨g + 1 + 1, 0, none⟩, 1, rfl, by decide, by decide, fun k hk => by
    obtain rfl := one_k hk
    exact ⟨g + 1 + 1, 0, rfl, heap_lt h2, _, _, (row2 h2).1, (row2 h2).2, pairs_nil W, ha⟩⟩
  have hB : RowsAt W (.slice (some ⟨g + 1 + 1 + 1, 0, none⟩) 1 1) awB := ⟨some ⟨g + 1 + 1 + 1, 0, none⟩, 1, rfl, by decide, by decide, fun k hk => by
    obtain rfl := one_k hk
    exact ⟨g + 1 + 1 + 1, 0, rfl, heap_lt h3, _, _, (row2 h3).1, (row2 h3).2, pairs_nil W, acts_nil W⟩⟩
  obtain ⟨⟨c0, c1, c2⟩, hl⟩ := row3 h4
  refine ⟨_, 3, rfl, by decide, fun k hk => ?_⟩
  have hk3 : k = 0 ∨ k = 1 ∨ k = 2 := by
    have : k < 3 := hk
    omega
  rcases hk3 with rfl | rfl | rfl
  · exact ⟨g + 1 + 1 + 1 + 1, 0, rfl, hl, _, c0, hA⟩
  · exact ⟨g + 1 + 1 + 1 + 1, 0, rfl, hl, _, c1, hB⟩
  · exact ⟨g + 1 + 1 + 1 + 1, 0, rfl, hl, _, c2, hA⟩

theorem stack5 (w : World) (a b c d e : Obj) : ((((((w.alloc a).alloc b).alloc c).alloc d).alloc e).heap[w.heap.size]? = some a ∧ (((((w.alloc a).alloc b).alloc c).alloc d).alloc e).heap[w.heap.size + 1]? = some b ∧ (((((w.alloc a).alloc b).alloc c).alloc d).alloc e).heap[w.heap.size + 1 + 1]? = some c ∧ (((((w.alloc a).alloc b).alloc c).alloc d).alloc e).heap[w.heap.size + 1 + 1 + 1]? = some d ∧ (((((w.alloc a).alloc b).alloc c).alloc d).alloc e).heap[w.heap.size + 1 + 1 + 1 + 1]? = some e) := by
  have up : ∀ (W : World) (o x : Obj) (k : Nat), W.heap[k]? = some x → (W.alloc o).heap[k]? = some x := fun W o x k h => (((Below.refl _ W).alloc (Nat.le_refl _) o).block _ (heap_lt h)).trans h
  have top : ∀ (W : World) (o : Obj) (k : Nat), W.heap.size = k → (W.alloc o).heap[k]? = some o := fun W o k h => by subst h; exact heap_alloc_new W o
  exact ⟨up _ _ _ _ (up _ _ _ _ (up _ _ _ _ (up _ _ _ _ (top _ _ _ rfl)))), up _ _ _ _ (up _ _ _ _ (up _ _ _ _ (top _ _ _ (by simp)))), up _ _ _ _ (up _ _ _ _ (top _ _ _ (by simp))), up _ _ _ _ (top _ _ _ (by simp)), top _ _ _ (by simp)⟩

set_option maxRecDepth 100000 in
set_option maxHeartbeats 8000000 in
theorem awake_any (w : World) : Calls Try.prog 6 #[] w fun e w' => e = .returned (.bool true) ∧ Below w.heap.size w w' := by
  have hst := stack5 w (.cells #[.int .i64 1, .int .u16 2] 50) (.cells #[.slice (some ⟨w.heap.size, 0, none⟩) 1 1] 56) (.cells #[.slice none 0 0, .slice (some ⟨w.heap.size + 1, 0, none⟩) 1 1] 54) (.cells #[.slice none 0 0, .slice none 0 0] 54) (.cells #[.slice (some ⟨w.heap.size + 1 + 1, 0, none⟩) 1 1, .slice (some ⟨w.heap.size + 1 + 1 + 1, 0, none⟩) 1 1, .slice (some ⟨w.heap.size + 1 + 1, 0, none⟩) 1 1] 43)
  have hb5 : Below w.heap.size w (((((w.alloc (.cells #[.int .i64 1, .int .u16 2] 50)).alloc (.cells #[.slice (some ⟨w.heap.size, 0, none⟩) 1 1] 56)).alloc (.cells #[.slice none 0 0, .slice (some ⟨w.heap.size + 1, 0, none⟩) 1 1] 54)).alloc (.cells #[.slice none 0 0, .slice none 0 0] 54)).alloc (.cells #[.slice (some ⟨w.heap.size + 1 + 1, 0, none⟩) 1 1, .slice (some ⟨w.heap.size + 1 + 1 + 1, 0, none⟩) 1 1, .slice (some ⟨w.heap.size + 1 + 1, 0, none⟩) 1 1] 43)) :=
    (((((Below.refl _ w).alloc (Nat.le_refl _) _).alloc (by simp) _).alloc (by simp; omega) _).alloc (by simp; omega) _).alloc (by simp; omega) _
  have HB5 := hid hb5
  have cO := hid (of_any _ awT (by decide) (by decide) _ (aw_lists hst.1 hst.2.1 hst.2.2.1 hst.2.2.2.1 hst.2.2.2.2))
  rw [aw_of] at cO
  clear hst hb5
  go_enter Try.func6, Try.ntmps6
  go_wp2_with fail
  refine cO.out.mono ?_
  rintro e W ⟨x, y, rfl, htab, hb2⟩
  have HB2 := hid (HB5.out.trans (hb2.mono HB5.out.size))
  obtain ⟨xa, xc, rfl, -, hxc⟩ := htab.1
  obtain ⟨ya, yc, rfl, -, -⟩ := htab.2
  obtain ⟨b, off, hxe, hb, hc2⟩ := hxc 2 (by decide)
  subst hxe
  have HT := hid htab
  clear cO hb2 HB5 htab hxc
  have HB3 : Hid (Below w.heap.size w (W.alloc (tob (.slice (some ⟨b, off, none⟩) 3 xc) (.slice ya 2 yc)))) := HB2.out.alloc HB2.out.size _
  have HT3 := hid (tab_alloc HT.out (tob (.slice (some ⟨b, off, none⟩) 3 xc) (.slice ya 2 yc)))
  have HX3 := hid (heap_alloc_new W (tob (.slice (some ⟨b, off, none⟩) 3 xc) (.slice ya 2 yc)))
  have cL := hid (look11_any _ _ _ 2 (by decide) zeroP (by decide) _ HT3.out)
  rw [aw_l2] at cL
  have cZ : Hid (Calls Try.prog 11 #[tv (.slice (some ⟨b, off, none⟩) 3 xc) (.slice ya 2 yc), .int .u16 2, zeroP.v] (W.alloc (tob (.slice (some ⟨b, off, none⟩) 3 xc) (.slice ya 2 yc))) fun e w' => (∃ u, e = .returned (.tuple #[u, .int .i64 0]) ∧ Pks w' u [⟨0, 2, 0, 0, 0, 0, 0, 0⟩]) ∧ Below (W.alloc (tob (.slice (some ⟨b, off, none⟩) 3 xc) (.slice ya 2 yc))).heap.size (W.alloc (tob (.slice (some ⟨b, off, none⟩) 3 xc) (.slice ya 2 yc))) w') := by
    have h9 := cL.out
    unfold LookIs at h9
    rw [← aw_look]
    exact h9
  obtain ⟨b0, b1⟩ := row2 HX3.out
  clear cL
  go_wp2_with fail
  refine cZ.out.mono ?_
  rintro e W2 ⟨⟨u, rfl, hu⟩, hb3⟩
  have HB4 := hid (HB3.out.trans (hb3.mono HB3.out.size))
  have HT4 := hid (tab_below HT3.out hb3)
  have HX4 := hid ((hb3.block _ (heap_lt HX3.out)).trans HX3.out)
  have HU4 := hid hu
  have cM := hid (look11_any _ _ _ 3 (by decide) zeroP (by decide) _ HT4.out)
  rw [aw_l3] at cM
  clear cZ HB3 HT3 HX3 hb3 b0 b1 hu
  obtain ⟨b0, b1⟩ := row2 HX4.out
  go_wp2_with fail
  refine cM.out.mono ?_
  rintro e W3 ⟨he, hb4⟩
  obtain rfl : e = .returned (.tuple #[.slice none 0 0, .int .i64 31]) := he
  have HB5 := hid (HB4.out.trans (hb4.mono HB4.out.size))
  have HT5 := hid (tab_below HT4.out hb4)
  have HX5 := hid ((hb4.block _ (heap_lt HX4.out)).trans HX4.out)
  have hu5 := HU4.out.below hb4
  obtain ⟨bu, ou, cu, hue, hbu, hat⟩ := hu5.ne (by decide)
  have hat0 := hat 0 (by decide)
  simp only [List.length_cons, List.length_nil, Nat.zero_mul, Nat.add_zero, Nat.zero_add, List.getElem_cons_zero] at hue hat0
  subst hue
  obtain ⟨a0, a1, a2, a3, a4, a5, a6, a7⟩ := hat0
  have hc5 : W3.cell? ⟨b, off + 2, none⟩ = some (.int .i64 0) := by
    have h1 := (HT5.out.1)
    obtain ⟨sa', sc', e1, -, h2⟩ := h1
    injection e1 with e1 _ _
    subst e1
    obtain ⟨b', off', e2, -, h3⟩ := h2 2 (by decide)
    injection e2 with e2
    injection e2 with e2 e3 _
    subst e2 e3
    exact h3
  have cR := hid (rows_any _ _ _ W3 HT5.out (fun k => Nat.le_trans (rowsM_take_le _ k) (by decide)))
  clear cM HB4 HT4 HX4 hb4 b0 b1 HU4
  obtain ⟨b0, b1⟩ := row2 HX5.out
  rw [aw_rows] at cR
  go_wp2_with fail
  refine cR.out.mono ?_
  rintro e W4 ⟨rfl, hb5⟩
  clear a0 a1 a2 a3 a4 a5 a6 a7
  have HB6 := hid (HB5.out.trans (hb5.mono HB5.out.size))
  have HT6 := hid (tab_below HT5.out hb5)
  have HX6 := hid ((hb5.block _ (heap_lt HX5.out)).trans HX5.out)
  have cG := hid (right12_any _ _ _ (by decide) (by decide) W4 HT6.out)
  rw [aw_right] at cG
  clear cR HB5 HT5 HX5 hb5 b0 b1 hc5
  obtain ⟨b0, b1⟩ := row2 HX6.out
  go_wp2_with fail
  refine cG.out.mono ?_
  rintro e W5 ⟨rfl, hb6⟩
  have HB7 := hid (HB6.out.trans (hb6.mono HB6.out.size))
  clear cG HB6 HT6 HX6 hb6 b0 b1
  go_wp2
  go_ret
  exact ⟨rfl, HB7.out⟩
end Go.Proofs.Ytbcikkofbdfmaaa
