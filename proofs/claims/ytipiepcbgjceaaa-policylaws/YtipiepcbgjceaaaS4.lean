/- A row of packets in memory, what stores do to it, and what slices.Clone and slices.SortFunc leave; no conditions of mine but what each contract states. -/
import Derived.Test.YtipiepcbgjceaaaS0
import Derived.Test.YtipiepcbgjceaaaSrt
import Derived.Lib.SliceRun
set_option linter.unusedVariables false
set_option linter.unusedSimpArgs false
namespace Go.Proofs.Ytipiepcbgjceaaa
open Go.RowKit Go.Joins Go.Sort Go.Shelf

/-- A row of packets, all of its own block. -/
def Rw (w : World) (g off sz : Nat) (R : List P8) : Prop :=
  ∃ cur, w.heap[g]? = some (.cells cur 26 (0, 0)) ∧ cur.size = sz ∧ ∀ i (h : i < R.length) j, j < 8 → cur[off + i * 8 + j]? = (enc8 R[i])[j]?
theorem Rw.at {w : World} {g off sz : Nat} {R : List P8} (h : Rw w g off sz R) (i : Nat) (hi : i < R.length) : At8 w g (off + i * 8) R[i] := by
  obtain ⟨cur, hg, hsz, hc⟩ := h
  refine At8.of fun j hj => ?_
  rw [cell_of_row _ _ _ _ _ _ hg]
  exact hc i hi j hj
theorem Rw.frz {w : World} {g off sz : Nat} {R : List P8} (h : Rw w g off sz R) (o : Nat) : w.frozen? ⟨g, o, none⟩ = false := by
  obtain ⟨cur, hg, hsz, hc⟩ := h
  exact frozen_of_row w g o _ _ hg
theorem Rw.drewN {w : World} {g off sz : Nat} {R : List P8} (h : Rw w g off sz R) (n : Nat) : Rw (w.drewN n) g off sz R := h
/-- A packet stored into the row. -/
abbrev put8 (w : World) (g o : Nat) (x : P8) : World :=
  (((((((w.setCell ⟨g, o, none⟩ (.int .u16 x.a0)).setCell ⟨g, o + 1, none⟩ (.int .u16 x.a1)).setCell ⟨g, o + 2, none⟩ (.int .u16 x.a2)).setCell ⟨g, o + 3, none⟩ (.int .u16 x.a3)).setCell ⟨g, o + 4, none⟩ (.int .u16 x.a4)).setCell ⟨g, o + 5, none⟩ (.int .u16 x.a5)).setCell ⟨g, o + 6, none⟩ (.int .u16 x.a6)).setCell ⟨g, o + 7, none⟩ (.int .u16 x.a7)
theorem Rw.put {w : World} {g off sz : Nat} {R : List P8} (h : Rw w g off sz R) (k : Nat) (hk : k < R.length) (x : P8) : Rw (put8 w g (off + k * 8) x) g off sz (R.set k x) := by
  obtain ⟨cur, hg, hsz, hc⟩ := h
  have h0 := heap_setCell_same w g (off + k * 8) _ _ (.int .u16 x.a0) hg
  have h1 := heap_setCell_same _ g (off + k * 8 + 1) _ _ (.int .u16 x.a1) h0
  have h2 := heap_setCell_same _ g (off + k * 8 + 2) _ _ (.int .u16 x.a2) h1
  have h3 := heap_setCell_same _ g (off + k * 8 + 3) _ _ (.int .u16 x.a3) h2
  have h4 := heap_setCell_same _ g (off + k * 8 + 4) _ _ (.int .u16 x.a4) h3
  have h5 := heap_setCell_same _ g (off + k * 8 + 5) _ _ (.int .u16 x.a5) h4
  have h6 := heap_setCell_same _ g (off + k * 8 + 6) _ _ (.int .u16 x.a6) h5
  have h7 := heap_setCell_same _ g (off + k * 8 + 7) _ _ (.int .u16 x.a7) h6
  refine ⟨_, h7, by simpa using hsz, fun i hi j hj => ?_⟩
  have hi' : i < R.length := by simpa using hi
  have hin : ∀ j, j < 8 → off + k * 8 + j < cur.size := by
    intro j hj
    have := hc k hk j hj
    rcases Nat.lt_or_ge (off + k * 8 + j) cur.size with hh | hh
    · exact hh
    · rw [Array.getElem?_eq_none hh] at this
      have hl : (enc8 R[k]).length = 8 := rfl
      rw [List.getElem?_eq_getElem (by omega)] at this
      cases this
  simp only [Array.getElem?_setIfInBounds, Array.size_setIfInBounds]
  by_cases hik : i = k
  · subst hik
    rw [List.getElem_set_self]
    have s := hin 7 (by decide)
    match j, hj with
    | 0, _ => rw [if_neg (by omega), if_neg (by omega), if_neg (by omega), if_neg (by omega), if_neg (by omega), if_neg (by omega), if_neg (by omega), if_pos (by omega), if_pos (by omega)]; rfl
    | 1, _ => rw [if_neg (by omega), if_neg (by omega), if_neg (by omega), if_neg (by omega), if_neg (by omega), if_neg (by omega), if_pos (by omega), if_pos (by omega)]; rfl
    | 2, _ => rw [if_neg (by omega), if_neg (by omega), if_neg (by omega), if_neg (by omega), if_neg (by omega), if_pos (by omega), if_pos (by omega)]; rfl
    | 3, _ => rw [if_neg (by omega), if_neg (by omega), if_neg (by omega), if_neg (by omega), if_pos (by omega), if_pos (by omega)]; rfl
    | 4, _ => rw [if_neg (by omega), if_neg (by omega), if_neg (by omega), if_pos (by omega), if_pos (by omega)]; rfl
    | 5, _ => rw [if_neg (by omega), if_neg (by omega), if_pos (by omega), if_pos (by omega)]; rfl
    | 6, _ => rw [if_neg (by omega), if_pos (by omega), if_pos (by omega)]; rfl
    | 7, _ => rw [if_pos (by omega), if_pos (by omega)]; rfl
  · rw [List.getElem_set_ne (by omega)]
    rw [if_neg (by omega), if_neg (by omega), if_neg (by omega), if_neg (by omega), if_neg (by omega), if_neg (by omega), if_neg (by omega), if_neg (by omega)]
    exact hc i hi' j hj
theorem put8_below {B : Nat} {a w : World} {g o : Nat} (h : Below B a w) (hg : B ≤ g) (x : P8) : Below B a (put8 w g o x) :=
  (((((((h.setCell hg _).setCell hg _).setCell hg _).setCell hg _).setCell hg _).setCell hg _).setCell hg _).setCell hg _
theorem setCells_row {g : Nat} {t : TypeId} : ∀ (vs : List Value) (o : Nat) (w : World) (cur : Array Value), w.heap[g]? = some (.cells cur t (0, 0)) → ∃ cur', (w.setCells g o vs).heap[g]? = some (.cells cur' t (0, 0)) ∧ cur'.size = cur.size ∧ ∀ i, i < o → cur'[i]? = cur[i]?
  | [], o, w, cur, h => ⟨cur, h, rfl, fun _ _ => rfl⟩
  | v :: r, o, w, cur, h => by
    obtain ⟨cur', h1, h0, h2⟩ := setCells_row r (o + 1) _ _ (heap_setCell_same w g o cur t v h)
    refine ⟨cur', h1, by simpa using h0, fun i hi => ?_⟩
    rw [h2 i (by omega), Array.getElem?_setIfInBounds, if_neg (by omega)]
theorem setCells_below {B : Nat} {a : World} {g : Nat} (hg : B ≤ g) : ∀ (vs : List Value) (o : Nat) (w : World), Below B a w → Below B a (w.setCells g o vs)
  | [], _, _, h => h
  | v :: r, o, w, h => setCells_below hg r (o + 1) _ (h.setCell hg v)
theorem Rw.cut {w : World} {g off sz : Nat} {R : List P8} (h : Rw w g off sz R) (k : Nat) (vs : List Value) : Rw (w.setCells g (off + k * 8) vs) g off sz (R.take k) := by
  obtain ⟨cur, hg, hsz, hc⟩ := h
  obtain ⟨cur', h1, h0, h2⟩ := setCells_row vs (off + k * 8) w cur hg
  refine ⟨cur', h1, h0.trans hsz, fun i hi j hj => ?_⟩
  rw [List.length_take] at hi
  rw [h2 _ (by omega), List.getElem_take]
  exact hc i (by omega) j hj
theorem Rw.isSome {w : World} {g off sz : Nat} {R : List P8} (h : Rw w g off sz R) (k : Nat) (hk : k ≤ R.length) : ∀ j, j < (R.length - k) * 8 → (w.cell? ⟨g, off + k * 8 + j, none⟩).isSome = true := by
  intro j hj
  have hlt : k + j / 8 < R.length := by omega
  have := (h.at (k + j / 8) hlt).cell (j % 8) (by omega)
  rw [show off + (k + j / 8) * 8 + j % 8 = off + k * 8 + j by omega] at this
  rw [this, List.getElem?_eq_getElem (by rw [show (enc8 R[k + j / 8]).length = 8 from rfl]; omega)]
  rfl
/-- clear, at the end of a row. -/
theorem run_clear8 {w : World} {g off sz : Nat} {R : List P8} (h : Rw w g off sz R) (k : Nat) (hk : k < R.length) (n : Nat) (hn : R.length = n) :
    ∃ vs, ∀ (ty : TypeId) (c : Nat), (Builtin.clear_ #[33] ty #[.slice (some ⟨g, off + k * 8, none⟩) (n - k) c]).run Try.prog w = .ok (.tuple #[]) (w.setCells g (off + k * 8) vs) := by
  subst hn
  obtain ⟨m, hm⟩ : ∃ m, R.length - k = m + 1 := ⟨R.length - k - 1, by omega⟩
  refine ⟨(Builtin.zeroCells (pk 0 0 0 0 0 0 0 0).cells (R.length - k)).toList, fun ty c => ?_⟩
  have hlen : (Builtin.zeroCells (pk 0 0 0 0 0 0 0 0).cells (R.length - k)).toList.length = (R.length - k) * 8 := by
    simp [Builtin.zeroCells]; rfl
  have hone : ∀ v ∈ (Builtin.zeroCells (pk 0 0 0 0 0 0 0 0).cells (R.length - k)).toList, v.oneCell' = true := by
    intro v hv
    simp only [Builtin.zeroCells, Array.toList_map, List.mem_map] at hv
    obtain ⟨i, _, rfl⟩ := hv
    have hi : i % (pk 0 0 0 0 0 0 0 0).cells.size < 8 := Nat.mod_lt _ (by decide)
    generalize i % (pk 0 0 0 0 0 0 0 0).cells.size = r at hi
    match r, hi with
    | 0, _ => rfl
    | 1, _ => rfl
    | 2, _ => rfl
    | 3, _ => rfl
    | 4, _ => rfl
    | 5, _ => rfl
    | 6, _ => rfl
    | 7, _ => rfl
  have hst := run_storeCells_cells (P := Try.prog) g (off + k * 8) (Builtin.zeroCells (pk 0 0 0 0 0 0 0 0).cells (R.length - k)).toList 0 w (by rw [hlen]; exact h.isSome k (by omega)) (by intro j _; exact h.frz _) hone
  simp only [Nat.add_zero] at hst
  have hv : ∀ w, (zeroValue 26).run Try.prog w = .ok (pk 0 0 0 0 0 0 0 0) w := Try.zeroValue26
  rw [hm] at hst ⊢
  generalize hZ : (Builtin.zeroCells (pk 0 0 0 0 0 0 0 0).cells (m + 1)).toList = Z at hst ⊢
  clear hlen hone
  simp only [Builtin.clear_]
  simp [run_underlying Try.underlying33, hv, hZ, hst]

section
variable [Inhabited P8]
/-- The row after the sort. -/
theorem heap_sortedK {w : World} {g n : Nat} {os : Array Obj} {cur : Array Value} {e : TypeId} {fr : Nat × Nat} (d : Array P8) (hb : w.heap[g]? = some (.cells cur e fr)) :
    (sortWorldK enc8 8 w g 0 n d os).heap[g]? = some (.cells (putCells id 0 (flatK enc8 8 d) cur) e fr) := by
  have hg : g < w.heap.size := (Array.getElem?_eq_some_iff.1 hb).1
  unfold sortWorldK putRowK
  rw [Sort.heap_grow_old _ _ (by simpa using hg)]
  simp [putRow, mapBlock, Sort.ahead, Array.getElem?_modify, hb, onCells]
theorem below_sortedK {B : Nat} {a w : World} {g n : Nat} {os : Array Obj} (d : Array P8) (h : Below B a w) (hB : B ≤ g) (hgw : g < w.heap.size) : Below B a (sortWorldK enc8 8 w g 0 n d os) := by
  refine h.trans ⟨rfl, rfl, rfl, by simp [sortWorldK, putRowK, Sort.ahead], fun k hk => ?_⟩
  unfold sortWorldK putRowK
  have hk2 : k < w.heap.size := by omega
  rw [Sort.heap_grow_old _ _ (by simpa using hk2)]
  have : g ≠ k := by omega
  simp [putRow, mapBlock, Sort.ahead, Array.getElem?_modify, this]
theorem flatK_get8 (L : List P8) (i : Nat) (h : i < L.length) (j : Nat) (hj : j < 8) : (flatK enc8 8 L.toArray)[i * 8 + j]! = ((enc8 L[i])[j]?).getD default := by
  rw [get_flatK _ _ _ _ (by simp; omega), show (i * 8 + j) / 8 = i by omega, show (i * 8 + j) % 8 = j by omega]
  simp [h]
theorem rw_sorted {w : World} {g n sz : Nat} {os : Array Obj} {R D : List P8} (h : Rw w g 0 sz R) (hl : D.length = R.length) : Rw (sortWorldK enc8 8 w g 0 n D.toArray os) g 0 sz D := by
  obtain ⟨cur, hg, hsz, hc⟩ := h
  refine ⟨_, heap_sortedK _ hg, by simpa [putCells] using hsz, fun i hi j hj => ?_⟩
  have hin : i * 8 + j < cur.size := by
    have := hc i (by omega) j hj
    rcases Nat.lt_or_ge (0 + i * 8 + j) cur.size with hh | hh
    · omega
    · rw [Array.getElem?_eq_none hh, List.getElem?_eq_getElem (by rw [show (enc8 _).length = 8 from rfl]; omega)] at this
      cases this
  have e := flatK_get8 D i hi j hj
  rw [show 0 + i * 8 + j = i * 8 + j by omega]
  have hl8 : (enc8 D[i]).length = 8 := rfl
  rw [List.getElem?_eq_getElem (by omega)] at e ⊢
  simp only [Option.getD_some] at e
  have hlt : i * 8 + j < D.length * 8 := by omega
  have hsz : i * 8 + j < (flatK enc8 8 D.toArray).size := by simpa using hlt
  rw [getElem!_pos (flatK enc8 8 D.toArray) (i * 8 + j) hsz] at e
  simp [putCells, hin, hlt, e]
theorem holds_of_rw {w : World} {g sz : Nat} {R : List P8} (h : Rw w g 0 sz R) : HoldsK enc8 8 w g 0 R.toArray := by
  intro t ht
  rw [size_flatK] at ht
  have ht' : t < R.length * 8 := by simpa using ht
  refine ⟨?_, h.frz _⟩
  have hi : t / 8 < R.length := by omega
  have hc := (h.at (t / 8) hi).cell (t % 8) (by omega)
  have e := flatK_get8 R (t / 8) hi (t % 8) (by omega)
  rw [show t / 8 * 8 + t % 8 = t by omega] at e
  rw [show 0 + t / 8 * 8 + t % 8 = 0 + t by omega] at hc
  rw [hc, e]
  have hl8 : (enc8 R[t / 8]).length = 8 := rfl
  rw [List.getElem?_eq_getElem (by omega)]
  rfl

theorem cmpLays27 (blk off size : Nat) (w : World) : CmpLays Try.prog 55 #[] enc8 8 cf blk off size w :=
  fun _ _ _ _ x y => cmp27 x y _
end
/-- slices.SortFunc at a row of the call's own. -/
theorem sort40 (g cap sz : Nat) (R : List P8) (w : World) (h : Rw w g 0 sz R) (hlen : R.length ≤ 1000) (B : Nat) (hB : B ≤ g) :
    Calls Try.prog 54 #[.slice (some ⟨g, 0, none⟩) R.length cap, .func (.func 55) #[] #[]] w fun e w' => e = .returned (.tuple #[]) ∧ Rw w' g 0 sz (R.mergeSort fun x y => !(ltOf cf) y x) ∧ (∀ a, Below B a w → Below B a w') := by
  have hblk : g < w.heap.size := by obtain ⟨cur, hg, _⟩ := h; exact (Array.getElem?_eq_some_iff.1 hg).1
  haveI : Inhabited P8 := ⟨⟨0, 0, 0, 0, 0, 0, 0, 0⟩⟩
  have hcon := AnyQ.slices_SortFunc_total Try.sortP 8 Try.isAgg26 Try.sizeOf26 enc8 (fun _ => rfl) enc8_one cf swo_cf 55 #[] g 0 cap R.toArray w (enters_of Try.func55 (by kernel_rfl) rfl) (cmpLays27 g 0 _ w) (holds_of_rw h) hblk (by simp; omega) tot_cf
  change Calls Try.prog 54 _ _ _ at hcon
  rw [show R.toArray.size = R.length by simp, show R.toArray.toList = R by simp] at hcon
  refine hcon.mono fun e w' ⟨he, n, os, hw⟩ => ⟨he, ?_, fun a hb => ?_⟩
  · rw [hw]; exact rw_sorted h (List.length_mergeSort R)
  · rw [hw]; exact below_sortedK _ hb hB hblk
theorem sort40_none (p : Option Addr) (cap : Nat) (fv : Value) (w : World) : Calls Try.prog 54 #[.slice p 0 cap, fv] w fun e w' => e = .returned (.tuple #[]) ∧ w' = w :=
  AnyF.slices_SortFunc_none Try.sortP p cap fv w

set_option maxRecDepth 100000 in
set_option maxHeartbeats 1000000 in
theorem clone39 (ad : Addr) (cap : Nat) (L : List P8) (w : World) (hlen : L.length ≤ 1000) (hc : ∀ j u, (flat8 L)[j]? = some u → w.cell? (ad.add j) = some u) :
    Calls Try.prog 53 #[.slice (some ad) L.length cap] w fun e w' => ∃ v', e = .returned v' ∧ w'.ownsRow w.heap.size 26 8 v' L.length (flat8 L) ∧ v' ≠ .slice none 0 0 ∧ Below w.heap.size w w' := by
  obtain ⟨i0, hi, hz0, hz1, hz2⟩ := info_parts info24'
  have q46 : ∀ (w : World) (a : Option Addr) (n c n' c' : Nat), (binOp .eql 33 (.slice a n c) (.slice none n' c')).run Try.prog w = .ok (.bool a.isNone) w := fun w a n c n' c' => Lib.run_eql_slice_nil w _ _ a n c n' c' Try.underlying33
  have hlf := flat8_length L
  have hone : ∀ u ∈ flat8 L, u.oneCell' = true := by
    intro u hu
    obtain ⟨x, _, hx⟩ := List.mem_flatMap.1 hu
    exact enc8_one x u hx
  generalize flat8 L = news at *
  have HC : Hid (∀ j u, news[j]? = some u → w.cell? (ad.add j) = some u) := hc
  clear hc
  go_enter Try.func53, Try.ntmps53
  go_wp2_with (at_builtin; refine wpList_append_own _ rfl _ _ 33 rfl w.heap.size 26 i0 (pk 0 0 0 0 0 0 0 0) 8 16 Try.underlying33 hi hz0 hz1 hz2 rfl (by decide) _ _ _ rfl (World.ownsRow_made w #[] 0 (Nat.le_refl _) (Nat.zero_le _) (by simp)) ad L.length cap news rfl ?qc1 ?qc2 ?qc3 ?qc4 ?qc5 ?qc6 ?_)
  case qc1 => exact hlf
  case qc2 =>
    intro j u hj
    exact Lib.cell?_alloc_some _ (HC.out j u hj)
  case qc3 => exact hone
  case qc4 => unfold maxLen; omega
  case qc5 => omega
  case qc6 => simp
  intro v' w1 hown hgrow hnil
  go_wp2
  go_ret
  refine ⟨v', rfl, by simpa using hown, ?_, ?_⟩
  · exact hnil
  · exact ((Below.refl _ w).alloc (Nat.le_refl _) _).grown hgrow (by simp) (by intro k hk; simp [Value.ownBlock] at hk; omega)
theorem clone39_nil (n c : Nat) (w : World) : Calls Try.prog 53 #[.slice none n c] w fun e w' => e = .returned (.slice none 0 0) ∧ w' = w := by
  have q46 : ∀ (w : World) (a : Option Addr) (n c n' c' : Nat), (binOp .eql 33 (.slice a n c) (.slice none n' c')).run Try.prog w = .ok (.bool a.isNone) w := fun w a n c n' c' => Lib.run_eql_slice_nil w _ _ a n c n' c' Try.underlying33
  go_enter Try.func53, Try.ntmps53
  go_wp2
  go_ret
  exact ⟨rfl, rfl⟩
end Go.Proofs.Ytipiepcbgjceaaa
/- What slices.Compact leaves of a row of packets that is in order: each once; no conditions of mine but what the contract states. -/
set_option linter.unusedVariables false
set_option linter.unusedSimpArgs false
namespace Go.Proofs.Ytipiepcbgjceaaa
open Go.RowKit Go.Joins Go.Sort

/-- In order. -/
def LE8 (D : List P8) : Prop := D.Pairwise fun x y => cf x y ≤ 0
theorem le8_at {D : List P8} (h : LE8 D) (i j : Nat) (hij : i < j) (hj : j < D.length) : cf (D[i]'(by omega)) D[j] ≤ 0 :=
  List.pairwise_iff_getElem.1 h i j (by omega) hj hij
theorem lt_next {D : List P8} (h : LE8 D) (m : Nat) (h1 : 1 ≤ m) (hm : m < D.length) (hne : ¬ D[m] = D[m - 1]) : ∀ z ∈ D.take m, cf z D[m] < 0 := by
  intro z hz
  obtain ⟨i, hi, rfl⟩ := List.getElem_of_mem hz
  rw [List.length_take] at hi
  rw [List.getElem_take]
  have k1 : cf D[m - 1] D[m] < 0 := by
    have := le8_at h (m - 1) m (by omega) hm
    rcases Int.lt_or_eq_of_le this with k | k
    · exact k
    · exact absurd (cf_eq k).symm hne
  by_cases e : i = m - 1
  · subst e; exact k1
  · have := le8_at h i (m - 1) (by omega) (by omega)
    rcases Int.lt_or_eq_of_le this with k | k
    · exact cf_trans k k1
    · rw [cf_eq k]; exact k1
/-- Where the inner loop is. -/
structure CI (D : List P8) (m kk : Nat) (R : List P8) : Prop where
  len : R.length = D.length
  ss : SS (R.take kk)
  mem : ∀ z, z ∈ R.take kk ↔ z ∈ D.take m
  high : ∀ i, m ≤ i + 1 → R[i]? = D[i]?
theorem take_snoc {D : List P8} (m : Nat) (hm : m < D.length) (z : P8) : z ∈ D.take (m + 1) ↔ z ∈ D.take m ∨ z = D[m] := by
  rw [List.take_succ_eq_append_getElem hm, List.mem_append, List.mem_singleton]
theorem prev_mem {D : List P8} (m : Nat) (h1 : 1 ≤ m) (hm : m < D.length) : D[m - 1] ∈ D.take m := by
  rw [List.mem_take_iff_getElem]
  exact ⟨m - 1, by omega, rfl⟩
theorem CI.start {D : List P8} (k : Nat) (h1 : 1 ≤ k) (hk : k < D.length) (hs : SS (D.take k)) (he : D[k] = D[k - 1]) : CI D (k + 1) k D := by
  refine ⟨rfl, hs, fun z => ?_, fun i _ => rfl⟩
  rw [take_snoc k hk]
  refine ⟨.inl, fun h => ?_⟩
  rcases h with h | h
  · exact h
  · rw [h, he]; exact prev_mem k h1 hk
theorem CI.skip {D R : List P8} {m kk : Nat} (h : CI D m kk R) (h1 : 1 ≤ m) (hm : m < D.length) (he : D[m] = D[m - 1]) : CI D (m + 1) kk R := by
  refine ⟨h.len, h.ss, fun z => ?_, fun i hi => h.high i (by omega)⟩
  rw [h.mem, take_snoc m hm]
  refine ⟨.inl, fun h => ?_⟩
  rcases h with h | h
  · exact h
  · rw [h, he]; exact prev_mem m h1 hm
theorem CI.keep {D R : List P8} {m kk : Nat} (h : CI D m kk R) (hD : LE8 D) (h1 : 1 ≤ m) (hm : m < D.length) (hk : kk < m) (hne : ¬ D[m] = D[m - 1]) : CI D (m + 1) (kk + 1) (R.set kk D[m]) := by
  have hkl : kk < R.length := by rw [h.len]; omega
  have e : (R.set kk D[m]).take (kk + 1) = R.take kk ++ [D[m]] := by
    rw [List.take_succ_eq_append_getElem (by simpa using hkl), List.getElem_set_self, List.take_set_of_le (Nat.le_refl _)]
  refine ⟨by simpa using h.len, ?_, fun z => ?_, fun i hi => ?_⟩
  · rw [e]
    exact ss_snoc h.ss fun z hz => lt_next hD m h1 hm hne z ((h.mem z).1 hz)
  · rw [e, List.mem_append, List.mem_singleton, h.mem, take_snoc m hm]
  · rw [List.getElem?_set_ne (by omega)]; exact h.high i (by omega)

theorem same8_iff (x y : P8) : same8 x.l y.l = decide (x.l = y.l) := by
  unfold same8
  by_cases h : x.l = y.l
  · rw [h]; simp
  · simp [h]
theorem eqlXY {x y : P8} (h : ¬ x = y) (w : World) : (Op.equalIn 10000 26 x.v y.v).run Try.prog w = .ok false w := by
  rw [eql8]
  have : same8 x.l y.l = false := by rw [same8_iff]; exact decide_eq_false fun e => h (P8.inj e)
  rw [show ([x.a0, x.a1, x.a2, x.a3, x.a4, x.a5, x.a6, x.a7] : List Int) = x.l from rfl, show ([y.a0, y.a1, y.a2, y.a3, y.a4, y.a5, y.a6, y.a7] : List Int) = y.l from rfl, this]

set_option maxRecDepth 100000 in
set_option maxHeartbeats 1000000 in
theorem compact41 (g off cap sz : Nat) (D : List P8) (w : World) (hR : Rw w g off sz D) (hD : LE8 D) (hlen : D.length ≤ 1000) (hcap : D.length ≤ cap) (hcap2 : cap ≤ 9223372036854775807) (B : Nat) (hB : B ≤ g) (w0 : World) (hw0 : Below B w0 w) :
    Calls Try.prog 56 #[.slice (some ⟨g, off, none⟩) D.length cap] w fun e w' => ∃ Z : List P8, e = .returned (.slice (some ⟨g, off, none⟩) Z.length cap) ∧ Rw w' g off sz Z ∧ SS Z ∧ (∀ z, z ∈ Z ↔ z ∈ D) ∧ Below B w0 w' := by
  by_cases h2 : D.length < 2
  · have d2 : decide ((D.length : Int) < 2) = true := by simp; omega
    go_enter Try.func56, Try.ntmps56
    go_wp2
    go_ret
    refine ⟨D, rfl, hR, ?_, fun z => Iff.rfl, hw0⟩
    match D, h2 with
    | [], _ => exact List.Pairwise.nil
    | [x], _ => exact List.pairwise_singleton _ _
  · have d2 : decide ((D.length : Int) < 2) = false := by simp; omega
    have hn2 : 2 ≤ D.length := by omega
    clear h2
    go_enter Try.func56, Try.ntmps56
    go_wp2
    go_loopw [3] (fun i wr => ∃ k : Nat, 1 ≤ k ∧ k ≤ D.length ∧ i = .int .i64 k ∧ Hid (SS (D.take k)) ∧ Hid (Rw wr g off sz D) ∧ Hid (Below B w0 wr)) (fun i _ => D.length - (intOf i).toNat)
    case atStart =>
      refine ⟨1, Nat.le_refl _, by omega, rfl, ?_, hR, hw0⟩
      match D, hn2 with
      | x :: r, _ => exact List.pairwise_singleton _ _
    case round =>
      obtain ⟨k, hk1, hk, rfl, HS, HR, HB⟩ := hrel
      by_cases hlt : k < D.length
      · obtain ⟨p0, p1, p2, p3, p4, p5, p6, p7⟩ := HR.out.at k hlt
        obtain ⟨q0, q1, q2, q3, q4, q5, q6, q7⟩ := HR.out.at (k - 1) (by omega)
        obtain ⟨x, hx⟩ : ∃ x, D[k] = x := ⟨_, rfl⟩
        obtain ⟨y, hy⟩ : ∃ y, D[k - 1] = y := ⟨_, rfl⟩
        rw [hx] at p0 p1 p2 p3 p4 p5 p6 p7
        rw [hy] at q0 q1 q2 q3 q4 q5 q6 q7
        have HX : Hid (D[k] = x) := hx
        have HY : Hid (D[k - 1] = y) := hy
        clear hx hy
        by_cases hxy : x = y
        · subst hxy
          have e := eqlP x
          unfold P8.v at e
          go_wp2
          go_quiet (fail)
          go_wp2
          have HCI0 : Hid (CI D (k + 1) k D) := CI.start k hk1 hlt HS.out (HX.out.trans HY.out.symm)
          have HR0 : Hid (Rw (wr.drewN nq) g off sz D) := HR.out.drewN _
          have HB0 : Hid (Below B w0 (wr.drewN nq)) := below_drewN HB.out _
          clear p0 p1 p2 p3 p4 p5 p6 p7 q0 q1 q2 q3 q4 q5 q6 q7 e HX HY HS HR HB
          generalize (wr.drewN nq) = W at *
          go_loopw [3, 5] (fun i j wz => ∃ (kk k2 : Nat) (R : List P8), i = .int .i64 kk ∧ j = .int .i64 k2 ∧ 1 ≤ k2 ∧ k + k2 ≤ D.length ∧ kk < k + k2 ∧ Hid (CI D (k + k2) kk R) ∧ Hid (Rw wz g off sz R) ∧ Hid (Below B w0 wz)) (fun _ j _ => D.length - (intOf j).toNat)
          case atStart => exact ⟨k, 1, D, rfl, rfl, Nat.le_refl _, by omega, by omega, HCI0, HR0, HB0⟩
          case round =>
            clear HCI0 HR0 HB0
            obtain ⟨kk, k2, R, rfl, rfl, h1, hle, hkk, HCI, HRR, HBB⟩ := hrel
            have hRl := HCI.out.len
            by_cases hlt2 : k + k2 < D.length
            · have hlt2R : k + k2 < R.length := by omega
              have hltpR : k + k2 - 1 < R.length := by omega
              have hu0 := HRR.out.at (k + k2) hlt2R
              have hv0 := HRR.out.at (k + k2 - 1) hltpR
              have eu : R[k + k2] = D[k + k2] := by
                have := HCI.out.high (k + k2) (by omega)
                rw [List.getElem?_eq_getElem hlt2R, List.getElem?_eq_getElem hlt2] at this
                exact Option.some.inj this
              have ev : R[k + k2 - 1] = D[k + k2 - 1] := by
                have := HCI.out.high (k + k2 - 1) (by omega)
                rw [List.getElem?_eq_getElem hltpR, List.getElem?_eq_getElem (by omega)] at this
                exact Option.some.inj this
              rw [eu, show off + (k + k2) * 8 = off + k * 8 + k2 * 8 by omega] at hu0
              rw [ev, show off + (k + k2 - 1) * 8 = off + k * 8 + (k2 - 1) * 8 by omega] at hv0
              clear eu ev
              obtain ⟨u, hu⟩ : ∃ u, D[k + k2] = u := ⟨_, rfl⟩
              obtain ⟨v, hv⟩ : ∃ v, D[k + k2 - 1] = v := ⟨_, rfl⟩
              rw [hu] at hu0
              rw [hv] at hv0
              have HU : Hid (D[k + k2] = u) := hu
              have HV : Hid (D[k + k2 - 1] = v) := hv
              clear hu hv
              obtain ⟨p0, p1, p2, p3, p4, p5, p6, p7⟩ := hu0
              obtain ⟨q0, q1, q2, q3, q4, q5, q6, q7⟩ := hv0
              by_cases huv : u = v
              · subst huv
                have e := eqlP u
                unfold P8.v at e
                have HC2 : Hid (CI D (k + (k2 + 1)) kk R) := HCI.out.skip (by omega) hlt2 (HU.out.trans HV.out.symm)
                clear HU HV
                go_wp2
                go_quiet (fail)
                go_wp2
                refine ⟨⟨kk, k2 + 1, R, rfl, by go_num, by omega, by omega, by omega, HC2, HRR.out.drewN _, below_drewN HBB.out _⟩, by simp [intOf]; omega⟩
              · have e := eqlXY huv
                unfold P8.v at e
                have HNE : Hid (¬ D[k + k2] = D[k + k2 - 1]) := by show ¬ _; rw [HU.out, HV.out]; exact huv
                have HC2 : Hid (CI D (k + (k2 + 1)) (kk + 1) (R.set kk u)) := by
                  have := HCI.out.keep hD (by omega) hlt2 hkk HNE.out
                  rwa [HU.out] at this
                have hkR : kk < R.length := by omega
                obtain ⟨r0, r1, r2, r3, r4, r5, r6, r7⟩ := HRR.out.at kk hkR
                have f0 := HRR.out.frz (off + kk * 8)
                have f1 := HRR.out.frz (off + kk * 8 + 1)
                have f2 := HRR.out.frz (off + kk * 8 + 2)
                have f3 := HRR.out.frz (off + kk * 8 + 3)
                have f4 := HRR.out.frz (off + kk * 8 + 4)
                have f5 := HRR.out.frz (off + kk * 8 + 5)
                have f6 := HRR.out.frz (off + kk * 8 + 6)
                have f7 := HRR.out.frz (off + kk * 8 + 7)
                generalize R[kk] = old at *
                have hkkD : kk < D.length := by omega
                clear HU HV huv
                go_wp2
                go_quiet (fail)
                go_wp2
                refine ⟨⟨kk + 1, k2 + 1, R.set kk u, by go_num, by go_num, by omega, by omega, by omega, HC2, Rw.put (HRR.out.drewN _) kk hkR u, put8_below (below_drewN HBB.out _) hB u⟩, by simp [intOf]; omega⟩
            · have hend : k + k2 = D.length := by omega
              have hkR : kk < R.length := by omega
              obtain ⟨vs, hcl⟩ := run_clear8 HRR.out kk hkR D.length hRl
              have hHend : Hid (k + k2 = D.length) := hend
              clear hend
              go_wp2
              go_ret
              have hC := HCI.out
              rw [hHend.out] at hC
              have hl : (R.take kk).length = kk := by rw [List.length_take]; omega
              refine ⟨R.take kk, by rw [hl]; rfl, HRR.out.cut kk vs, hC.ss, fun z => ?_, setCells_below hB _ _ _ HBB.out⟩
              rw [hC.mem, List.take_length]
        · have e := eqlXY hxy
          unfold P8.v at e
          have HNE : Hid (¬ D[k] = D[k - 1]) := by show ¬ _; rw [HX.out, HY.out]; exact hxy
          clear hxy
          go_wp2
          go_quiet (fail)
          go_wp2
          have HS2 : Hid (SS (D.take (k + 1))) := by
            show SS _
            rw [List.take_succ_eq_append_getElem hlt]
            exact ss_snoc HS.out (lt_next hD k hk1 hlt HNE.out)
          refine ⟨⟨k + 1, by omega, by omega, by go_num, HS2, HR.out.drewN _, below_drewN HB.out _⟩, by simp [intOf]; omega⟩
      · have hkl : k = D.length := by omega
        subst hkl
        go_wp2
        go_ret
        have hs := HS.out
        rw [List.take_length] at hs
        exact ⟨D, rfl, HR.out, hs, fun z => Iff.rfl, HB.out⟩
end Go.Proofs.Ytipiepcbgjceaaa
/- What packet.Sort leaves, for every list of at most 60 packets, and what the law PacketSorts answers: true, for every list of packets, wherever the listed variables hold what the row lists. -/
set_option linter.unusedVariables false
set_option linter.unusedSimpArgs false
namespace Go.Proofs.Ytipiepcbgjceaaa
open Go.RowKit Go.Joins Go.Sort

theorem compact41_none (p : Option Addr) (cap : Nat) (w : World) : Calls Try.prog 56 #[.slice p 0 cap] w fun e w' => e = .returned (.slice p 0 cap) ∧ w' = w := by
  go_enter Try.func56, Try.ntmps56
  go_wp2
  go_ret
  exact ⟨rfl, rfl⟩
theorem le_cf (x y : P8) : (!(ltOf cf) y x) = decide (cf x y ≤ 0) := by
  rw [ltOf_cf, cf_neg y x]
  by_cases h : cf x y ≤ 0
  · simp [h]
  · simp [h]; omega
theorem ms_le (L : List P8) : LE8 (L.mergeSort fun x y => !(ltOf cf) y x) := by
  have := List.pairwise_mergeSort (le := fun x y => !(ltOf cf) y x) (fun a b c h1 h2 => by
    simp only [le_cf] at h1 h2 ⊢
    have h1' := of_decide_eq_true h1
    have h2' := of_decide_eq_true h2
    apply decide_eq_true
    rcases Int.lt_or_eq_of_le h1' with k1 | k1
    · rcases Int.lt_or_eq_of_le h2' with k2 | k2
      · exact Int.le_of_lt (cf_trans k1 k2)
      · rw [← cf_eq k2]; exact h1'
    · rw [cf_eq k1]; exact h2') (fun a b => by
    simp only [le_cf]
    rw [cf_neg b a]
    by_cases h : cf a b ≤ 0
    · simp [h]
    · simp [h]; omega) L
  exact this.imp fun h => by rw [le_cf] at h; exact of_decide_eq_true h
theorem flat_cells {w : World} {b off : Nat} {L : List P8} (hc : ∀ i (h : i < L.length), At8 w b (off + i * 8) L[i]) : ∀ j u, (flat8 L)[j]? = some u → w.cell? ((⟨b, off, none⟩ : Addr).add j) = some u := by
  intro j u hj
  have hlt : j < (flat8 L).length := (List.getElem?_eq_some_iff.1 hj).1
  rw [flat8_length] at hlt
  have hi : j / 8 < L.length := by omega
  have h1 := (hc (j / 8) hi).cell (j % 8) (by omega)
  have h2 := flat8_get L (j / 8) hi (j % 8) (by omega)
  rw [show j / 8 * 8 + j % 8 = j by omega, hj] at h2
  rw [show off + j / 8 * 8 + j % 8 = off + j by omega, ← h2] at h1
  rw [show (⟨b, off, none⟩ : Addr).add j = ⟨b, off + j, none⟩ by unfold Addr.add; split <;> simp_all]
  exact h1

/-- A list without a thing twice, all in another list, is no longer than that. -/
theorem len_le_nd : ∀ (l m : List P8), l.Nodup → (∀ z ∈ l, z ∈ m) → l.length ≤ m.length
  | [], m, _, _ => Nat.zero_le _
  | x :: l, m, hn, h => by
    obtain ⟨h1, h2⟩ := List.nodup_cons.1 hn
    have hx : x ∈ m := h x (List.mem_cons_self ..)
    obtain ⟨a, b, rfl⟩ := List.append_of_mem hx
    have := len_le_nd l (a ++ b) h2 fun z hz => by
      have hz' := h z (List.mem_cons_of_mem _ hz)
      simp only [List.mem_append, List.mem_cons] at hz' ⊢
      rcases hz' with k | k | k
      · exact .inl k
      · subst k; exact absurd hz h1
      · exact .inr k
    simp only [List.length_append, List.length_cons] at this ⊢
    omega
/-- A row of its own. -/
theorem own_of_rw {w : World} {base g cap sz : Nat} {Z : List P8} (h : Rw w g 0 sz Z) (hsz : sz = cap * 8) (hb : base ≤ g) (hz : Z.length ≤ cap) (hm : cap ≤ maxLen) : w.ownsRow base 26 8 (.slice (some ⟨g, 0, none⟩) Z.length cap) Z.length (flat8 Z) := by
  obtain ⟨cur, hg, hs, hc⟩ := h
  refine ⟨flat8_length Z, .inr ⟨g, cap, cur, rfl, hb, hg, hz, hm, hs.trans hsz, ?_⟩⟩
  apply List.ext_getElem?
  intro j
  by_cases hj : j < Z.length * 8
  · rw [List.getElem?_take_of_lt hj, Array.getElem?_toList]
    have hi : j / 8 < Z.length := by omega
    have h1 := hc (j / 8) hi (j % 8) (by omega)
    have h2 := flat8_get Z (j / 8) hi (j % 8) (by omega)
    rw [show 0 + j / 8 * 8 + j % 8 = j by omega] at h1
    rw [show j / 8 * 8 + j % 8 = j by omega] at h2
    rw [h1, h2]
  · rw [List.getElem?_eq_none (by rw [List.length_take]; omega), List.getElem?_eq_none (by rw [flat8_length]; omega)]
theorem sortL_nil : sortL [] = [] := rfl
theorem sortL_ne {L : List P8} (h : L ≠ []) : sortL L ≠ [] := by
  obtain ⟨x, hx⟩ := List.exists_mem_of_ne_nil _ h
  intro e
  have := ((sortL_ok L).2 x).2 hx
  rw [e] at this
  cases this

set_option maxRecDepth 100000 in
set_option maxHeartbeats 1000000 in
theorem sort_nil (w : World) : Calls Try.prog 47 #[.slice none 0 0] w fun e w' => e = .returned (.slice none 0 0) ∧ w' = w := by
  go_enter Try.func47, Try.ntmps47
  go_wp2_with fail
  refine (clone39_nil _ _ _).mono ?_
  rintro e w1 ⟨rfl, rfl⟩
  go_wp2_with fail
  refine (sort40_none _ _ _ _).mono ?_
  rintro e w2 ⟨rfl, rfl⟩
  go_wp2_with fail
  refine (compact41_none _ _ _).mono ?_
  rintro e w3 ⟨rfl, rfl⟩
  go_wp2
  go_ret
  exact ⟨rfl, rfl⟩
set_option maxRecDepth 100000 in
set_option maxHeartbeats 1000000 in
/-- What packet.Sort leaves of a list that isn't empty: a row of its own. -/
theorem sort_own (v : Value) (L : List P8) (hL : L ≠ []) (hlen : L.length ≤ 500) (w : World) (h : Pks w v L) :
    Calls Try.prog 47 #[v] w fun e w' => ∃ v', e = .returned v' ∧ w'.ownsRow w.heap.size 26 8 v' (sortL L).length (flat8 (sortL L)) ∧ Below w.heap.size w w' := by
  obtain ⟨b, off, cap, rfl, hb, hc⟩ := h.ne hL
  have hcl := clone39 ⟨b, off, none⟩ cap L w (by omega) (flat_cells hc)
  clear h hc
  go_enter Try.func47, Try.ntmps47
  go_wp2_with fail
  refine hcl.mono ?_
  clear hcl
  rintro e w1 ⟨v', rfl, hown, hnn, hb1⟩
  obtain ⟨g, cp, rfl, hg, hR, hcap, hcap2⟩ : ∃ g cp, v' = .slice (some ⟨g, 0, none⟩) L.length cp ∧ w.heap.size ≤ g ∧ Rw w1 g 0 (cp * 8) L ∧ L.length ≤ cp ∧ cp ≤ maxLen := by
    rcases hown.2 with ⟨hv, _⟩ | ⟨g, cap, cur, hv, hB, hgg, hcap, hmax, hsz, htk⟩
    · exact absurd hv hnn
    · refine ⟨g, cap, hv, hB, ⟨cur, hgg, hsz, fun i hi j hj => ?_⟩, hcap, hmax⟩
      have hlt : i * 8 + j < L.length * 8 := by omega
      have := flat8_get L i hi j hj
      rw [← htk, List.getElem?_take_of_lt hlt, Array.getElem?_toList] at this
      rw [show 0 + i * 8 + j = i * 8 + j by omega]
      exact this
  clear hown hnn
  have HR : Hid (Rw w1 g 0 (cp * 8) L) := hR
  have HB1 : Hid (Below w.heap.size w w1) := hb1
  have HM : Hid (cp ≤ maxLen) := hcap2
  have hcap3 : cp ≤ 9223372036854775807 := by unfold maxLen at hcap2; omega
  clear hR hb1 hcap2
  go_wp2_with fail
  refine (sort40 g cp (cp * 8) L w1 HR.out (by omega) w.heap.size hg).mono ?_
  rintro e w2 ⟨rfl, hR2, hb2⟩
  have HR2 : Hid (Rw w2 g 0 (cp * 8) (L.mergeSort fun x y => !(ltOf cf) y x)) := hR2
  have HB2 : Hid (Below w.heap.size w w2) := hb2 _ HB1.out
  have HLE : Hid (LE8 (L.mergeSort fun x y => !(ltOf cf) y x)) := ms_le L
  have HMe : Hid (∀ z, z ∈ (L.mergeSort fun x y => !(ltOf cf) y x) ↔ z ∈ L) := fun z => List.mem_mergeSort
  have hml : (L.mergeSort fun x y => !(ltOf cf) y x).length = L.length := List.length_mergeSort L
  clear hR2 hb2
  generalize (L.mergeSort fun x y => !(ltOf cf) y x) = D at *
  have hcm := compact41 g 0 cp (cp * 8) D w2 HR2.out HLE.out (by omega) (by omega) hcap3 w.heap.size hg w HB2.out
  rw [hml] at hcm
  go_wp2_with fail
  refine hcm.mono ?_
  rintro e w3 ⟨Z, rfl, hRZ, hSZ, hMZ, hBZ⟩
  clear hcm
  have HZ : Hid (w3.ownsRow w.heap.size 26 8 (.slice (some ⟨g, 0, none⟩) Z.length cp) (sortL L).length (flat8 (sortL L)) ∧ Below w.heap.size w w3) := by
    have e : Z = sortL L := ss_unique _ _ hSZ (sortL_ok L).1 fun z => by rw [hMZ, HMe.out, (sortL_ok L).2]
    have hZl : Z.length ≤ L.length := by
      rw [← hml]
      have : ∀ (a b : List P8), a.Nodup → (∀ z ∈ a, z ∈ b) → a.length ≤ b.length := fun a b h1 h2 => len_le_nd a b h1 h2
      exact this Z D (hSZ.imp fun {a b} hab e => by rw [e, cf_self] at hab; omega) fun z hz => (hMZ z).1 hz
    rw [← e]
    exact ⟨own_of_rw hRZ rfl hg (by omega) HM.out, hBZ⟩
  clear hRZ hSZ hMZ hBZ
  go_wp2
  go_ret
  exact ⟨_, rfl, HZ.out.1, HZ.out.2⟩
end Go.Proofs.Ytipiepcbgjceaaa
