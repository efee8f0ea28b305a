/- A row of packets in memory, what stores do to it, and what slices.Clone and slices.SortFunc leave; no conditions of mine but what each contract states. -/
import Derived.Test.YtbcikkofbdfmaaaS2
import Derived.Test.YtbcikkofbdfmaaaS3
import Derived.Test.YtbcikkofbdfmaaaSrt
import Derived.Test.YtbcikkofbdfmaaaS0b
import Derived.Lib.SliceRun
set_option linter.unusedVariables false
set_option linter.unusedSimpArgs false
namespace Go.Proofs.Ytbcikkofbdfmaaa
open Go.RowKit Go.Joins Go.Sort Go.Shelf

/-- A row of packets, all of its own block. -/
def Rw (w : World) (g off sz : Nat) (R : List P8) : Prop :=
  ∃ cur, w.heap[g]? = some (.cells cur 25 (0, 0)) ∧ cur.size = sz ∧ ∀ i (h : i < R.length) j, j < 8 → cur[off + i * 8 + j]? = (enc8 R[i])[j]?
theorem Rw.at {w : World} {g off sz : Nat} {R : List P8} (h : Rw w g off sz R) (i : Nat) (hi : i < R.length) : At8 w g (off + i * 8) R[i] := by
  obtain ⟨cur, hg, hsz, hc⟩ := h
  refine At8.of fun j hj => ?_
  rw [cell_of_row _ _ _ _ _ _ hg]
  exact hc i hi j hj
theorem Rw.frz {w : World} {g off sz : Nat} {R : List P8} (h : Rw w g off sz R) (o : Nat) : w.frozen? ⟨g, o, none⟩ = false := by
  obtain ⟨cur, hg, hsz, hc⟩ := h
  exact frozen_of_row w g o _ _ hg
theorem Rw.drewN {w : World} {g off sz : Nat} {R : List P8} (h : Rw w g off sz R) (n : Nat) : Rw (w.drewN n) g off sz R := h
/-- A packet stored into the row. -/
abbrev put8 (w : World) (g o : Nat) (x : P8) : World :=
  (((((((w.setCell ⟨g, o, none⟩ (.int .u16 x.a0)).setCell ⟨g, o + 1, none⟩ (.int .u16 x.a1)).setCell ⟨g, o + 2, none⟩ (.int .u16 x.a2)).setCell ⟨g, o + 3, none⟩ (.int .u16 x.a3)).setCell ⟨g, o + 4, none⟩ (.int .u16 x.a4)).setCell ⟨g, o + 5, none⟩ (.int .u16 x.a5)).setCell ⟨g, o + 6, none⟩ (.int .u16 x.a6)).setCell ⟨g, o + 7, none⟩ (.int .u16 x.a7)
theorem Rw.put {w : World} {g off sz : Nat} {R : List P8} (h : Rw w g off sz R) (k : Nat) (hk : k < R.length) (x : P8) : Rw (put8 w g (off + k * 8) x) g off sz (R.set k x) := by
  obtain ⟨cur, hg, hsz, hc⟩ := h
  have h0 := heap_setCell_same w g (off + k * 8) _ _ (.int .u16 x.a0) hg
  have h1 := heap_setCell_same _ g (off + k * 8 + 1) _ _ (.int .u16 x.a1) h0
  have h2 := heap_setCell_same _ g (off + k * 8 + 2) _ _ (.int .u16 x.a2) h1
  have h3 := heap_setCell_same _ g (off + k * 8 + 3) _ _ (.int .u16 x.a3) h2
  have h4 := heap_setCell_same _ g (off + k * 8 + 4) _ _ (.int .u16 x.a4) h3
  have h5 := heap_setCell_same _ g (off + k * 8 + 5) _ _ (.int .u16 x.a5) h4
  have h6 := heap_setCell_same _ g (off + k * 8 + 6) _ _ (.int .u16 x.a6) h5
  have h7 := heap_setCell_same _ g (off + k * 8 + 7) _ _ (.int .u16 x.a7) h6
  refine ⟨_, h7, by simpa using hsz, fun i hi j hj => ?_⟩
  have hi' : i < R.length := by simpa using hi
  have hin : ∀ j, j < 8 → off + k * 8 + j < cur.size := by
    intro j hj
    have := hc k hk j hj
    rcases Nat.lt_or_ge (off + k * 8 + j) cur.size with hh | hh
    · exact hh
    · rw [Array.getElem?_eq_none hh] at this
      have hl : (enc8 R[k]).length = 8 := rfl
      rw [List.getElem?_eq_getElem (by omega)] at this
      cases this
  simp only [Array.getElem?_setIfInBounds, Array.size_setIfInBounds]
  by_cases hik : i = k
  · subst hik
    rw [List.getElem_set_self]
    have s := hin 7 (by decide)
    match j, hj with
    | 0, _ => rw [if_neg (by omega), if_neg (by omega), if_neg (by omega), if_neg (by omega), if_neg (by omega), if_neg (by omega), if_neg (by omega), if_pos (by omega), if_pos (by omega)]; rfl
    | 1, _ => rw [if_neg (by omega), if_neg (by omega), if_neg (by omega), if_neg (by omega), if_neg (by omega), if_neg (by omega), if_pos (by omega), if_pos (by omega)]; rfl
    | 2, _ => rw [if_neg (by omega), if_neg (by omega), if_neg (by omega), if_neg (by omega), if_neg (by omega), if_pos (by omega), if_pos (by omega)]; rfl
    | 3, _ => rw [if_neg (by omega), if_neg (by omega), if_neg (by omega), if_neg (by omega), if_pos (by omega), if_pos (by omega)]; rfl
    | 4, _ => rw [if_neg (by omega), if_neg (by omega), if_neg (by omega), if_pos (by omega), if_pos (by omega)]; rfl
    | 5, _ => rw [if_neg (by omega), if_neg (by omega), if_pos (by omega), if_pos (by omega)]; rfl
    | 6, _ => rw [if_neg (by omega), if_pos (by omega), if_pos (by omega)]; rfl
    | 7, _ => rw [if_pos (by omega), if_pos (by omega)]; rfl
  · rw [List.getElem_set_ne (by omega)]
    rw [if_neg (by omega), if_neg (by omega), if_neg (by omega), if_neg (by omega), if_neg (by omega), if_neg (by omega), if_neg (by omega), if_neg (by omega)]
    exact hc i hi' j hj
theorem put8_below {B : Nat} {a w : World} {g o : Nat} (h : Below B a w) (hg : B ≤ g) (x : P8) : Below B a (put8 w g o x) :=
  (((((((h.setCell hg _).setCell hg _).setCell hg _).setCell hg _).setCell hg _).setCell hg _).setCell hg _).setCell hg _
theorem setCells_row {g : Nat} {t : TypeId} : ∀ (vs : List Value) (o : Nat) (w : World) (cur : Array Value), w.heap[g]? = some (.cells cur t (0, 0)) → ∃ cur', (w.setCells g o vs).heap[g]? = some (.cells cur' t (0, 0)) ∧ cur'.size = cur.size ∧ ∀ i, i < o → cur'[i]? = cur[i]?
  | [], o, w, cur, h => ⟨cur, h, rfl, fun _ _ => rfl⟩
  | v :: r, o, w, cur, h => by
    obtain ⟨cur', h1, h0, h2⟩ := setCells_row r (o + 1) _ _ (heap_setCell_same w g o cur t v h)
    refine ⟨cur', h1, by simpa using h0, fun i hi => ?_⟩
    rw [h2 i (by omega), Array.getElem?_setIfInBounds, if_neg (by omega)]
theorem setCells_below {B : Nat} {a : World} {g : Nat} (hg : B ≤ g) : ∀ (vs : List Value) (o : Nat) (w : World), Below B a w → Below B a (w.setCells g o vs)
  | [], _, _, h => h
  | v :: r, o, w, h => setCells_below hg r (o + 1) _ (h.setCell hg v)
theorem Rw.cut {w : World} {g off sz : Nat} {R : List P8} (h : Rw w g off sz R) (k : Nat) (vs : List Value) : Rw (w.setCells g (off + k * 8) vs) g off sz (R.take k) := by
  obtain ⟨cur, hg, hsz, hc⟩ := h
  obtain ⟨cur', h1, h0, h2⟩ := setCells_row vs (off + k * 8) w cur hg
  refine ⟨cur', h1, h0.trans hsz, fun i hi j hj => ?_⟩
  rw [List.length_take] at hi
  rw [h2 _ (by omega), List.getElem_take]
  exact hc i (by omega) j hj
theorem Rw.isSome {w : World} {g off sz : Nat} {R : List P8} (h : Rw w g off sz R) (k : Nat) (hk : k ≤ R.length) : ∀ j, j < (R.length - k) * 8 → (w.cell? ⟨g, off + k * 8 + j, none⟩).isSome = true := by
  intro j hj
  have hlt : k + j / 8 < R.length := by omega
  have := (h.at (k + j / 8) hlt).cell (j % 8) (by omega)
  rw [show off + (k + j / 8) * 8 + j % 8 = off + k * 8 + j by omega] at this
  rw [this, List.getElem?_eq_getElem (by rw [show (enc8 R[k + j / 8]).length = 8 from rfl]; omega)]
  rfl
/-- clear, at the end of a row. -/
theorem run_clear8 {w : World} {g off sz : Nat} {R : List P8} (h : Rw w g off sz R) (k : Nat) (hk : k < R.length) (n : Nat) (hn : R.length = n) :
    ∃ vs, ∀ (ty : TypeId) (c : Nat), (Builtin.clear_ #[37] ty #[.slice (some ⟨g, off + k * 8, none⟩) (n - k) c]).run Try.prog w = .ok (.tuple #[]) (w.setCells g (off + k * 8) vs) := by
  subst hn
  obtain ⟨m, hm⟩ : ∃ m, R.length - k = m + 1 := ⟨R.length - k - 1, by omega⟩
  refine ⟨(Builtin.zeroCells (pk 0 0 0 0 0 0 0 0).cells (R.length - k)).toList, fun ty c => ?_⟩
  have hlen : (Builtin.zeroCells (pk 0 0 0 0 0 0 0 0).cells (R.length - k)).toList.length = (R.length - k) * 8 := by
    simp [Builtin.zeroCells]; rfl
  have hone : ∀ v ∈ (Builtin.zeroCells (pk 0 0 0 0 0 0 0 0).cells (R.length - k)).toList, v.oneCell' = true := by
    intro v hv
    simp only [Builtin.zeroCells, Array.toList_map, List.mem_map] at hv
    obtain ⟨i, _, rfl⟩ := hv
    have hi : i % (pk 0 0 0 0 0 0 0 0).cells.size < 8 := Nat.mod_lt _ (by decide)
    generalize i % (pk 0 0 0 0 0 0 0 0).cells.size = r at hi
    match r, hi with
    | 0, _ => rfl
    | 1, _ => rfl
    | 2, _ => rfl
    | 3, _ => rfl
    | 4, _ => rfl
    | 5, _ => rfl
    | 6, _ => rfl
    | 7, _ => rfl
  have hst := run_storeCells_cells (P := Try.prog) g (off + k * 8) (Builtin.zeroCells (pk 0 0 0 0 0 0 0 0).cells (R.length - k)).toList 0 w (by rw [hlen]; exact h.isSome k (by omega)) (by intro j _; exact h.frz _) hone
  simp only [Nat.add_zero] at hst
  have hv : ∀ w, (zeroValue 25).run Try.prog w = .ok (pk 0 0 0 0 0 0 0 0) w := Try.zeroValue25
  rw [hm] at hst ⊢
  generalize hZ : (Builtin.zeroCells (pk 0 0 0 0 0 0 0 0).cells (m + 1)).toList = Z at hst ⊢
  clear hlen hone
  simp only [Builtin.clear_]
  simp [run_underlying Try.underlying37, hv, hZ, hst]

section
variable [Inhabited P8]
/-- The row after the sort. -/
theorem heap_sortedK {w : World} {g n : Nat} {os : Array Obj} {cur : Array Value} {e : TypeId} {fr : Nat × Nat} (d : Array P8) (hb : w.heap[g]? = some (.cells cur e fr)) :
    (sortWorldK enc8 8 w g 0 n d os).heap[g]? = some (.cells (putCells id 0 (flatK enc8 8 d) cur) e fr) := by
  have hg : g < w.heap.size := (Array.getElem?_eq_some_iff.1 hb).1
  unfold sortWorldK putRowK
  rw [Sort.heap_grow_old _ _ (by simpa using hg)]
  simp [putRow, mapBlock, Sort.ahead, Array.getElem?_modify, hb, onCells]
theorem below_sortedK {B : Nat} {a w : World} {g n : Nat} {os : Array Obj} (d : Array P8) (h : Below B a w) (hB : B ≤ g) (hgw : g < w.heap.size) : Below B a (sortWorldK enc8 8 w g 0 n d os) := by
  refine h.trans ⟨rfl, rfl, rfl, by simp [sortWorldK, putRowK, Sort.ahead], fun k hk => ?_⟩
  unfold sortWorldK putRowK
  have hk2 : k < w.heap.size := by omega
  rw [Sort.heap_grow_old _ _ (by simpa using hk2)]
  have : g ≠ k := by omega
  simp [putRow, mapBlock, Sort.ahead, Array.getElem?_modify, this]
theorem flatK_get8 (L : List P8) (i : Nat) (h : i < L.length) (j : Nat) (hj : j < 8) : (flatK enc8 8 L.toArray)[i * 8 + j]! = ((enc8 L[i])[j]?).getD default := by
  rw [get_flatK _ _ _ _ (by simp; omega), show (i * 8 + j) / 8 = i by omega, show (i * 8 + j) % 8 = j by omega]
  simp [h]
theorem rw_sorted {w : World} {g n sz : Nat} {os : Array Obj} {R D : List P8} (h : Rw w g 0 sz R) (hl : D.length = R.length) : Rw (sortWorldK enc8 8 w g 0 n D.toArray os) g 0 sz D := by
  obtain ⟨cur, hg, hsz, hc⟩ := h
  refine ⟨_, heap_sortedK _ hg, by simpa [putCells] using hsz, fun i hi j hj => ?_⟩
  have hin : i * 8 + j < cur.size := by
    have := hc i (by omega) j hj
    rcases Nat.lt_or_ge (0 + i * 8 + j) cur.size with hh | hh
    · omega
    · rw [Array.getElem?_eq_none hh, List.getElem?_eq_getElem (by rw [show (enc8 _).length = 8 from rfl]; omega)] at this
      cases this
  have e := flatK_get8 D i hi j hj
  rw [show 0 + i * 8 + j = i * 8 + j by omega]
  have hl8 : (enc8 D[i]).length = 8 := rfl
  rw [List.getElem?_eq_getElem (by omega)] at e ⊢
  simp only [Option.getD_some] at e
  have hlt : i * 8 + j < D.length * 8 := by omega
  have hsz : i * 8 + j < (flatK enc8 8 D.toArray).size := by simpa using hlt
  rw [getElem!_pos (flatK enc8 8 D.toArray) (i * 8 + j) hsz] at e
  simp [putCells, hin, hlt, e]
theorem holds_of_rw {w : World} {g sz : Nat} {R : List P8} (h : Rw w g 0 sz R) : HoldsK enc8 8 w g 0 R.toArray := by
  intro t ht
  rw [size_flatK] at ht
  have ht' : t < R.length * 8 := by simpa using ht
  refine ⟨?_, h.frz _⟩
  have hi : t / 8 < R.length := by omega
  have hc := (h.at (t / 8) hi).cell (t % 8) (by omega)
  have e := flatK_get8 R (t / 8) hi (t % 8) (by omega)
  rw [show t / 8 * 8 + t % 8 = t by omega] at e
  rw [show 0 + t / 8 * 8 + t % 8 = 0 + t by omega] at hc
  rw [hc, e]
  have hl8 : (enc8 R[t / 8]).length = 8 := rfl
  rw [List.getElem?_eq_getElem (by omega)]
  rfl

theorem cmpLays27 (blk off size : Nat) (w : World) : CmpLays Try.prog 64 #[] enc8 8 cf blk off size w :=
  fun _ _ _ _ x y => cmp27 x y _
end
/-- slices.SortFunc at a row of the call's own. -/
theorem sort40 (g cap sz : Nat) (R : List P8) (w : World) (h : Rw w g 0 sz R) (hlen : R.length ≤ 1000) (B : Nat) (hB : B ≤ g) :
    Calls Try.prog 63 #[.slice (some ⟨g, 0, none⟩) R.length cap, .func (.func 64) #[] #[]] w fun e w' => e = .returned (.tuple #[]) ∧ Rw w' g 0 sz (R.mergeSort fun x y => !(ltOf cf) y x) ∧ (∀ a, Below B a w → Below B a w') := by
  have hblk : g < w.heap.size := by obtain ⟨cur, hg, _⟩ := h; exact (Array.getElem?_eq_some_iff.1 hg).1
  haveI : Inhabited P8 := ⟨⟨0, 0, 0, 0, 0, 0, 0, 0⟩⟩
  have hcon := AnyQ.slices_SortFunc_total Try.sortP 8 Try.isAgg25 Try.sizeOf25 enc8 (fun _ => rfl) enc8_one cf swo_cf 64 #[] g 0 cap R.toArray w (enters_of Try.func64 (by kernel_rfl) rfl) (cmpLays27 g 0 _ w) (holds_of_rw h) hblk (by simp; omega) tot_cf
  change Calls Try.prog 63 _ _ _ at hcon
  rw [show R.toArray.size = R.length by simp, show R.toArray.toList = R by simp] at hcon
  refine hcon.mono fun e w' ⟨he, n, os, hw⟩ => ⟨he, ?_, fun a hb => ?_⟩
  · rw [hw]; exact rw_sorted h (List.length_mergeSort R)
  · rw [hw]; exact below_sortedK _ hb hB hblk
theorem sort40_none (p : Option Addr) (cap : Nat) (fv : Value) (w : World) : Calls Try.prog 63 #[.slice p 0 cap, fv] w fun e w' => e = .returned (.tuple #[]) ∧ w' = w :=
  AnyF.slices_SortFunc_none Try.sortP p cap fv w

set_option maxRecDepth 100000 in
set_option maxHeartbeats 1000000 in
theorem clone39 (ad : Addr) (cap : Nat) (L : List P8) (w : World) (hlen : L.length ≤ 1000) (hc : ∀ j u, (flat8 L)[j]? = some u → w.cell? (ad.add j) = some u) :
    Calls Try.prog 62 #[.slice (some ad) L.length cap] w fun e w' => ∃ v', e = .returned v' ∧ w'.ownsRow w.heap.size 25 8 v' L.length (flat8 L) ∧ v' ≠ .slice none 0 0 ∧ Below w.heap.size w w' := by
  obtain ⟨i0, hi, hz0, hz1, hz2⟩ := info_parts info24'
  have q46 : ∀ (w : World) (a : Option Addr) (n c n' c' : Nat), (binOp .eql 37 (.slice a n c) (.slice none n' c')).run Try.prog w = .ok (.bool a.isNone) w := fun w a n c n' c' => Lib.run_eql_slice_nil w _ _ a n c n' c' Try.underlying37
  have hlf := flat8_length L
  have hone : ∀ u ∈ flat8 L, u.oneCell' = true := by
    intro u hu
    obtain ⟨x, _, hx⟩ := List.mem_flatMap.1 hu
    exact enc8_one x u hx
  generalize flat8 L = news at *
  have HC : Hid (∀ j u, news[j]? = some u → w.cell? (ad.add j) = some u) := hc
  clear hc
  go_enter Try.func62, Try.ntmps62
  go_wp2_with (at_builtin; refine wpList_append_own _ rfl _ _ 37 rfl w.heap.size 25 i0 (pk 0 0 0 0 0 0 0 0) 8 16 Try.underlying37 hi hz0 hz1 hz2 rfl (by decide) _ _ _ rfl (World.ownsRow_made w #[] 0 (Nat.le_refl _) (Nat.zero_le _) (by simp)) ad L.length cap news rfl ?qc1 ?qc2 ?qc3 ?qc4 ?qc5 ?qc6 ?_)
  case qc1 => exact hlf
  case qc2 =>
    intro j u hj
    exact Lib.cell?_alloc_some _ (HC.out j u hj)
  case qc3 => exact hone
  case qc4 => unfold maxLen; omega
  case qc5 => omega
  case qc6 => simp
  intro v' w1 hown hgrow hnil
  go_wp2
  go_ret
  refine ⟨v', rfl, by simpa using hown, ?_, ?_⟩
  · exact hnil
  · exact ((Below.refl _ w).alloc (Nat.le_refl _) _).grown hgrow (by simp) (by intro k hk; simp [Value.ownBlock] at hk; omega)
theorem clone39_nil (n c : Nat) (w : World) : Calls Try.prog 62 #[.slice none n c] w fun e w' => e = .returned (.slice none 0 0) ∧ w' = w := by
  have q46 : ∀ (w : World) (a : Option Addr) (n c n' c' : Nat), (binOp .eql 37 (.slice a n c) (.slice none n' c')).run Try.prog w = .ok (.bool a.isNone) w := fun w a n c n' c' => Lib.run_eql_slice_nil w _ _ a n c n' c' Try.underlying37
  go_enter Try.func62, Try.ntmps62
  go_wp2
  go_ret
  exact ⟨rfl, rfl⟩
end Go.Proofs.Ytbcikkofbdfmaaa
