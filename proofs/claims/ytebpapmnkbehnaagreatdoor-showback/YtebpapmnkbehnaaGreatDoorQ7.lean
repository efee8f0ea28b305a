/- What slices.Insert answers of one pair within a list; no conditions. -/
import Derived.Test.YtebpapmnkbehnaaGreatDoorQ2
import Derived.Shelf.Spec.SlicesInsertGrow
import Derived.Laws.CopyRow
set_option linter.unusedVariables false
set_option linter.unusedSimpArgs false
namespace Go.Proofs.YtebpapmnkbehnaaGreatDoor
open Go.RowKit Go.Joins Go.Lib

theorem flat2_len (xs : List Pr) : (flat2 xs).length = xs.length * 2 := by
  induction xs with
  | nil => rfl
  | cons x r ih => simp only [flat2, List.flatMap_cons, List.length_append, List.length_cons] at ih ⊢; rw [ih]; simp [enc2]; omega
theorem flat2_take : ∀ (m : Nat) (xs : List Pr), flat2 (xs.take m) = (flat2 xs).take (m * 2)
  | 0, xs => by simp [flat2]
  | m + 1, [] => by simp [flat2]
  | m + 1, x :: r => by
    have ih := flat2_take m r
    simp only [flat2, List.take_succ_cons, List.flatMap_cons] at ih ⊢
    rw [ih, List.take_append]
    have h1 : (enc2 x).length = 2 := rfl
    rw [List.take_of_length_le (l := enc2 x) (by omega), h1, show (m + 1) * 2 - 2 = m * 2 by omega]
theorem flat2_drop (m : Nat) (xs : List Pr) : flat2 (xs.drop m) = (flat2 xs).drop (m * 2) := by
  have h := flat2_append (xs.take m) (xs.drop m)
  rw [List.take_append_drop, flat2_take] at h
  exact (List.append_cancel_left (h.symm.trans (List.take_append_drop (m * 2) (flat2 xs)).symm))
theorem flat2_ones (xs : List Pr) : ∀ u ∈ flat2 xs, u.oneCell' = true := by
  intro u hu
  unfold flat2 at hu
  obtain ⟨x, hx, hu⟩ := List.mem_flatMap.1 hu
  exact enc2_one x u hu
/-- copy of k elements of some cells each, into a row that is known. -/
theorem run_copy_rowK {P : Program} (w : World) (dT sT ty elem : TypeId) (g o dLen dCap : Nat) (a : Addr) (sLen sCap : Nat) (cur : Array Value) (t : TypeId) (cs : List Value) (size k : Nat)
    (hu : P.underlying dT = some (.slice elem)) (hs : (P.info? elem).map (·.size) = some size)
    (hg : w.heap[g]? = some (.cells cur t (0, 0))) (hk : Nat.min sLen dLen = k) (hn : cs.length = k * size)
    (hsrc : ∀ j v, cs[j]? = some v → w.cell? (a.add j) = some v) (hfit : o + cs.length ≤ cur.size) (h1 : ∀ v ∈ cs, v.oneCell' = true) :
    (Builtin.copy_ #[dT, sT] ty #[.slice (some ⟨g, o, none⟩) dLen dCap, .slice (some a) sLen sCap]).run P w =
      .ok (goInt k) (w.setRow g (cur.toList.take o ++ cs ++ cur.toList.drop (o + cs.length)).toArray) := by
  have hl := run_loadCells_list (P := P) w a cs hsrc
  have hst := run_storeCells_at P g o t cs 0 cur w hg (by simpa using hfit) h1
  cases hq : P.info? elem with
  | none => simp [hq] at hs
  | some i =>
    have hi : i.size = size := by simpa [hq] using hs
    simp [Builtin.copy_, run_underlying hu, Builtin.lenOf, Builtin.firstCells, sizeOf, typeInfo, hq, hi, hk, ← hn, hl, hst]
theorem size55 : (Tryz.prog.info? 64).map (·.size) = some 2 := by kernel_rfl
/-- What a row of pairs becomes. -/
theorem ins_row (l : List Pr) (c : Pr) (k : Nat) (hk : k ≤ l.length) (cur : List Value) (hc : (l.length + 1) * 2 ≤ cur.length) (ht : cur.take (k * 2) = (flat2 l).take (k * 2)) :
    ((cur.take (k * 2 + 2) ++ flat2 (l.drop k) ++ cur.drop (k * 2 + 2 + (flat2 (l.drop k)).length)).take (k * 2) ++ enc2 c ++ (cur.take (k * 2 + 2) ++ flat2 (l.drop k) ++ cur.drop (k * 2 + 2 + (flat2 (l.drop k)).length)).drop (k * 2 + (enc2 c).length)).take ((l.length + 1) * 2) = flat2 (l.take k ++ c :: l.drop k) := by
  have h1 : (enc2 c).length = 2 := rfl
  have h2 : (flat2 (l.drop k)).length = (l.length - k) * 2 := by rw [flat2_len, List.length_drop]
  have e1 : (cur.take (k * 2 + 2) ++ flat2 (l.drop k) ++ cur.drop (k * 2 + 2 + (flat2 (l.drop k)).length)).take (k * 2) = flat2 (l.take k) := by
    rw [List.append_assoc, List.take_append_of_le_length (by rw [List.length_take]; omega), List.take_take, Nat.min_eq_left (by omega), ht, flat2_take]
  have e2 : (cur.take (k * 2 + 2) ++ flat2 (l.drop k) ++ cur.drop (k * 2 + 2 + (flat2 (l.drop k)).length)).drop (k * 2 + (enc2 c).length) = flat2 (l.drop k) ++ cur.drop (k * 2 + 2 + (flat2 (l.drop k)).length) := by
    have hl : (cur.take (k * 2 + 2)).length = k * 2 + 2 := by rw [List.length_take]; omega
    rw [h1, List.append_assoc, List.drop_left' hl]
  have e3 : flat2 (l.take k ++ c :: l.drop k) = flat2 (l.take k) ++ enc2 c ++ flat2 (l.drop k) := by
    rw [flat2_append, show c :: l.drop k = [c] ++ l.drop k from rfl, flat2_append, flat2_one, List.append_assoc]
  rw [e1, e2, e3, ← List.append_assoc]
  have e4 : (flat2 (l.take k) ++ enc2 c ++ flat2 (l.drop k)).length = (l.length + 1) * 2 := by
    rw [List.length_append, List.length_append, flat2_len, h1, h2, List.length_take]; omega
  exact List.take_left' e4
theorem shape_row {w : World} {g : Nat} {cs : Array Value} {t : TypeId} (h : w.heap[g]? = some (.cells cs t)) : w.shape? g = some (t, cs.size) := by
  simp [World.shape?, h]
theorem overlaps_no (w : World) (g gb o lb cb : Nat) (c : Pr) (cur : Array Value) (hg : w.heap[g]? = some (cobj c)) (hgb : w.heap[gb]? = some (.cells cur 64)) (hne : g ≠ gb) (hcs : cur.size ≠ 0) :
    (callFunc 128 #[.slice (some ⟨g, 0, none⟩) 1 1, .slice (some ⟨gb, o, none⟩) lb cb]).run Tryz.prog w = .ok (.value (.bool false)) w := by
  rw [run_callFunc_extern Tryz.func128 (by kernel_rfl) (by kernel_rfl) (by kernel_rfl) (e := Extern.SlicesOverlaps.overlaps #[46, 46] #[4]) (by kernel_rfl),
    Lib.run_overlaps_apart w 46 4 64 Tryz.underlying46 2 (fun w => by kernel_rfl) ⟨g, 0, none⟩ ⟨gb, o, none⟩ 1 1 lb cb hne 64 64 2 cur.size (by rw [shape_row hg]; rfl) (shape_row hgb) hcs (frozen_of_row w g 0 _ _ hg) (frozen_of_row w g 2 _ _ hg)]
  rfl
set_option maxRecDepth 100000 in
set_option maxHeartbeats 4000000 in
/-- One pair within a list that has room. -/
theorem insert_room (l : List Pr) (c : Pr) (gb cap k g lo : Nat) (hk : k < l.length) (hroom : l.length + 1 ≤ cap) (hl : l.length ≤ 10000) (w : World) (ho : w.ownsRow lo 64 2 (.slice (some ⟨gb, 0, none⟩) l.length cap) l.length (flat2 l)) (hg : w.heap[g]? = some (cobj c)) (hne : g ≠ gb) :
    Calls Tryz.prog 108 #[.slice (some ⟨gb, 0, none⟩) l.length cap, .int .i64 (k : Int), .slice (some ⟨g, 0, none⟩) 1 1] w fun e w' => e = .returned (.slice (some ⟨gb, 0, none⟩) (l.length + 1) cap) ∧
      w'.ownsRow lo 64 2 (.slice (some ⟨gb, 0, none⟩) (l.length + 1) cap) (l.length + 1) (flat2 (l.take k ++ c :: l.drop k)) ∧ w.grownBy w' (some gb) := by
  rcases ho.2 with ⟨hv, hn⟩ | ⟨gb', cap', cur, hv, hB, hgg, hcap, hmax, hsz, htk⟩
  · cases hv
  · simp only [Value.slice.injEq, Option.some.injEq, Addr.mk.injEq, and_true, true_and] at hv
    obtain ⟨rfl, rfl⟩ := hv
    have hov : ∀ o lb cb, (callFunc 128 #[.slice (some ⟨g, 0, none⟩) 1 1, .slice (some ⟨gb, o, none⟩) lb cb]).run Tryz.prog w = .ok (.value (.bool false)) w := fun o lb cb => overlaps_no w g gb o lb cb c cur hg hgg hne (by omega)
    have hcx : cap ≤ 9223372036854775807 := by unfold maxLen at hmax; omega
    obtain ⟨n, en⟩ : ∃ n, l.length = n := ⟨_, rfl⟩
    rw [en] at hk hroom hl hcap htk ⊢
    have HN : Hid (l.length = n) := en
    have hw1 : IntKind.i64.wrap ((n : Int) + 1) = (n : Int) + 1 := wr64 _ (by omega) (by omega)
    have hw2 : IntKind.i64.wrap ((k : Int) + 1) = (k : Int) + 1 := wr64 _ (by omega) (by omega)
    have htn : ((k : Int) + 1).toNat = k + 1 := by omega
    have htm : ((n : Int) + 1).toNat = n + 1 := by omega
    have hb2 : ¬ (cap = k + 1) := by omega
    have hb1 : (0 : Int) ≤ (k : Int) + 1 := by omega
    have hin : k ≤ n := by omega
    have hb3 : (k : Int) ≤ (n : Int) + 1 := by omega
    have hb4 : ¬ (cap = k) := by omega
    have d1 : ((k : Int) == (n : Int)) = false := by simp; omega
    have hdl : (flat2 (l.drop k)).length = (n - k) * 2 := by rw [flat2_len, List.length_drop, en]
    have hcl : cur.toList.length = cap * 2 := by rw [Array.length_toList]; exact hsz
    have hol : ∀ j u, (flat2 l)[j]? = some u → w.cell? ⟨gb, j, none⟩ = some u := fun j u hj => by
      have hjl : j < n * 2 := by rw [← en, ← flat2_len]; exact (List.getElem?_eq_some_iff.1 hj).1
      rw [cell_of_row w gb j cur 64 (0, 0) hgg, ← Array.getElem?_toList]
      rw [← htk, List.getElem?_take_of_lt hjl] at hj
      exact hj
    obtain ⟨R1, hR1⟩ : ∃ R1 : List Value, R1 = cur.toList.take ((k + 1) * 2) ++ flat2 (l.drop k) ++ cur.toList.drop ((k + 1) * 2 + (flat2 (l.drop k)).length) := ⟨_, rfl⟩
    have hcp1 : ∀ ty dc sc, (Builtin.copy_ #[46, 46] ty #[.slice (some ⟨gb, (k + 1) * 2, none⟩) (n - k) dc, .slice (some ⟨gb, k * 2, none⟩) (n + 1 - k) sc]).run Tryz.prog w.drew = .ok (goInt ((n - k : Nat) : Int)) (w.drew.setRow gb R1.toArray) := fun ty dc sc => by
      rw [hR1]
      exact run_copy_rowK w.drew 46 46 ty 64 gb ((k + 1) * 2) (n - k) dc ⟨gb, k * 2, none⟩ (n + 1 - k) sc cur 64 (flat2 (l.drop k)) 2 (n - k) Tryz.underlying46 size55 hgg (by simp only [Nat.min_def]; split <;> omega) hdl
        (fun j u hj => by rw [Addr.add_lit]; exact hol _ u (by rw [flat2_drop, List.getElem?_drop] at hj; exact hj)) (by rw [hdl, hsz]; omega) (flat2_ones _)
    obtain ⟨W1, hW1⟩ : ∃ W1, W1 = w.drew.setRow gb R1.toArray := ⟨_, rfl⟩
    rw [← hW1] at hcp1
    have hg1 : W1.heap[gb]? = some (.cells R1.toArray 64) := by rw [hW1]; exact setRow_heap w.drew gb cur _ 64 _ hgg
    have hgr1 : w.grownBy W1 (some gb) := by
      rw [hW1]
      exact ⟨rfl, rfl, rfl, by simp, fun b _ hb => setRow_other w.drew gb b _ (fun e => hb (by simp [e]))⟩
    have hgc : W1.heap[g]? = some (cobj c) := (hgr1.block g (heap_lt hg) (fun e => hne (Option.some.inj e))).trans hg
    have hR1l : R1.length = cap * 2 := by
      rw [hR1, List.length_append, List.length_append, List.length_take, List.length_drop, hdl, hcl]; omega
    obtain ⟨R2, hR2⟩ : ∃ R2 : List Value, R2 = R1.take (k * 2) ++ enc2 c ++ R1.drop (k * 2 + (enc2 c).length) := ⟨_, rfl⟩
    have hcp2 : ∀ ty dc, (Builtin.copy_ #[46, 46] ty #[.slice (some ⟨gb, k * 2, none⟩) (n + 1 - k) dc, .slice (some ⟨g, 0, none⟩) 1 1]).run Tryz.prog W1 = .ok (goInt 1) (W1.setRow gb R2.toArray) := fun ty dc => by
      rw [hR2]
      have hgc' := fun j => cell_of_row W1 g j _ 64 (0, 0) hgc
      have := run_copy_rowK W1 46 46 ty 64 gb (k * 2) (n + 1 - k) dc ⟨g, 0, none⟩ 1 1 R1.toArray 64 (enc2 c) 2 1 Tryz.underlying46 size55 hg1 (by simp only [Nat.min_def]; split <;> omega) rfl
        (fun j u hj => by rw [Addr.add_lit, Nat.zero_add, hgc' j]; simpa [enc2] using hj) (by show k * 2 + 2 ≤ R1.toArray.size; simp only [List.size_toArray]; omega) (enc2_one c)
      simpa using this
    have hrow : R2.take ((n + 1) * 2) = flat2 (l.take k ++ c :: l.drop k) := by
      rw [hR2, hR1, ← en, show (k + 1) * 2 = k * 2 + 2 by omega]
      exact ins_row l c k (by omega) cur.toList (by omega) (by rw [← htk, List.take_take, Nat.min_eq_left (by omega)])
    have HF : Hid ((W1.setRow gb R2.toArray).ownsRow lo 64 2 (.slice (some ⟨gb, 0, none⟩) (n + 1) cap) (n + 1) (flat2 (l.take k ++ c :: l.drop k)) ∧ w.grownBy (W1.setRow gb R2.toArray) (some gb)) := by
      refine ⟨⟨?_, .inr ⟨gb, cap, R2.toArray, rfl, hB, setRow_heap W1 gb _ _ 64 _ hg1, hroom, hmax, ?_, by simpa using hrow⟩⟩, ?_⟩
      · rw [flat2_len, List.length_append, List.length_cons, List.length_take, List.length_drop, en]; omega
      · have h2 : (enc2 c).length = 2 := rfl
        simp only [List.size_toArray]
        rw [hR2, List.length_append, List.length_append, List.length_take, List.length_drop, h2]; omega
      · exact hgr1.trans ⟨rfl, rfl, rfl, by simp, fun b _ hb => setRow_other W1 gb b _ (fun e => hb (by simp [e]))⟩
    clear ho en hol hR1 hR2 hW1 hg1 hgr1 hgc hR1l hrow hdl hcl htk hsz hgg hg
    go_enter Tryz.func108, Tryz.ntmps108
    go_wp2_with (simp only [hov])
    have mixed : Tryz.prog.follows Departure.mixedOrders = true := by kernel_rfl
    go_region_law_o (refine step_copy_runI rfl _ _ 46 46 rfl (.slice (some ⟨gb, (k + 1) * 2, none⟩) (n - k) (cap - (k + 1))) (.slice (some ⟨gb, k * 2, none⟩) (n + 1 - k) (cap - k)) (by simp [Act.eval, Act.put]) (by simp [Act.eval, Act.put]) (hcp1 _ _ _) ?_)
    go_wp2_with (at_builtin; refine wpList_copy_runI _ rfl _ _ 46 46 rfl _ _ rfl rfl (hcp2 _ _) ?_)
    go_ret
    exact ⟨rfl, HF.out⟩
theorem grow_row (l : List Pr) (c : Pr) (k : Nat) (hk : k ≤ l.length) (R : List Value) (hc : (l.length + 1) * 2 ≤ R.length) (ht : R.take (k * 2) = flat2 (l.take k)) :
    ((R.take (k * 2) ++ enc2 c ++ R.drop (k * 2 + (enc2 c).length)).take (k * 2 + 2) ++ flat2 (l.drop k) ++ (R.take (k * 2) ++ enc2 c ++ R.drop (k * 2 + (enc2 c).length)).drop (k * 2 + 2 + (flat2 (l.drop k)).length)).take ((l.length + 1) * 2) = flat2 (l.take k ++ c :: l.drop k) := by
  have h1 : (enc2 c).length = 2 := rfl
  have h2 : (flat2 (l.drop k)).length = (l.length - k) * 2 := by rw [flat2_len, List.length_drop]
  have h3 : (R.take (k * 2)).length = k * 2 := by rw [List.length_take]; omega
  have e1 : (R.take (k * 2) ++ enc2 c ++ R.drop (k * 2 + (enc2 c).length)).take (k * 2 + 2) = flat2 (l.take k) ++ enc2 c := by
    rw [List.take_left' (by rw [List.length_append, h3, h1]), ht]
  have e3 : flat2 (l.take k ++ c :: l.drop k) = flat2 (l.take k) ++ enc2 c ++ flat2 (l.drop k) := by
    rw [flat2_append, show c :: l.drop k = [c] ++ l.drop k from rfl, flat2_append, flat2_one, List.append_assoc]
  rw [e1, e3]
  exact List.take_left' (by rw [List.length_append, List.length_append, flat2_len, h1, h2, List.length_take]; omega)
theorem zero_len (m : Nat) : (Builtin.zeroCells (cv (0, 0)).cells m).size = m * 2 := by
  simp [Builtin.zeroCells, Value.cells]
set_option maxRecDepth 100000 in
set_option maxHeartbeats 4000000 in
/-- One pair within a list that has no room. -/
theorem insert_grow (l : List Pr) (c : Pr) (gb cap k g lo : Nat) (hk : k < l.length) (hroom : cap < l.length + 1) (hl : l.length ≤ 10000) (w : World) (ho : w.ownsRow lo 64 2 (.slice (some ⟨gb, 0, none⟩) l.length cap) l.length (flat2 l)) (hg : w.heap[g]? = some (cobj c)) (hlo : lo ≤ w.heap.size) :
    Calls Tryz.prog 108 #[.slice (some ⟨gb, 0, none⟩) l.length cap, .int .i64 (k : Int), .slice (some ⟨g, 0, none⟩) 1 1] w fun e w' => ∃ G, e = .returned (.slice (some ⟨w.heap.size, 0, none⟩) (l.length + 1) G) ∧
      w'.ownsRow lo 64 2 (.slice (some ⟨w.heap.size, 0, none⟩) (l.length + 1) G) (l.length + 1) (flat2 (l.take k ++ c :: l.drop k)) ∧ w.grownBy w' (some gb) := by
  rcases ho.2 with ⟨hv, hn⟩ | ⟨gb', cap', cur, hv, hB, hgg, hcap, hmax, hsz, htk⟩
  · cases hv
  · simp only [Value.slice.injEq, Option.some.injEq, Addr.mk.injEq, and_true, true_and] at hv
    obtain ⟨rfl, rfl⟩ := hv
    obtain ⟨n, en⟩ : ∃ n, l.length = n := ⟨_, rfl⟩
    rw [en] at hk hroom hl hcap htk ⊢
    have hcx : cap ≤ 9223372036854775807 := by unfold maxLen at hmax; omega
    obtain ⟨i0, hi0, hz0, hzs, hzb⟩ := info_parts info55
    have hbw := heap_lt hgg
    have hgw := heap_lt hg
    have hdl : (flat2 (l.drop k)).length = (n - k) * 2 := by rw [flat2_len, List.length_drop, en]
    have htl : (flat2 (l.take k)).length = k * 2 := by rw [flat2_len, List.length_take, en]; omega
    have hol : ∀ j u, (flat2 l)[j]? = some u → w.cell? ⟨gb, j, none⟩ = some u := fun j u hj => by
      have hjl : j < n * 2 := by rw [← en, ← flat2_len]; exact (List.getElem?_eq_some_iff.1 hj).1
      rw [cell_of_row w gb j cur 64 (0, 0) hgg, ← Array.getElem?_toList]
      rw [← htk, List.getElem?_take_of_lt hjl] at hj
      exact hj
    have hold : (Builtin.firstCells i0.size k (.slice (some ⟨gb, 0, none⟩) k cap)).run Tryz.prog w.drew = .ok (flat2 (l.take k)).toArray w.drew := by
      rw [hzs]
      exact run_firstCells_some w.drew 2 k ⟨gb, 0, none⟩ k cap (flat2 (l.take k)) htl (fun j u hj => by
        rw [Addr.add_lit, Nat.zero_add]
        rw [flat2_take, List.getElem?_take] at hj
        split at hj
        · exact hol j u hj
        · cases hj)
    have hkk : (n : Int) + 1 - (k : Int) = ((n + 1 - k : Nat) : Int) := by omega
    have hik : k + (n + 1 - k) = n + 1 := by omega
    have hrz : ∀ ty, (Builtin.append_ #[46, 3] ty #[.slice (some ⟨gb, 0, none⟩) k cap, .int .i64 ((n : Int) + 1 - (k : Int))]).run Tryz.prog w =
        .ok (.slice (some ⟨w.heap.size, 0, none⟩) (n + 1) (grownCap w (n + 1) cap 64)) (w.drew.alloc (.cells ((flat2 (l.take k)).toArray ++ Builtin.zeroCells (cv (0, 0)).cells (n + 1 - k) ++ Builtin.zeroCells (cv (0, 0)).cells (grownCap w (n + 1) cap 64 - (n + 1))) 64)) := fun ty => by
      have h := Lib.run_append_grow_zeros w 46 3 ty 64 i0 _ .i64 .i64 Tryz.underlying46 Tryz.underlying3 hi0 hz0 (some ⟨gb, 0, none⟩) k cap (flat2 (l.take k)) hold (n + 1 - k) (by omega) (by omega) (by omega) (by omega) (by rw [hzb]; omega) (by rw [hzb, hik]; exact growslice_fits hroom (by omega))
      rw [hik] at h
      rw [hkk]
      exact h
    obtain ⟨G, hG⟩ : ∃ G, G = grownCap w (n + 1) cap 64 := ⟨_, rfl⟩
    obtain ⟨R, hR⟩ : ∃ R : Array Value, R = (flat2 (l.take k)).toArray ++ Builtin.zeroCells (cv (0, 0)).cells (n + 1 - k) ++ Builtin.zeroCells (cv (0, 0)).cells (G - (n + 1)) := ⟨_, rfl⟩
    rw [← hG, ← hR] at hrz
    have hGn : n + 1 ≤ G := by rw [hG]; exact grownCap_ge w _ _ _
    have hGm : G ≤ maxLen := by rw [hG]; exact grownCap_le_maxLen w (n + 1) cap 64 (by unfold maxLen; omega)
    have hG63 : G ≤ 9223372036854775807 := by unfold maxLen at hGm; omega
    have hRl : R.size = G * 2 := by rw [hR, Array.size_append, Array.size_append, zero_len, zero_len, List.size_toArray, htl]; omega
    have hRt : R.toList.take (k * 2) = flat2 (l.take k) := by
      rw [hR, Array.toList_append, Array.toList_append, List.append_assoc]
      exact List.take_left' htl
    obtain ⟨W1, hW1⟩ : ∃ W1, W1 = w.drew.alloc (.cells R 64) := ⟨_, rfl⟩
    rw [← hW1] at hrz
    have hs0 : w.drew.heap.size = w.heap.size := rfl
    have h1r : W1.heap[w.heap.size]? = some (.cells R 64) := by rw [hW1]; exact heap_alloc_new w.drew _
    have h1o : ∀ b, b < w.heap.size → W1.heap[b]? = w.heap[b]? := fun b hb => by rw [hW1]; exact Below.heap_alloc w.drew _ _ hb
    have hgr1 : w.grownBy W1 (some gb) := ⟨by rw [hW1]; rfl, by rw [hW1]; rfl, by rw [hW1]; rfl, by rw [hW1]; simp [hs0], fun b hb _ => h1o b hb⟩
    obtain ⟨R1, hR1⟩ : ∃ R1 : List Value, R1 = R.toList.take (k * 2) ++ enc2 c ++ R.toList.drop (k * 2 + (enc2 c).length) := ⟨_, rfl⟩
    have hcA : ∀ ty dc, (Builtin.copy_ #[46, 46] ty #[.slice (some ⟨w.heap.size, k * 2, none⟩) (n + 1 - k) dc, .slice (some ⟨g, 0, none⟩) 1 1]).run Tryz.prog W1 = .ok (goInt 1) (W1.setRow w.heap.size R1.toArray) := fun ty dc => by
      rw [hR1]
      have hgc' := fun j => cell_of_row W1 g j _ 64 (0, 0) ((h1o g hgw).trans hg)
      have := run_copy_rowK W1 46 46 ty 64 w.heap.size (k * 2) (n + 1 - k) dc ⟨g, 0, none⟩ 1 1 R 64 (enc2 c) 2 1 Tryz.underlying46 size55 h1r (by simp only [Nat.min_def]; split <;> omega) rfl
        (fun j u hj => by rw [Addr.add_lit, Nat.zero_add, hgc' j]; simpa [enc2] using hj) (by show k * 2 + 2 ≤ R.size; omega) (enc2_one c)
      simpa using this
    obtain ⟨W2, hW2⟩ : ∃ W2, W2 = W1.setRow w.heap.size R1.toArray := ⟨_, rfl⟩
    rw [← hW2] at hcA
    have h2r : W2.heap[w.heap.size]? = some (.cells R1.toArray 64) := by rw [hW2]; exact setRow_heap W1 w.heap.size R _ 64 _ h1r
    have h2o : ∀ b, b < w.heap.size → W2.heap[b]? = w.heap[b]? := fun b hb => by rw [hW2, setRow_other W1 w.heap.size b _ (by omega)]; exact h1o b hb
    have hgr2 : w.grownBy W2 (some gb) := ⟨by rw [hW2]; exact hgr1.os, by rw [hW2]; exact hgr1.tape, by rw [hW2]; exact hgr1.output, by rw [hW2]; simpa using hgr1.size, fun b hb _ => h2o b hb⟩
    have hR1l : R1.length = G * 2 := by
      have h2 : (enc2 c).length = 2 := rfl
      rw [hR1, List.length_append, List.length_append, List.length_take, List.length_drop, h2, Array.length_toList]; omega
    obtain ⟨R2, hR2⟩ : ∃ R2 : List Value, R2 = R1.take ((k + 1) * 2) ++ flat2 (l.drop k) ++ R1.drop ((k + 1) * 2 + (flat2 (l.drop k)).length) := ⟨_, rfl⟩
    have hcB : ∀ ty dc sc, (Builtin.copy_ #[46, 46] ty #[.slice (some ⟨w.heap.size, (k + 1) * 2, none⟩) (n - k) dc, .slice (some ⟨gb, k * 2, none⟩) (n - k) sc]).run Tryz.prog W2.drew = .ok (goInt ((n - k : Nat) : Int)) (W2.drew.setRow w.heap.size R2.toArray) := fun ty dc sc => by
      rw [hR2]
      have := run_copy_rowK W2.drew 46 46 ty 64 w.heap.size ((k + 1) * 2) (n - k) dc ⟨gb, k * 2, none⟩ (n - k) sc R1.toArray 64 (flat2 (l.drop k)) 2 (n - k) Tryz.underlying46 size55 h2r (by simp only [Nat.min_def]; split <;> omega) hdl
        (fun j u hj => by
          rw [Addr.add_lit]
          have hc := hol _ u (by rw [flat2_drop, List.getElem?_drop] at hj; exact hj)
          rw [World.cell?_of_block (w := w) (w' := W2.drew) (h2o gb hbw)]; exact hc) (by rw [hdl]; simp only [List.size_toArray]; omega) (flat2_ones _)
      simpa using this
    have hrow : R2.take ((n + 1) * 2) = flat2 (l.take k ++ c :: l.drop k) := by
      rw [hR2, hR1, ← en, show (k + 1) * 2 = k * 2 + 2 by omega]
      exact grow_row l c k (by omega) R.toList (by rw [show R.toList.length = R.size from Array.length_toList, hRl, en]; omega) hRt
    have HF : Hid ((W2.drew.setRow w.heap.size R2.toArray).ownsRow lo 64 2 (.slice (some ⟨w.heap.size, 0, none⟩) (n + 1) G) (n + 1) (flat2 (l.take k ++ c :: l.drop k)) ∧ w.grownBy (W2.drew.setRow w.heap.size R2.toArray) (some gb)) := by
      refine ⟨⟨?_, .inr ⟨w.heap.size, G, R2.toArray, rfl, hlo, setRow_heap W2.drew w.heap.size _ _ 64 _ h2r, hGn, hGm, ?_, by simpa using hrow⟩⟩, ?_⟩
      · rw [flat2_len, List.length_append, List.length_cons, List.length_take, List.length_drop, en]; omega
      · simp only [List.size_toArray]
        rw [hR2, List.length_append, List.length_append, List.length_take, List.length_drop, hdl]; omega
      · exact ⟨hgr2.os, hgr2.tape, hgr2.output, by have := hgr2.size; simpa using this, fun b hb _ => by rw [setRow_other W2.drew w.heap.size b _ (by omega)]; exact h2o b hb⟩
    have hw1 : IntKind.i64.wrap ((n : Int) + 1) = (n : Int) + 1 := wr64 _ (by omega) (by omega)
    have hw2 : IntKind.i64.wrap ((k : Int) + 1) = (k : Int) + 1 := wr64 _ (by omega) (by omega)
    have hw3 : IntKind.i64.wrap ((n : Int) + 1 - (k : Int)) = (n : Int) + 1 - (k : Int) := wr64 _ (by omega) (by omega)
    have hz3 : (cap : Int) < (n : Int) + 1 := by omega
    have d3 : decide ((cap : Int) < (n : Int) + 1) = true := by simp; omega
    have htn : ((k : Int) + 1).toNat = k + 1 := by omega
    have hGi : ¬ (G = k) := by omega
    have hGim : ¬ (G = k + 1) := by omega
    have hci : ¬ (cap = k) := by omega
    have hb1 : (0 : Int) ≤ (k : Int) + 1 := by omega
    have hin : k ≤ n := by omega
    have hb3 : (k : Int) ≤ (n : Int) := by omega
    have hb5 : (k : Int) ≤ (cap : Int) := by omega
    have d1 : ((k : Int) == (n : Int)) = false := by simp; omega
    have mixed : Tryz.prog.follows Departure.mixedOrders = true := by kernel_rfl
    clear ho en hol hR1 hR2 hW1 hW2 h1r h2r h1o h2o hgr1 hgr2 hR1l hrow hdl htl htk hsz hgg hg hRt hRl hR hG hold hik hkk
    go_enter Tryz.func108, Tryz.ntmps108
    go_wp2_with (first
      | (at_builtin; refine Lib.wpList_append_run _ rfl _ _ _ _ rfl _ _ rfl rfl _ _ (hrz _) ?_)
      | (at_builtin; refine wpList_copy_runI _ rfl _ _ 46 46 rfl _ _ rfl rfl (hcA _ _) ?_))
    go_region_law_o (refine step_copy_runI rfl _ _ 46 46 rfl (.slice (some ⟨w.heap.size, (k + 1) * 2, none⟩) (n - k) (G - (k + 1))) (.slice (some ⟨gb, k * 2, none⟩) (n - k) (cap - k)) (by simp [Act.eval, Act.put]) (by simp [Act.eval, Act.put]) (hcB _ _ _) ?_)
    go_wp2
    go_ret
    exact ⟨G, rfl, HF.out⟩
/-- One pair, wherever. -/
theorem insert_any (l : List Pr) (c : Pr) (v : Value) (lo g k : Nat) (hk : k ≤ l.length) (hl : l.length ≤ 10000) (w : World) (ho : w.ownsRow lo 64 2 v l.length (flat2 l)) (hg : w.heap[g]? = some (cobj c)) (hne : some g ≠ v.ownBlock) (hlo : lo ≤ w.heap.size) :
    Calls Tryz.prog 108 #[v, .int .i64 (k : Int), .slice (some ⟨g, 0, none⟩) 1 1] w fun e w' => ∃ v', e = .returned v' ∧ w'.ownsRow lo 64 2 v' (l.length + 1) (flat2 (l.take k ++ c :: l.drop k)) ∧ w.grownBy w' v.ownBlock ∧ (v'.ownBlock = v.ownBlock ∨ v'.ownBlock = some w.heap.size) := by
  by_cases hkl : k = l.length
  · subst hkl
    have hc : ∀ j u, (enc2 c)[j]? = some u → w.cell? ((⟨g, 0, none⟩ : Addr).add j) = some u := fun j u hj => by
      rw [Addr.add_lit, Nat.zero_add, cell_of_row w g j _ 64 (0, 0) hg]
      simpa [enc2] using hj
    refine (insert_end l c v lo g hl w ho hc hlo).mono ?_
    rintro e w' ⟨v', rfl, h1, h2, h3⟩
    refine ⟨v', rfl, ?_, h2, h3⟩
    rw [List.take_length, List.drop_length]
    simpa using h1
  · obtain ⟨gb, cap, rfl⟩ : ∃ gb cap, v = .slice (some ⟨gb, 0, none⟩) l.length cap := by
      rcases ho.2 with ⟨hv, hn⟩ | ⟨gb, cap, cur, hv, -⟩
      · omega
      · exact ⟨gb, cap, hv⟩
    by_cases hroom : l.length + 1 ≤ cap
    · refine (insert_room l c gb cap k g lo (by omega) hroom hl w ho hg (fun e => hne (by rw [e]; rfl))).mono ?_
      rintro e w' ⟨rfl, h1, h2⟩
      exact ⟨_, rfl, h1, h2, .inl rfl⟩
    · refine (insert_grow l c gb cap k g lo (by omega) (by omega) hl w ho hg hlo).mono ?_
      rintro e w' ⟨G, rfl, h1, h2⟩
      exact ⟨_, rfl, h1, h2, .inr rfl⟩
end Go.Proofs.YtebpapmnkbehnaaGreatDoor
