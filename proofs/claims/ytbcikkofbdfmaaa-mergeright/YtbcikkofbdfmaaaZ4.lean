/- The table of lists, still of the lists handed in: merge.laid; up to 1000 lists of up to 1000 rows. -/
import Derived.Test.YtbcikkofbdfmaaaZ3
set_option linter.unusedVariables false
set_option linter.unusedSimpArgs false
namespace Go.Proofs.Ytbcikkofbdfmaaa
open Go.RowKit Go.Joins Go.Sort

/-- A table of the call's own: two rows of its own; the lists are elder ones. -/
structure LSt (w : World) (zw zl : Value) (t : Tab) (U : List Value) (W : World) : Prop where
  bel : Below w.heap.size w W
  nums : W.ownsRow w.heap.size 3 1 zw t.n.length (t.n.map (Value.int .i64))
  rows : W.ownsRow w.heap.size 43 1 zl t.l.length U
  each : ∀ k (h : k < t.l.length), ∃ u, U[k]? = some u ∧ RowsAt w u t.l[k]
theorem own_base {w : World} {B B' e size n : Nat} {v : Value} {xs : List Value} (h : w.ownsRow B e size v n xs) (hb : B' ≤ B) : w.ownsRow B' e size v n xs := by
  refine ⟨h.1, ?_⟩
  rcases h.2 with hn | ⟨g, cap, cur, rfl, hg, rest⟩
  · exact .inl hn
  · exact .inr ⟨g, cap, cur, rfl, Nat.le_trans hb hg, rest⟩
theorem TSt.laid {w : World} {g : Nat} {zw zl : Value} {t : Tab} {U : List Value} {W : World} (h : TSt w g zw zl t U W) (x y : Value) :
    LSt w zw zl t U ((W.setCell ⟨w.heap.size, 0, none⟩ x).setCell ⟨w.heap.size, 1, none⟩ y) := by
  have hl := h.low
  refine ⟨(h.bel.setCell (p := ⟨w.heap.size, 0, none⟩) (Nat.le_refl _) x).setCell (p := ⟨w.heap.size, 1, none⟩) (Nat.le_refl _) y, ?_, ?_, h.each⟩
  · exact own_base (ownsRow_setCell_below (ownsRow_setCell_below h.nums (a := ⟨w.heap.size, 0, none⟩) (by show w.heap.size < _; omega) x) (a := ⟨w.heap.size, 1, none⟩) (by show w.heap.size < _; omega) y) (by omega)
  · exact own_base (ownsRow_setCell_below (ownsRow_setCell_below h.rows (a := ⟨w.heap.size, 0, none⟩) (by show w.heap.size < _; omega) x) (a := ⟨w.heap.size, 1, none⟩) (by show w.heap.size < _; omega) y) (by omega)
theorem TSt.resL {w : World} {g : Nat} {zw zl : Value} {t : Tab} {U : List Value} {W W' : World} (h : TSt w g zw zl t U W) (gr : W.grownBy W' zl.ownBlock) : W'.heap[w.heap.size]? = some (.cells #[.slice none 0 0, .slice none 0 0] 30) :=
  (gr.block _ (hlt h.res) fun e => by have h1 := (h.rows.lt _ e.symm).1; have h2 := h.low; omega).trans h.res
theorem box1 {w : World} {g : Nat} {u : Value} {t : TypeId} (h : w.heap[g]? = some (.cells #[u] t)) : w.cell? ⟨g, 0, none⟩ = some u := by
  rw [cell_of_row _ _ _ _ _ _ h]; rfl
theorem TSt.grewL {w : World} {g : Nat} {zw zl : Value} {t : Tab} {U : List Value} {W W' : World} (h : TSt w g zw zl t U W) (gr : W.grownBy W' zl.ownBlock) {c : Nat} {u : Value} {e : TypeId} (hc : W.heap[c]? = some (.cells #[u] e)) (hz : zl.ownBlock ≠ some c) :
    (W'.frozen? ⟨g, 0, none⟩ = false ∧ W'.frozen? ⟨g, 1, none⟩ = false) ∧ (W'.cell? ⟨g, 0, none⟩ = some zw ∧ W'.cell? ⟨g, 1, none⟩ = some zl) ∧ (W'.frozen? ⟨w.heap.size, 0, none⟩ = false ∧ W'.frozen? ⟨w.heap.size, 1, none⟩ = false) ∧ (W'.cell? ⟨w.heap.size, 0, none⟩ = some (.slice none 0 0) ∧ W'.cell? ⟨w.heap.size, 1, none⟩ = some (.slice none 0 0)) ∧ W'.cell? ⟨c, 0, none⟩ = some u :=
  ⟨free2 (h.boxL gr), row2 (h.boxL gr), free2 (h.resL gr), row2 (h.resL gr), box1 ((gr.block c (heap_lt hc) fun e => hz e.symm).trans hc)⟩
theorem rowsM_app : ∀ (A B : List Lst), rowsM (A ++ B) = rowsM A + rowsM B
  | [], B => by simp [rowsM]
  | x :: A, B => by rw [List.cons_append, rowsM, rowsM_app A B, rowsM]; omega
theorem ofStep_rows (t : Tab) (x : Lst) : rowsM t.l ≤ rowsM (ofStep t x).l := by
  unfold ofStep
  split
  · exact Nat.le_refl _
  · rw [rowsM_snoc]; exact Nat.le_add_right _ _
theorem foldl_rows : ∀ (T : List Lst) (t : Tab), rowsM t.l ≤ rowsM (T.foldl ofStep t).l
  | [], t => Nat.le_refl _
  | x :: T, t => Nat.le_trans (ofStep_rows t x) (foldl_rows T _)
theorem ofT_rows (T : List Lst) (k : Nat) : rowsM (ofT (T.take k)).l ≤ rowsM (ofT T).l := by
  unfold ofT
  conv => rhs; rw [← List.take_append_drop k T, List.foldl_append]
  exact foldl_rows _ _

set_option maxRecDepth 100000 in
set_option maxHeartbeats 8000000 in
theorem laid_any (v : Value) (T : List Lst) (hT : T.length ≤ 1000) (hR : ∀ x ∈ T, x.length ≤ 1000) (w : World) (h : ListsAt w v T) :
    Calls Try.prog 19 #[v] w fun e w' => (1000 < rowsM (ofT T).l ∧ e = .returned (.tuple #[tv (.slice none 0 0) (.slice none 0 0), .bool false]) ∧ Below w.heap.size w w') ∨
      (rowsM (ofT T).l ≤ 1000 ∧ ∃ zw zl U, e = .returned (.tuple #[tv zw zl, .bool true]) ∧ LSt w zw zl (ofT T) U w') := by
  obtain ⟨i3, hi3, hz30, hz31, hz32⟩ := info_parts info3i
  obtain ⟨i43, hi43, hz430, hz431, hz432⟩ := info_parts info43i
  obtain ⟨sa, sc, rfl, hl, hc⟩ := h
  have HC := hid hc
  have HR1 := hid hR
  obtain ⟨R, hRl⟩ : ∃ R, T.length = R := ⟨_, rfl⟩
  have HRl := hid hRl
  rw [hRl] at hl hT ⊢
  clear hc hR hRl
  have HS0 : Hid (TSt w (w.heap.size + 1) (.slice none 0 0) (.slice none 0 0) ⟨[], []⟩ [] ((w.alloc (.cells #[.slice none 0 0, .slice none 0 0] 30)).alloc (.cells #[.slice none 0 0, .slice none 0 0] 30))) := by
    have h1 := heap_alloc_new w (.cells #[.slice none 0 0, .slice none 0 0] 30)
    have h2 := heap_alloc_new (w.alloc (.cells #[.slice none 0 0, .slice none 0 0] 30)) (.cells #[.slice none 0 0, .slice none 0 0] 30)
    rw [alloc_size] at h2
    have hb : Below (w.alloc (.cells #[.slice none 0 0, .slice none 0 0] 30)).heap.size (w.alloc (.cells #[.slice none 0 0, .slice none 0 0] 30)) ((w.alloc (.cells #[.slice none 0 0, .slice none 0 0] 30)).alloc (.cells #[.slice none 0 0, .slice none 0 0] 30)) := (Below.refl _ _).alloc (Nat.le_refl _) _
    exact ⟨two_below w _ _, h2, Nat.lt_succ_self _, (hb.block _ (hlt h1)).trans h1, World.ownsRow_nil _ _ _ _, World.ownsRow_nil _ _ _ _, fun k hk => absurd hk (by simp)⟩
  go_enter Try.func19, Try.ntmps19
  go_wp2
  go_loopw [5, 12] (fun o i wr => ∃ (k S : Nat) (zw zl : Value) (U : List Value), k ≤ R ∧ o = .int .i64 (S : Int) ∧ i = .int .i64 (k : Int) ∧ S ≤ 1000 ∧ Hid (rowsM (ofT (T.take k)).l = S) ∧ Hid (TSt w (w.heap.size + 1) zw zl (ofT (T.take k)) U wr)) (fun _ i _ => R - (intOf i).toNat)
  case atStart => exact ⟨0, 0, _, _, _, Nat.zero_le _, rfl, rfl, Nat.zero_le _, rfl, HS0⟩
  case round =>
    clear HS0
    obtain ⟨k, S, zw, zl, U, hk, rfl, rfl, hS, HQ, HS⟩ := hrel
    by_cases hlt' : k < R
    · have hltT : k < T.length := by rw [HRl.out]; exact hlt'
      have dk : decide ((k : Int) < (R : Int)) = true := by simp; omega
      have hk1 : (k : Int) < (R : Int) := by omega
      obtain ⟨b, off, rfl, hb, u, hu, hp⟩ := HC.out k hltT
      have HLen := hid (ofT_lens T k (Nat.le_of_lt hltT))
      have HNx := hid (ofT_succ T k hltT)
      have HUp := hid (ofT_rows T (k + 1))
      have hxb := HR1.out _ (List.getElem_mem hltT)
      have HU : Hid (∀ W, Below w.heap.size w W → W.cell? ⟨b, off + k, none⟩ = some u ∧ RowsAt W u T[k]) := fun W hW => ⟨(hW.cell (p := ⟨b, off + k, none⟩) hb).trans hu, hp.below hW⟩
      have HP := hid hp
      obtain ⟨ua, uc, hue, -⟩ := hp.form
      generalize T[k] = X at *
      generalize ofT (T.take k) = t at *
      obtain ⟨hnl, hll⟩ := HLen.out
      generalize hxl : X.length = xl at *
      subst hue
      clear hu hp
      have a0 := (HU.out wr HS.out.bel).1
      have HS1 : Hid (TSt w (w.heap.size + 1) zw zl t U (wr.alloc (.cells #[.slice ua xl uc] 43))) := HS.out.below ((Below.refl _ _).alloc (Nat.le_refl _) _)
      have HG1 : Hid ((wr.alloc (.cells #[.slice ua xl uc] 43)).heap[wr.heap.size]? = some (.cells #[.slice ua xl uc] 43)) := heap_alloc_new wr _
      have hg1 : (wr.alloc (.cells #[.slice ua xl uc] 43)).cell? ⟨wr.heap.size, 0, none⟩ = some (.slice ua xl uc) := by rw [cell_of_row _ _ _ _ _ _ HG1.out]; rfl
      have cF := hid (idx33 zl (.slice ua xl uc) t.l X wr.heap.size _ HS1.out.lists (HU.out _ HS1.out.bel).2 hg1 (hlt HG1.out))
      obtain ⟨b0, b1⟩ := HS1.out.cells
      have HZ : Hid (zl.ownBlock ≠ some wr.heap.size) := fun e => by have h9 := (HS.out.rows.lt _ e).2; omega
      have hne : ¬ (wr.heap.size = w.heap.size + 1) := by have h9 := hlt HS.out.box; omega
      clear HS
      cases hf : findM t.l X with
      | some j =>
        rw [show findI t.l X = (j : Int) from by unfold findI; rw [hf]] at cF
        have dj : decide ((j : Int) < 0) = false := by simp
        have dS : decide ((1000 : Int) < (S : Int)) = false := by simp; omega
        have HT2 : Hid (ofT (T.take (k + 1)) = ⟨t.n ++ [(j : Int)], t.l⟩) := HNx.out.trans (ofStep_some hf)
        have HQ2 : Hid (rowsM (ofT (T.take (k + 1))).l = S) := by show _ = _; rw [HT2.out]; exact HQ.out
        clear hf
        go_wp2_with fail
        refine cF.out.mono ?_
        rintro e W ⟨rfl, hb3⟩
        have HS3 := hid (HS1.out.below hb3)
        have hG3 := (hb3.block _ (hlt HG1.out)).trans HG1.out
        have hg3 : W.cell? ⟨wr.heap.size, 0, none⟩ = some (.slice ua xl uc) := by rw [cell_of_row _ _ _ _ _ _ hG3]; rfl
        clear hb3 hG3 cF b0 b1 hg1 a0
        obtain ⟨b0, b1⟩ := HS3.out.cells
        have hsz := hlt HS3.out.box
        have HS3a : Hid (∀ o, TSt w (w.heap.size + 1) zw zl t U (W.alloc o)) := fun o => HS3.out.below ((Below.refl _ _).alloc (Nat.le_refl _) o)
        go_wp2_with (at_builtin; refine wpList_append_own _ rfl _ _ 28 rfl (w.heap.size + 1 + 1) 3 i3 (.int .i64 0) 1 8 Try.underlying28 hi3 hz30 hz31 hz32 rfl (by decide) zw _ _ rfl ((HS3a.out _).nums) ⟨W.heap.size, 0, none⟩ 1 1 [.int .i64 (j : Int)] rfl rfl (cell_one _ _ _) (fun x hx => by simp at hx; subst hx; rfl) (by unfold maxLen; (try simp); omega) (by (try simp); omega) (by simp; omega) ?_; intro v3 w3 hown3 hgrow3 hnil3; obtain ⟨g3, cap3, rfl, -, -⟩ := hown3.form (by omega); have hbx3 := (HS3a.out _).boxN hgrow3; obtain ⟨f30, f31⟩ := free2 hbx3; obtain ⟨e30, e31⟩ := row2 hbx3)
        have HS4 := hid ((HS3a.out _).pushN hown3 hgrow3)
        rw [← HT2.out, hnl] at HS4
        clear hown3 hgrow3 hnil3 hbx3 b0 b1 hg3 HS3 HS3a
        go_wp2
        go_roundw
        case rel => exact ⟨k + 1, S, _, _, _, by omega, rfl, by go_num, hS, HQ2, HS4⟩
        case measure => simp [intOf]; omega
      | none =>
        rw [show findI t.l X = -1 from by unfold findI; rw [hf]] at cF
        have HT2 : Hid (ofT (T.take (k + 1)) = ⟨t.n ++ [(t.l.length : Int)], t.l ++ [X]⟩) := HNx.out.trans (ofStep_none hf)
        have HQ2 : Hid (rowsM (ofT (T.take (k + 1))).l = S + xl) := by show _ = _; rw [HT2.out, rowsM_snoc, HQ.out, hxl]
        clear hf
        go_wp2_with fail
        refine cF.out.mono ?_
        rintro e W ⟨rfl, hb3⟩
        have HS3 := hid (HS1.out.below hb3)
        have hG3 := (hb3.block _ (hlt HG1.out)).trans HG1.out
        have HG3 := hid hG3
        have hg3 : W.cell? ⟨wr.heap.size, 0, none⟩ = some (.slice ua xl uc) := by rw [cell_of_row _ _ _ _ _ _ hG3]; rfl
        clear hb3 hG3 cF b0 b1 hg1 a0
        obtain ⟨b0, b1⟩ := HS3.out.cells
        obtain ⟨za, zc, rfl, -⟩ := HS3.out.lists
        have hsz := hlt HS3.out.box
        have HS3a : Hid (∀ o, TSt w (w.heap.size + 1) zw (.slice za t.l.length zc) t U (W.alloc o)) := fun o => HS3.out.below ((Below.refl _ _).alloc (Nat.le_refl _) o)
        have HG3a : Hid (∀ o, (W.alloc o).heap[wr.heap.size]? = some (.cells #[.slice ua xl uc] 43)) := fun o => (((Below.refl _ W).alloc (Nat.le_refl _) o).block _ (heap_lt HG3.out)).trans HG3.out
        by_cases h1k : 1000 < S + xl
        · have d1k : decide ((1000 : Int) < (S : Int) + (xl : Int)) = true := by simp; omega
          have hbig : 1000 < rowsM (ofT T).l := by have h1 := HUp.out; rw [HQ2.out] at h1; omega
          have HBig := hid hbig
          clear hbig
          go_wp2_with (at_builtin; refine wpList_append_own _ rfl _ _ 22 rfl (w.heap.size + 1 + 1) 43 i43 (.slice none 0 0) 1 24 Try.underlying22 hi43 hz430 hz431 hz432 rfl (by decide) (.slice za t.l.length zc) _ _ rfl ((HS3a.out _).rows) ⟨W.heap.size, 0, none⟩ 1 1 [.slice ua xl uc] rfl rfl (cell_one _ _ _) (fun x hx => by simp at hx; subst hx; rfl) (by unfold maxLen; (try simp); omega) (by (try simp); omega) (by simp; omega) ?_; intro v4 w4 hown4 hgrow4 hnil4; obtain ⟨g4, cap4, rfl, -, -⟩ := hown4.form (by omega); obtain ⟨⟨f40, f41⟩, ⟨e40, e41⟩, ⟨r40, r41⟩, ⟨q40, q41⟩, hg4⟩ := (HS3a.out _).grewL hgrow4 (HG3a.out _) HZ.out)
          have HS5 := hid (TSt.pushL (HS3a.out _) HP.out hown4 hgrow4)
          obtain ⟨g0, g1⟩ := row2 (set2 (.slice none 0 0) (.slice none 0 0) HS5.out.res)
          refine bodyPost_ret (v := .tuple #[tv (.slice none 0 0) (.slice none 0 0), .bool false]) ?_ rfl (.inl ⟨HBig.out, rfl, (HS5.out.laid _ _).bel⟩)
          simp [results, Try.results19, go_sem, g0, g1]
        · have d1k : decide ((1000 : Int) < (S : Int) + (xl : Int)) = false := by simp; omega
          go_wp2_with (first | (at_builtin; refine wpList_append_own _ rfl _ _ 22 rfl (w.heap.size + 1 + 1) 43 i43 (.slice none 0 0) 1 24 Try.underlying22 hi43 hz430 hz431 hz432 rfl (by decide) (.slice za t.l.length zc) _ _ rfl ((HS3a.out _).rows) ⟨W.heap.size, 0, none⟩ 1 1 [.slice ua xl uc] rfl rfl (cell_one _ _ _) (fun x hx => by simp at hx; subst hx; rfl) (by unfold maxLen; (try simp); omega) (by (try simp); omega) (by simp; omega) ?_; intro v4 w4 hown4 hgrow4 hnil4; obtain ⟨g4, cap4, rfl, -, -⟩ := hown4.form (by omega); obtain ⟨⟨f40, f41⟩, ⟨e40, e41⟩, ⟨r40, r41⟩, ⟨q40, q41⟩, hg4⟩ := (HS3a.out _).grewL hgrow4 (HG3a.out _) HZ.out) | (at_builtin; have HS5 := hid (TSt.pushL (HS3a.out _) HP.out hown4 hgrow4); have hsz5 := hlt HS5.out.box; have HS5a : Hid (∀ o, TSt w (w.heap.size + 1) zw (.slice (some ⟨g4, 0, none⟩) (t.l.length + 1) cap4) ⟨t.n, t.l ++ [X]⟩ (U ++ [.slice ua xl uc]) ((w4.setCell ⟨w.heap.size + 1, 1, none⟩ (.slice (some ⟨g4, 0, none⟩) (t.l.length + 1) cap4)).alloc o)) := (fun o => HS5.out.below ((Below.refl _ _).alloc (Nat.le_refl _) o)); refine wpList_append_own _ rfl _ _ 28 rfl (w.heap.size + 1 + 1) 3 i3 (.int .i64 0) 1 8 Try.underlying28 hi3 hz30 hz31 hz32 rfl (by decide) zw _ _ rfl ((HS5a.out _).nums) ⟨w4.heap.size, 0, none⟩ 1 1 [.int .i64 (t.l.length : Int)] rfl rfl (by simpa using cell_one (w4.setCell ⟨w.heap.size + 1, 1, none⟩ (.slice (some ⟨g4, 0, none⟩) (t.l.length + 1) cap4)) _ _) (fun x hx => by simp at hx; subst hx; rfl) (by unfold maxLen; (try simp); omega) (by (try simp); omega) (by simp; simp at hsz5; omega) ?_; intro v3 w3 hown3 hgrow3 hnil3; obtain ⟨g3, cap3, rfl, -, -⟩ := hown3.form (by omega); have hbx3 := (HS5a.out _).boxN hgrow3; obtain ⟨f30, f31⟩ := free2 hbx3; obtain ⟨e30, e31⟩ := row2 hbx3))
          have HS6 := hid ((HS5a.out _).pushN hown3 hgrow3)
          have HT3 : Hid (ofT (T.take (k + 1)) = ⟨t.n ++ [(t.l.length : Int)], t.l ++ [X]⟩) := HT2
          rw [show (⟨(⟨t.n, t.l ++ [X]⟩ : Tab).n ++ [(t.l.length : Int)], (⟨t.n, t.l ++ [X]⟩ : Tab).l⟩ : Tab) = ofT (T.take (k + 1)) from HT3.out.symm, show (⟨t.n, t.l ++ [X]⟩ : Tab).n.length = k from hnl] at HS6
          clear hown3 hgrow3 hnil3 hbx3
          go_roundw
          case rel => exact ⟨k + 1, S + xl, _, _, _, by omega, by go_num, by go_num, by omega, HQ2, HS6⟩
          case measure => simp [intOf]; omega
    · obtain rfl : k = R := by omega
      have dk : decide ((k : Int) < (k : Int)) = false := by simp
      have hTk : T.take k = T := List.take_of_length_le (by rw [HRl.out]; exact Nat.le_refl _)
      rw [hTk] at HS HQ
      generalize hOT : ofT T = t at *
      have HOT := hid hOT
      clear hOT
      obtain ⟨za, zc, rfl, -⟩ := HS.out.numbers
      obtain ⟨ya, yc, rfl, -⟩ := HS.out.lists
      obtain ⟨b0, b1⟩ := HS.out.cells
      have hres := HS.out.res
      obtain ⟨f0, f1⟩ := free2 hres
      obtain ⟨e0, e1⟩ := row2 hres
      have HO := hid (HS.out.laid (.slice za t.n.length zc) (.slice ya t.l.length yc))
      have HB2 := hid (set2 (.slice za t.n.length zc) (.slice ya t.l.length yc) hres)
      generalize t.n.length = n1 at *
      generalize t.l.length = n2 at *
      clear hres
      go_wp2
      obtain ⟨g0, g1⟩ := row2 HB2.out
      refine bodyPost_ret (v := .tuple #[tv (.slice za n1 zc) (.slice ya n2 yc), .bool true]) ?_ rfl (.inr ⟨by rw [HOT.out, HQ.out]; exact hS, _, _, _, rfl, by rw [HOT.out]; exact HO.out⟩)
      simp [results, Try.results19, go_sem, g0, g1]
end Go.Proofs.Ytbcikkofbdfmaaa
