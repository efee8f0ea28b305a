/- What Parse answers: the error of the tokens, of the reader or of Check, or the program; texts of up to 4000 bytes that are UTF-8, where pairs are put at a list's end. -/
import Derived.Test.YtebpapmnkbehnaaGreatDoorP15
import Derived.Test.YtebpapmnkbehnaaGreatDoorK11
import Derived.Test.YtebpapmnkbehnaaGreatDoorB2
set_option linter.unusedVariables false
set_option linter.unusedSimpArgs false
namespace Go.Proofs.YtebpapmnkbehnaaGreatDoor
open Go.RowKit Go.Joins Go.Lib

/-! ### Tokens are few and short -/
theorem fl_take_le (cs : List R) (k : Nat) : (fl (cs.take k)).length ≤ (fl cs).length := by
  have : fl cs = fl (cs.take k) ++ fl (cs.drop k) := by rw [← fl_append, List.take_append_drop]
  rw [this, List.length_append]; omega
theorem fst1_short (x : R) (t : List R) (tk : Tk) (n : Nat) (hg : Good (x :: t)) (h : fst1 x t = .ok (tk, n)) : tk.s.length ≤ (fl (x :: t)).length + 2 ∧ tk.n ≤ 65535 := by
  unfold fst1 at h
  split at h
  · unfold wordOf at h
    split at h
    · cases h
    · simp only [Except.ok.injEq, Prod.mk.injEq] at h
      obtain ⟨rfl, rfl⟩ := h
      refine ⟨?_, by simp⟩
      show (fl (x :: span iw t)).length ≤ _
      have := fl_take_le t (span iw t).length
      rw [← span_take] at this
      rw [fl_cons, fl_cons, List.length_append, List.length_append]; omega
  · split at h
    · unfold numOf at h
      split at h
      · cases h
      · split at h
        · rename_i v hv
          simp only [Except.ok.injEq, Prod.mk.injEq] at h
          obtain ⟨rfl, rfl⟩ := h
          exact ⟨by simp, parseB_le hv⟩
        · cases h
    · unfold signOf at h
      split at h
      · simp only [Except.ok.injEq, Prod.mk.injEq] at h
        obtain ⟨rfl, rfl⟩ := h
        exact ⟨by simp, by simp⟩
      · split at h
        · simp only [Except.ok.injEq, Prod.mk.injEq] at h
          obtain ⟨rfl, rfl⟩ := h
          exact ⟨by simp, by simp⟩
        · split at h
          · simp only [Except.ok.injEq, Prod.mk.injEq] at h
            obtain ⟨rfl, rfl⟩ := h
            refine ⟨?_, by simp⟩
            show x.2.length ≤ _
            rw [fl_cons, List.length_append]; omega
          · cases h
theorem lex_short : ∀ (cs : List R) (k : Nat) (l : List Tk), Good cs → lexS k cs = .ok l → l.length ≤ cs.length ∧ ∀ t ∈ l, t.s.length ≤ (fl cs).length + 2 ∧ t.n ≤ 65535
  | [], k, l, _, h => by
    rw [lexS_nil, Except.ok.injEq] at h
    subst h
    exact ⟨by simp, fun _ h => by cases h⟩
  | x :: t, k + 1, l, hg, h => by
    rw [lexS_skip] at h
    obtain ⟨h1, h2⟩ := lex_short t k l hg.tail h
    refine ⟨by simp; omega, fun y hy => ?_⟩
    have := h2 y hy
    rw [fl_cons, List.length_append]
    exact ⟨by omega, this.2⟩
  | x :: t, 0, l, hg, h => by
    have key : ∀ k l, lexS k t = .ok l → l.length ≤ t.length ∧ ∀ y ∈ l, y.s.length ≤ (fl (x :: t)).length + 2 ∧ y.n ≤ 65535 := by
      intro k l hk
      obtain ⟨h1, h2⟩ := lex_short t k l hg.tail hk
      refine ⟨h1, fun y hy => ?_⟩
      have := h2 y hy
      rw [fl_cons, List.length_append]
      exact ⟨by omega, this.2⟩
    rw [lexS_zero] at h
    split at h
    · obtain ⟨h1, h2⟩ := key 0 l h
      exact ⟨by simp; omega, h2⟩
    · split at h
      · obtain ⟨h1, h2⟩ := key _ l h
        exact ⟨by simp; omega, h2⟩
      · cases hf : fst1 x t with
        | error e => rw [hf] at h; cases h
        | ok y =>
          obtain ⟨tk, n⟩ := y
          rw [hf] at h
          dsimp only at h
          cases hl : lexS n t with
          | error e => rw [hl] at h; cases h
          | ok m =>
            rw [hl] at h
            simp only [Except.ok.injEq] at h
            subst h
            obtain ⟨h1, h2⟩ := key n m hl
            refine ⟨by simp; omega, fun y hy => ?_⟩
            rcases List.mem_cons.1 hy with rfl | hy
            · exact fst1_short x t _ n hg hf
            · exact h2 y hy
theorem lex_end {cs : List R} {l : List Tk} (hg : Good cs) (hl : (fl cs).length ≤ 4000) (h : lexS 0 cs = .ok l) : EndL (l ++ [tkEnd]) ∧ Short (l ++ [tkEnd]) := by
  obtain ⟨h1, h2⟩ := lex_short cs 0 l hg h
  have h3 := fl_length_ge cs hg
  refine ⟨⟨⟨l, rfl⟩, by rw [List.length_append, List.length_singleton]; omega⟩, fun t ht => ?_⟩
  rcases List.mem_append.1 ht with ht | ht
  · have := h2 t ht
    exact ⟨by omega, this.2⟩
  · rw [List.mem_singleton] at ht
    subst ht
    exact ⟨by simp [tkEnd], by simp [tkEnd]⟩

/-- What the tokens come to. -/
def progOf (l : List Tk) : Pg × St := programM (l ++ [tkEnd]) st0
/-- The error of a text. -/
def parseE : Except Nat (List Tk) → Nat
  | .error e => e
  | .ok l => if faultM (progOf l).2 = 0 then checkM (progOf l).1 else faultM (progOf l).2
theorem run_mm (W : World) : (Instr.makeMap 69 none).run Tryz.prog W = .ok (.map (some W.heap.size)) (W.alloc (.map #[] 0)) := run_makeMap 69 W
theorem par_ne {n : Nat} (h : n ≠ 0) (hb : n < 1000) : (((n : Int)) != 0) = true := by simp; omega
theorem fault_lt (σ : St) : faultM σ < 1000 := by unfold faultM; split; decide; split; decide; split <;> decide
theorem check_lt (p : Pg) : checkM p < 1000 := by unfold checkM; split; decide; split <;> decide
/-- A reader at its start. -/
theorem rd_start {w1 : World} {tvl : Value} {l : List Tk} (hT : Tks w1 tvl (l ++ [tkEnd])) (hN : NamesIs w1) (hn : 2 < w1.heap.size) : Rd w1.heap.size tvl (l ++ [tkEnd]) st0 ((w1.alloc (.map #[] 0)).alloc (.cells (rcells tvl w1.heap.size st0) 71)) := by
  have hb1 := (Below.refl _ w1).alloc (Nat.le_refl _) (.map #[] 0)
  have hb2 := (Below.refl _ (w1.alloc (.map #[] 0))).alloc (Nat.le_refl _) (.cells (rcells tvl w1.heap.size st0) 71)
  have hb : Below w1.heap.size w1 ((w1.alloc (.map #[] 0)).alloc (.cells (rcells tvl w1.heap.size st0) 71)) := hb1.trans (hb2.mono (by simp))
  refine ⟨?_, ?_, hT.below hb, fun b o e => ?_, hN.below hb, hn, by show 0 < _; simp⟩
  · have := heap_alloc_new (w1.alloc (.map #[] 0)) (.cells (rcells tvl w1.heap.size st0) 71)
    simpa using this
  · exact (LetsAt.made w1).same (hb2.block _ (by simp))
  · obtain ⟨n, c, e⟩ := e
    obtain ⟨sa, sc, e2, hc⟩ := hT
    obtain ⟨b', off', e3, hlt, _⟩ := hc 0 (by simp)
    rw [e2, e3] at e
    simp only [Value.slice.injEq, Option.some.injEq, Addr.mk.injEq, and_true] at e
    rw [← e.1.1]; exact hlt

theorem set6_block (W : World) (g : Nat) (iv : Value) (x : Nd) (rv : Value) : (set6 W g iv x rv).heap.size = W.heap.size ∧ ∀ b, b ≠ g → (set6 W g iv x rv).heap[b]? = W.heap[b]? := by
  refine ⟨by simp [World.setCell], fun b hn => ?_⟩
  show (World.setCell _ _ _).heap[b]? = _
  rw [Below.heap_setCell _ _ _ _ hn, Below.heap_setCell _ _ _ _ hn, Below.heap_setCell _ _ _ _ hn, Below.heap_setCell _ _ _ _ hn, Below.heap_setCell _ _ _ _ hn, Below.heap_setCell _ _ _ _ hn]
theorem pg_set6 {g : Nat} {W : World} {iv : Value} {x : Nd} {rv : Value} {p : Pg} (h : PgAt (fun b => g < b) W iv x rv p) (iv' : Value) (x' : Nd) (rv' : Value) : PgAt (fun b => g < b) (set6 W g iv' x' rv') iv x rv p := by
  obtain ⟨h1, h2⟩ := set6_block W g iv' x' rv'
  exact h.keep (by rw [h1]; exact Nat.le_refl _) fun b hb _ => ⟨hb, h2 b (by have hb : g < b := hb; omega)⟩
theorem row_set6 {W : World} {g : Nat} {x0 x1 x2 x3 x4 x5 : Value} (iv : Value) (x : Nd) (rv : Value) (hr : W.heap[g]? = some (.cells #[x0, x1, x2, x3, x4, x5] 34)) : (set6 W g iv x rv).heap[g]? = some (gobj iv x rv) := by
  have h0 := heap_setCell_same W g 0 _ 34 iv hr
  have h1 := heap_setCell_same _ g 1 _ 34 (.int .i64 x.op) h0
  have h2 := heap_setCell_same _ g 2 _ 34 (.int .i64 x.f) h1
  have h3 := heap_setCell_same _ g 3 _ 34 (.int .u16 x.n) h2
  have h4 := heap_setCell_same _ g 4 _ 34 x.kv h3
  have h5 := heap_setCell_same _ g 5 _ 34 rv h4
  simpa using h5
theorem below_set6 {B : Nat} {a W : World} (h : Below B a W) (iv : Value) (x : Nd) (rv : Value) : Below B a (set6 W B iv x rv) :=
  (((((h.setCell (Nat.le_refl _) _).setCell (Nat.le_refl _) _).setCell (Nat.le_refl _) _).setCell (Nat.le_refl _) _).setCell (Nat.le_refl _) _).setCell (Nat.le_refl _) _

/-- Three slices. -/
structure PgShape (iv : Value) (x : Nd) (rv : Value) : Prop where
  i : ∃ s n c, iv = .slice s n c
  k : ∃ s n c, x.kv = .slice s n c
  r : ∃ s n c, rv = .slice s n c

theorem own_lo {w : World} {lo lo' e size n : Nat} {v : Value} {xs : List Value} (h : w.ownsRow lo' e size v n xs) (hl : lo ≤ lo') : w.ownsRow lo e size v n xs := by
  refine ⟨h.1, ?_⟩
  rcases h.2 with hn | ⟨g, cap, cur, hv, hB, rest⟩
  · exact .inl hn
  · exact .inr ⟨g, cap, cur, hv, Nat.le_trans hl hB, rest⟩
theorem own_set6 {W : World} {g e size n : Nat} {v : Value} {xs : List Value} (h : W.ownsRow (g + 1) e size v n xs) (iv : Value) (x : Nd) (rv : Value) : (set6 W g iv x rv).ownsRow (g + 1) e size v n xs := by
  have hb : g < g + 1 := by omega
  exact own_set (own_set (own_set (own_set (own_set (own_set h (a := ⟨g, 0, none⟩) hb iv) (a := ⟨g, 1, none⟩) hb (.int .i64 x.op)) (a := ⟨g, 2, none⟩) hb (.int .i64 x.f)) (a := ⟨g, 3, none⟩) hb (.int .u16 x.n)) (a := ⟨g, 4, none⟩) hb x.kv) (a := ⟨g, 5, none⟩) hb rv
set_option maxRecDepth 100000 in
set_option maxHeartbeats 8000000 in
theorem parse_full (cs : List R) (hg : Good cs) (hl : (fl cs).length ≤ 4000) (l : List Tk) (hlex : lexS 0 cs = .ok l) (hmid : (progOf l).2.mid = false) (hsh : PgShort (progOf l).1) (w : World) (h : Env w) :
    Calls Tryz.prog 10 #[str (fl cs)] w fun e w' => (∃ iv x rv, e = .returned (.tuple #[pgv iv x rv, .int .i64 (parseE (.ok l) : Int)]) ∧ PgShape iv x rv ∧ (parseE (.ok l) = 0 → PgAt (fun b => w.heap.size < b) w' iv x rv (progOf l).1 ∧ w'.ownsRow (w.heap.size + 1) 26 1 iv (progOf l).1.init.length (nums (progOf l).1.init))) ∧ Below w.heap.size w w' := by
  obtain ⟨hE, hS⟩ := lex_end hg hl hlex
  have hb0 := (Below.refl _ w).alloc (Nat.le_refl _) gz
  have cT := tokens_good cs hg hl (w.alloc gz) (h.below hb0)
  rw [hlex] at cT
  have HEnv : Hid (Env w) := h
  have HB0 : Hid (Below w.heap.size w (w.alloc gz)) := hb0
  have hrow0 := heap_alloc_new w gz
  have HE : Hid (EndL (l ++ [tkEnd])) := hE
  have HS : Hid (Short (l ++ [tkEnd])) := hS
  have HMid : Hid ((programM (l ++ [tkEnd]) st0).2.mid = false) := hmid
  have HSh : Hid (PgShort (progOf l).1) := hsh
  have hmm := run_mm
  generalize fl cs = F at *
  clear hg hl hlex hE hS hb0 h hmid hsh
  go_enter Tryz.func10, Tryz.ntmps10
  go_wp2_with fail
  refine cT.mono ?_
  rintro e w1 ⟨⟨sa, sc, rfl, hsc, hT⟩, hb1⟩
  have HB1 : Hid (Below w.heap.size w w1) := HB0.out.trans (hb1.mono HB0.out.size)
  have hrow1 := (hb1.block _ (heap_lt hrow0)).trans hrow0
  have hw1 := heap_lt hrow1
  have HEn1 : Hid (Env w1) := HEnv.out.below HB1.out
  have h4 : 2 < w1.heap.size := by have := block_lt_of_cell HEn1.out.names.c0; simpa using this
  have hRd := rd_start hT HEn1.out.names h4
  have HRd : Hid (Rd w1.heap.size (.slice sa (l.length + 1) sc) (l ++ [tkEnd]) st0 ((w1.alloc (.map #[] 0)).alloc (.cells #[.slice sa (l.length + 1) sc, .int .i64 0, .map (some w1.heap.size), .bool false, .bool false, .bool false] 71))) := hRd
  have cP := program_any HE.out HS.out HMid.out rfl _ HRd.out
  have HB2 : Hid (Below w.heap.size w ((w1.alloc (.map #[] 0)).alloc (.cells #[.slice sa (l.length + 1) sc, .int .i64 0, .map (some w1.heap.size), .bool false, .bool false, .bool false] 71))) := (HB1.out.alloc HB1.out.size _).alloc (by have := HB1.out.size; simp; omega) _
  have HR2 : Hid (((w1.alloc (.map #[] 0)).alloc (.cells #[.slice sa (l.length + 1) sc, .int .i64 0, .map (some w1.heap.size), .bool false, .bool false, .bool false] 71)).heap[w.heap.size]? = some gz) := by
    show _ = _
    rw [Below.heap_alloc _ _ _ (by simp; omega), Below.heap_alloc _ _ _ hw1]; exact hrow1
  rw [show programM (l ++ [tkEnd]) st0 = progOf l from rfl] at cP
  clear hb1 hT hsc hrow0 hrow1 hRd HB0 cT h4
  go_wp2_with fail
  refine cP.mono ?_
  rintro e w3 ⟨iv, x, rv, rfl, hpg, hin, ha3⟩
  obtain ⟨si, sci, rfl⟩ := hpg.ini
  obtain ⟨sr, scr, rfl, -⟩ := hpg.rul
  obtain ⟨-, -, -, sk, skc, hkv⟩ := hpg.pol.shape
  obtain ⟨xo, xf, xn, xk⟩ := x
  dsimp only at hkv
  subst hkv
  have hbk := ha3.kp.below (by simp; omega)
  have HB3 : Hid (Below w.heap.size w w3) := HB2.out.trans (hbk.mono (by omega))
  have HR3 : Hid (w3.heap[w.heap.size]? = some gz) := (hbk.block _ hw1).trans HR2.out
  obtain ⟨ob, hob⟩ : ∃ ob, gobj (.slice si (progOf l).1.init.length sci) ⟨xo, xf, xn, .slice sk (progOf l).1.pol.kids.length skc⟩ (.slice sr (progOf l).1.rules.length scr) = ob := ⟨_, rfl⟩
  have hba := (Below.refl _ w3).alloc (Nat.le_refl _) ob
  have HB4 : Hid (Below w.heap.size w (w3.alloc ob)) := HB3.out.alloc HB3.out.size _
  have HR4 : Hid ((w3.alloc ob).heap[w.heap.size]? = some gz) := (Below.heap_alloc _ _ _ (heap_lt HR3.out)).trans HR3.out
  have HRow4 : Hid ((w3.alloc ob).heap[w3.heap.size]? = some ob) := heap_alloc_new _ _
  have HPg : Hid (PgAt (fun b => w.heap.size < b) (w3.alloc ob) (.slice si (progOf l).1.init.length sci) ⟨xo, xf, xn, .slice sk (progOf l).1.pol.kids.length skc⟩ (.slice sr (progOf l).1.rules.length scr) (progOf l).1) := by
    exact (hpg.below hba).keep (Nat.le_refl _) fun b hb _ => ⟨by have hb : w1.heap.size + 2 ≤ b := hb; show w.heap.size < b; omega, rfl⟩
  have HIn : Hid ((w3.alloc ob).ownsRow (w.heap.size + 1) 26 1 (.slice si (progOf l).1.init.length sci) (progOf l).1.init.length (nums (progOf l).1.init)) := own_lo (own_below hin hba) (by simp; omega)
  have cF := fault_any (w3.alloc ob) (ha3.rd.below hba)
  rw [← hob] at HB4 HR4 HRow4 HPg HIn cF
  have hfl := fault_lt (progOf l).2
  have hcl := check_lt (progOf l).1
  clear hpg hin ha3 hbk cP HB2 HR2 hba hob HRd
  by_cases hf0 : faultM (progOf l).2 = 0
  · rw [hf0] at cF
    have HPE : Hid (parseE (.ok l) = checkM (progOf l).1) := by show _ = _; show (if faultM (progOf l).2 = 0 then _ else _) = _; rw [if_pos hf0]
    have cC := check_any (progOf l).1 _ _ _ HSh.out _ HPg.out
    generalize (progOf l).1.pol.kids.length = kn at *
    obtain ⟨inn, hinn⟩ : ∃ inn, (progOf l).1.init.length = inn := ⟨_, rfl⟩
    have HEin : Hid ((progOf l).1.init.length = inn) := hinn
    rw [hinn] at HB4 HR4 HRow4 HPg HIn cF cC ⊢
    clear hinn
    generalize (progOf l).1.rules.length = rn at *
    by_cases hc0 : checkM (progOf l).1 = 0
    · rw [hc0] at cC
      go_wp2_with fail
      refine cF.mono ?_
      rintro e w4 ⟨rfl, hw4⟩
      subst w4
      go_wp2_with fail
      refine cC.mono ?_
      rintro e w5 ⟨rfl, hb5⟩
      have HB5 : Hid (Below w.heap.size w w5) := HB4.out.trans (hb5.mono HB4.out.size)
      have HR5 : Hid (w5.heap[w.heap.size]? = some gz) := (hb5.block _ (heap_lt HR4.out)).trans HR4.out
      have HPg5 : Hid _ := HPg.out.below hb5
      have HIn5 : Hid _ := own_below HIn.out hb5
      obtain ⟨q0, q1, q2, q3, q4, q5⟩ := row6 ((hb5.block _ (heap_lt HRow4.out)).trans HRow4.out)
      clear hb5 cC cF
      obtain ⟨t0, t1, t2, t3, t4, t5⟩ := row6 HR5.out
      have f0 := frz6 HR5.out 0
      have f1 := frz6 HR5.out 1
      have f2 := frz6 HR5.out 2
      have f3 := frz6 HR5.out 3
      have f4 := frz6 HR5.out 4
      have f5 := frz6 HR5.out 5
      have hgq := heap_lt HR5.out
      go_wp2
      refine bodyPost_ret (v := .tuple #[pgv (.slice si inn sci) ⟨xo, xf, xn, .slice sk kn skc⟩ (.slice sr rn scr), .int .i64 0]) ?_ rfl ⟨⟨_, _, _, by rw [HPE.out, hc0]; rfl, ⟨⟨_, _, _, rfl⟩, ⟨_, _, _, rfl⟩, ⟨_, _, _, rfl⟩⟩, fun _ => ⟨pg_set6 HPg5.out (.slice si inn sci) ⟨xo, xf, xn, .slice sk kn skc⟩ (.slice sr rn scr), by rw [HEin.out]; exact own_set6 HIn5.out (.slice si inn sci) ⟨xo, xf, xn, .slice sk kn skc⟩ (.slice sr rn scr)⟩⟩, ?_⟩
      · obtain ⟨g0, g1, g2, g3, g4, g5⟩ := row6 (row_set6 (.slice si inn sci) ⟨xo, xf, xn, .slice sk kn skc⟩ (.slice sr rn scr) HR5.out)
        simp [results, Tryz.results10, go_sem, g0, g1, g2, g3, g4, g5]
      · exact below_set6 HB5.out (.slice si inn sci) ⟨xo, xf, xn, .slice sk kn skc⟩ (.slice sr rn scr)
    · obtain ⟨ce, hce⟩ : ∃ ce, checkM (progOf l).1 = ce := ⟨_, rfl⟩
      rw [hce] at cC hc0 hcl HPE
      have dne := par_ne hc0 hcl
      have HC0 : Hid (ce ≠ 0) := hc0
      clear hce
      go_wp2_with fail
      refine cF.mono ?_
      rintro e w4 ⟨rfl, hw4⟩
      subst w4
      go_wp2_with fail
      refine cC.mono ?_
      rintro e w5 ⟨rfl, hb5⟩
      have HB5 : Hid (Below w.heap.size w w5) := HB4.out.trans (hb5.mono HB4.out.size)
      have HR5 : Hid (w5.heap[w.heap.size]? = some gz) := (hb5.block _ (heap_lt HR4.out)).trans HR4.out
      clear hb5 cC cF hc0
      obtain ⟨t0, t1, t2, t3, t4, t5⟩ := row6 HR5.out
      have f0 := frz6 HR5.out 0
      have f1 := frz6 HR5.out 1
      have f2 := frz6 HR5.out 2
      have f3 := frz6 HR5.out 3
      have f4 := frz6 HR5.out 4
      have f5 := frz6 HR5.out 5
      have hgq := heap_lt HR5.out
      go_wp2
      refine bodyPost_ret (v := .tuple #[pgv (.slice none 0 0) nd0 (.slice none 0 0), .int .i64 (ce : Int)]) ?_ rfl ⟨⟨_, _, _, by rw [HPE.out], ⟨⟨_, _, _, rfl⟩, ⟨_, _, _, rfl⟩, ⟨_, _, _, rfl⟩⟩, fun hz => absurd (HPE.out.symm.trans hz) HC0.out⟩, ?_⟩
      · obtain ⟨g0, g1, g2, g3, g4, g5⟩ := row6 (row_set6 (.slice none 0 0) nd0 (.slice none 0 0) HR5.out)
        simp [results, Tryz.results10, go_sem, g0, g1, g2, g3, g4, g5]
      · exact below_set6 HB5.out (.slice none 0 0) nd0 (.slice none 0 0)
  · have HPE : Hid (parseE (.ok l) = faultM (progOf l).2) := by show _ = _; show (if faultM (progOf l).2 = 0 then _ else _) = _; rw [if_neg hf0]
    obtain ⟨ce, hce⟩ : ∃ ce, faultM (progOf l).2 = ce := ⟨_, rfl⟩
    rw [hce] at cF hf0 hfl HPE
    have dne := par_ne hf0 hfl
    have HC0 : Hid (ce ≠ 0) := hf0
    generalize (progOf l).1.pol.kids.length = kn at *
    generalize (progOf l).1.init.length = inn at *
    generalize (progOf l).1.rules.length = rn at *
    clear hce hf0
    go_wp2_with fail
    refine cF.mono ?_
    rintro e w4 ⟨rfl, hw4⟩
    rw [← hw4] at HB4 HR4
    clear cF hw4 HRow4 HPg HIn HR3 HB3 HB1 HEn1
    obtain ⟨t0, t1, t2, t3, t4, t5⟩ := row6 HR4.out
    have f0 := frz6 HR4.out 0
    have f1 := frz6 HR4.out 1
    have f2 := frz6 HR4.out 2
    have f3 := frz6 HR4.out 3
    have f4 := frz6 HR4.out 4
    have f5 := frz6 HR4.out 5
    have hgq := heap_lt HR4.out
    go_wp2
    refine bodyPost_ret (v := .tuple #[pgv (.slice none 0 0) nd0 (.slice none 0 0), .int .i64 (ce : Int)]) ?_ rfl ⟨⟨_, _, _, by rw [HPE.out], ⟨⟨_, _, _, rfl⟩, ⟨_, _, _, rfl⟩, ⟨_, _, _, rfl⟩⟩, fun hz => absurd (HPE.out.symm.trans hz) HC0.out⟩, ?_⟩
    · obtain ⟨g0, g1, g2, g3, g4, g5⟩ := row6 (row_set6 (.slice none 0 0) nd0 (.slice none 0 0) HR4.out)
      simp [results, Tryz.results10, go_sem, g0, g1, g2, g3, g4, g5]
    · exact below_set6 HB4.out (.slice none 0 0) nd0 (.slice none 0 0)
theorem parse_ok (cs : List R) (hg : Good cs) (hl : (fl cs).length ≤ 4000) (l : List Tk) (hlex : lexS 0 cs = .ok l) (hmid : (progOf l).2.mid = false) (hsh : PgShort (progOf l).1) (w : World) (h : Env w) :
    Calls Tryz.prog 10 #[str (fl cs)] w fun e w' => (∃ iv x rv, e = .returned (.tuple #[pgv iv x rv, .int .i64 (parseE (.ok l) : Int)]) ∧ PgShape iv x rv ∧ (parseE (.ok l) = 0 → PgAt (fun b => w.heap.size < b) w' iv x rv (progOf l).1)) ∧ Below w.heap.size w w' := by
  refine (parse_full cs hg hl l hlex hmid hsh w h).mono ?_
  rintro e w' ⟨⟨iv, x, rv, h1, h2, h3⟩, h4⟩
  exact ⟨⟨iv, x, rv, h1, h2, fun hz => (h3 hz).1⟩, h4⟩
end Go.Proofs.YtebpapmnkbehnaaGreatDoor
