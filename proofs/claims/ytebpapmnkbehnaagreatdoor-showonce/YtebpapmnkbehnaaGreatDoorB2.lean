/- What lex.Tokens answers of a text: of one that is UTF-8 the tokens of its code points, or the error; else ErrSyntax; texts of up to 4000 bytes. -/
import Derived.Test.YtebpapmnkbehnaaGreatDoorB1
set_option linter.unusedVariables false
set_option linter.unusedSimpArgs false
namespace Go.Proofs.YtebpapmnkbehnaaGreatDoor
open Go.RowKit Go.Joins Go.Lib

theorem valid_any (l : List UInt8) (hl : l.length ≤ 100000) (w : World) (h : Env w) : Calls Tryz.prog 38 #[str l] w fun e w' => e = .returned (.bool (validD l)) ∧ Below w.heap.size w w' :=
  Tryz.utf8_ValidString ⟨l.toArray⟩ w (by rw [size_mk]; omega) h.utf

set_option maxRecDepth 100000 in
set_option maxHeartbeats 1000000 in
theorem tokens_bad (l : List UInt8) (hl : l.length ≤ 4000) (hv : validD l = false) (w : World) (h : Env w) :
    Calls Tryz.prog 23 #[str l] w fun e w' => e = .returned (.tuple #[.slice none 0 0, .int .i64 10]) ∧ Below w.heap.size w w' := by
  have cV := valid_any l (by omega) w h
  rw [hv] at cV
  have hsz : (ByteArray.mk l.toArray).size = l.length := size_mk l
  have d : decide ((4000 : Int) < (l.length : Int)) = false := by simp; omega
  go_enter Tryz.func23, Tryz.ntmps23
  go_wp2_with fail
  refine cV.mono ?_
  rintro e w1 ⟨rfl, hb1⟩
  go_wp2
  refine bodyPost_ret (v := .tuple #[.slice none 0 0, .int .i64 10]) ?_ rfl ⟨rfl, hb1⟩
  simp [results, Tryz.results23, go_sem]

theorem cat_assoc1 (out : List Tk) (tk : Tk) (r : Except Nat (List Tk)) : cat (.ok out) (cat (.ok [tk]) r) = cat (.ok (out ++ [tk])) r := by
  cases r with
  | error e => rfl
  | ok m => simp [cat]
theorem lex_step (x : R) (t : List R) (tk : Tk) (n : Nat) (hb : bl x.1 = false) (h35 : x.1 ≠ 35) (hf : fst1 x t = .ok (tk, n)) : lexS 0 (x :: t) = cat (.ok [tk]) (lexS n t) := by
  rw [lexS_zero, if_neg (by rw [hb]; decide), if_neg h35, hf]
  dsimp only
  cases lexS n t <;> rfl
theorem lex_fail (x : R) (t : List R) (e : Nat) (hb : bl x.1 = false) (h35 : x.1 ≠ 35) (hf : fst1 x t = .error e) : lexS 0 (x :: t) = .error e := by
  rw [lexS_zero, if_neg (by rw [hb]; decide), if_neg h35, hf]

/-- What is answered. -/
def TokRes (r : Except Nat (List Tk)) (e : Ending) (w' : World) : Prop :=
  match r with
  | .error er => e = .returned (.tuple #[.slice none 0 0, .int .i64 (er : Int)])
  | .ok l => ∃ sa sc, e = .returned (.tuple #[.slice sa (l.length + 1) sc, .int .i64 0]) ∧ l.length + 1 ≤ sc ∧ Tks w' (.slice sa (l.length + 1) sc) (l ++ [tkEnd])

theorem fst1_err {x : R} {t : List R} {e : Nat} (h : fst1 x t = .error e) : e ≠ 0 ∧ e < 1000 := by
  have key : e = 2 ∨ e = 10 := by
    unfold fst1 wordOf numOf signOf at h
    repeat' split at h
    all_goals (first | (simp only [Except.error.injEq] at h; omega) | cases h)
  omega
theorem res_of_own {w : World} {B : Nat} {v : Value} {l : List Tk} (h : w.ownsRow B 89 3 v (l ++ [tkEnd]).length (flat3 (l ++ [tkEnd]))) : TokRes (.ok l) (.returned (.tuple #[v, .int .i64 0])) w := by
  have hT := tks_of_own h
  rcases h.2 with ⟨hv, hn⟩ | ⟨g, cap, cur, hv, hB, hgg, hcap, hmax, hsz, htk⟩
  · simp at hn
  · subst hv
    rw [List.length_append, List.length_singleton] at hcap hT
    refine ⟨some ⟨g, 0, none⟩, cap, ?_, hcap, hT⟩
    rw [List.length_append, List.length_singleton]
/-- What is known while Tokens goes on: A is read, t is to come, its first k are of what was read last. -/
structure LSt (cs A t : List R) (k nx : Nat) (out : List Tk) : Prop where
  all : cs = A ++ t
  kle : k ≤ t.length
  nxt : (k = 0 ∧ nx ≤ (fl A).length) ∨ nx = (fl A).length + (fl (t.take k)).length
  lex : cat (.ok out) (lexS k t) = lexS 0 cs
  few : out.length ≤ A.length
theorem fl_snoc (A : List R) (x : R) : (fl (A ++ [x])).length = (fl A).length + x.2.length := by
  rw [fl_append, List.length_append, fl_cons, fl_nil, List.append_nil]
theorem LSt.start (cs : List R) : LSt cs [] cs 0 0 [] := ⟨rfl, Nat.zero_le _, .inl ⟨rfl, Nat.zero_le _⟩, by
  unfold cat; cases lexS 0 cs <;> rfl, Nat.le_refl _⟩
theorem LSt.skip {cs A t : List R} {x : R} {k nx : Nat} {out : List Tk} (h : LSt cs A (x :: t) (k + 1) nx out) : LSt cs (A ++ [x]) t k nx out := by
  refine ⟨by rw [h.all]; simp, by have := h.kle; simp at this; exact this, ?_, by have := h.lex; rwa [lexS_skip] at this, by have := h.few; simp; omega⟩
  rcases h.nxt with ⟨h1, _⟩ | h1
  · omega
  · rw [List.take_succ_cons, fl_cons, List.length_append] at h1
    exact .inr (by rw [fl_snoc]; omega)
theorem LSt.ahead {cs A t : List R} {x : R} {k nx : Nat} {out : List Tk} (h : LSt cs A (x :: t) (k + 1) nx out) (hx : 1 ≤ x.2.length) : (fl A).length < nx := by
  rcases h.nxt with ⟨h1, _⟩ | h1
  · omega
  · rw [List.take_succ_cons, fl_cons, List.length_append] at h1
    omega
theorem LSt.here {cs A t : List R} {nx : Nat} {out : List Tk} (h : LSt cs A t 0 nx out) : nx ≤ (fl A).length := by
  rcases h.nxt with ⟨_, h1⟩ | h1
  · exact h1
  · rw [List.take_zero, fl_nil, List.length_nil] at h1; omega
theorem LSt.blank {cs A t : List R} {x : R} {nx : Nat} {out : List Tk} (h : LSt cs A (x :: t) 0 nx out) (hb : bl x.1 = true) : LSt cs (A ++ [x]) t 0 nx out :=
  ⟨by rw [h.all]; simp, Nat.zero_le _, .inl ⟨rfl, by rw [fl_snoc]; have := h.here; omega⟩, by have := h.lex; rwa [lexS_zero, if_pos hb] at this, by have := h.few; simp; omega⟩
theorem LSt.remark {cs A t : List R} {x : R} {nx : Nat} {out : List Tk} (h : LSt cs A (x :: t) 0 nx out) (hb : bl x.1 = false) (h35 : x.1 = 35) : LSt cs (A ++ [x]) t (span il t).length ((fl A).length + (fl (span il (x :: t))).length) out := by
  refine ⟨by rw [h.all]; simp, span_le _ _, .inr ?_, by have := h.lex; rwa [lexS_zero, if_neg (by rw [hb]; decide), if_pos h35] at this, by have := h.few; simp; omega⟩
  have hi : il x.1 = true := by rw [h35]; decide
  rw [span_cons il x t hi, fl_cons, List.length_append, fl_snoc, ← span_take]; omega
theorem LSt.token {cs A t : List R} {x : R} {nx n : Nat} {tk : Tk} {out : List Tk} (h : LSt cs A (x :: t) 0 nx out) (hb : bl x.1 = false) (h35 : x.1 ≠ 35) (hf : fst1 x t = .ok (tk, n)) : LSt cs (A ++ [x]) t n ((fl A).length + (fl (x :: t.take n)).length) (out ++ [tk]) := by
  refine ⟨by rw [h.all]; simp, fst1_le x t tk n hf, .inr ?_, ?_, by have := h.few; simp; omega⟩
  · rw [fl_cons, List.length_append, fl_snoc]; omega
  · rw [← cat_assoc1, ← lex_step x t tk n hb h35 hf]; exact h.lex
theorem LSt.fail {cs A t : List R} {x : R} {nx e : Nat} {out : List Tk} (h : LSt cs A (x :: t) 0 nx out) (hb : bl x.1 = false) (h35 : x.1 ≠ 35) (hf : fst1 x t = .error e) : lexS 0 cs = .error e := by
  rw [← h.lex, lex_fail x t e hb h35 hf]; rfl
theorem LSt.done {cs A : List R} {k nx : Nat} {out : List Tk} (h : LSt cs A [] k nx out) : lexS 0 cs = .ok out := by
  rw [← h.lex, lexS_nil]
  show Except.ok (out ++ []) = _
  rw [List.append_nil]

/-- What stands in memory while Tokens goes on. -/
structure MSt (w : World) (K : Nat) (s : ByteArray) (pos : Nat) (out : List Tk) (v : Value) (wr : World) : Prop where
  own : wr.ownsRow (K + 1) 89 3 v out.length (flat3 out)
  itr : wr.heap[K]? = some (.stringIter s pos)
  bel : Below w.heap.size w wr
  low : w.heap.size ≤ K
theorem own_iter {w : World} {K n : Nat} {s : ByteArray} {p : Nat} {v : Value} {xs : List Value} (h : w.ownsRow (K + 1) 89 3 v n xs) : (w.iterAt K s p).ownsRow (K + 1) 89 3 v n xs := by
  refine ⟨h.1, ?_⟩
  rcases h.2 with hn | ⟨g, cap, cur, rfl, hg, hgg, rest⟩
  · exact .inl hn
  · exact .inr ⟨g, cap, cur, rfl, hg, (Lib.iterAt_other w K g s p (by omega)).trans hgg, rest⟩
theorem MSt.move {w wr : World} {K pos : Nat} {s : ByteArray} {out : List Tk} {v : Value} (h : MSt w K s pos out v wr) (pos' : Nat) : MSt w K s pos' out v (wr.iterAt K s pos') :=
  ⟨own_iter h.own, Lib.iterAt_heap wr K s pos pos' h.itr, Lib.below_iterAt h.bel h.low s pos', h.low⟩
theorem MSt.below {w wr w' : World} {K pos : Nat} {s : ByteArray} {out : List Tk} {v : Value} (h : MSt w K s pos out v wr) (hb : Below wr.heap.size wr w') : MSt w K s pos out v w' :=
  ⟨own_below h.own hb, (hb.block _ (heap_lt h.itr)).trans h.itr, h.bel.trans (hb.mono h.bel.size), h.low⟩
theorem cell_new3g (w : World) (vs : List Value) (t : TypeId) (g : Nat) (hg : w.heap.size = g) : ∀ j u, vs[j]? = some u → (w.alloc (.cells vs.toArray t)).cell? ((⟨g, 0, none⟩ : Addr).add j) = some u := by
  subst hg
  exact cell_new3 w vs t
theorem MSt.app {w wr w' : World} {K pos : Nat} {s : ByteArray} {out : List Tk} {v v' : Value} (h : MSt w K s pos out v wr) (x : Tk) (o : Obj) (ho : w'.ownsRow (K + 1) 89 3 v' (out.length + 1) (flat3 out ++ enc3 x)) (hg : (wr.alloc o).grownBy w' v.ownBlock) : MSt w K s pos (out ++ [x]) v' w' := by
  have hlt := heap_lt h.itr
  have hl := h.low
  refine ⟨?_, ?_, ?_, hl⟩
  · rw [flat3_append, List.length_append, show flat3 [x] = enc3 x by simp [flat3]]; exact ho
  · have hfar : some K ≠ v.ownBlock := fun e => by have := (h.own.lt _ e.symm).1; omega
    rw [hg.block K (by simp; omega) hfar, Below.heap_alloc _ _ _ hlt]; exact h.itr
  · exact Below.grown (h.bel.alloc (by omega) _) hg (by simp; omega) (fun j hj => by have := (h.own.lt _ hj).1; omega)

set_option maxRecDepth 100000 in
set_option maxHeartbeats 1000000 in
theorem tokens_good (cs : List R) (hg : Good cs) (hl : (fl cs).length ≤ 4000) (w : World) (h : Env w) :
    Calls Tryz.prog 23 #[str (fl cs)] w fun e w' => TokRes (lexS 0 cs) e w' ∧ Below w.heap.size w w' := by
  have cV := valid_any (fl cs) (by omega) w h
  rw [good_valid cs hg] at cV
  obtain ⟨s, hs⟩ : ∃ s : ByteArray, ⟨(fl cs).toArray⟩ = s := ⟨_, rfl⟩
  have hsz : s.size = (fl cs).length := by rw [← hs, size_mk]
  have d : decide ((4000 : Int) < (s.size : Int)) = false := by simp; omega
  unfold str at cV ⊢
  rw [hs] at cV ⊢
  have HE : Hid (Env w) := h
  clear h
  obtain ⟨i0, hi, hz0, hz1, hz2⟩ := info_parts info72
  go_enter Tryz.func23, Tryz.ntmps23
  go_wp2_with fail
  refine cV.mono ?_
  rintro e w1 ⟨rfl, hb1⟩
  have HB1 : Hid (Below w.heap.size w w1) := hb1
  clear hb1 cV
  go_wp2_with fail
  go_loopw [4, 5] (fun v nv wr => ∃ (A t : List R) (k nx : Nat) (out : List Tk), nv = .int .i64 (nx : Int) ∧ Hid (LSt cs A t k nx out) ∧ Hid (MSt w w1.heap.size s (fl A).length out v wr)) (fun _ _ wr => s.size - wr.iterPos w1.heap.size)
  case atStart => exact ⟨[], cs, 0, 0, [], rfl, LSt.start cs, ⟨World.ownsRow_nil _ _ _ _, World.iter_heap w1 s 0, HB1.out.alloc HB1.out.size _, HB1.out.size⟩⟩
  case round =>
    obtain ⟨A, t, k, nx, out, rfl, HL, HM⟩ := hrel
    have hit := HM.out.itr
    cases t with
    | nil =>
      have hp : ¬ (fl A).length < s.size := by rw [hsz, HL.out.all, List.append_nil]; omega
      have hnx : ∀ ty, (Instr.next (.pointer (some ⟨w1.heap.size, 0, none⟩)) true ty).run Tryz.prog wr = _ := fun ty => Lib.run_next_end_at wr w1.heap.size s _ ty hit hp
      have HD : Hid (lexS 0 cs = .ok out) := HL.out.done
      have hol : out.length ≤ 4000 := by
        have h1 := HL.out.few
        have h2 := fl_length_ge cs hg
        have h3 := congrArg List.length HL.out.all
        rw [List.length_append] at h3
        omega
      have hKs := heap_lt hit
      clear HL
      go_wp2_with (at_builtin; refine wpList_append_own _ rfl _ _ 66 rfl (w1.heap.size + 1) 89 i0 (tv tkEnd) 3 32 Tryz.underlying66 hi hz0 hz1 hz2 rfl (by decide) u4 _ _ rfl (HM.out.own.alloc _) ⟨wr.heap.size, 0, none⟩ 1 1 (enc3 tkEnd) rfl rfl (cell_new3g _ _ _ _ (by simp)) (enc3_one tkEnd) (by unfold maxLen; omega) (by omega) (by simp; omega) ?_; intro v3 w3 hown3 hgrow3 hnil3)
      have HM5 : Hid (MSt w w1.heap.size s (fl A).length (out ++ [tkEnd]) v3 w3) := HM.out.app tkEnd _ hown3 hgrow3
      clear hown3 hgrow3 HM
      go_wp2
      refine bodyPost_ret (v := .tuple #[v3, .int .i64 0]) ?_ rfl ⟨?_, HM5.out.bel⟩
      · simp [results, Tryz.results23, go_sem]
      · rw [HD.out]
        exact res_of_own HM5.out.own
    | cons x t =>
      have hgx : Good (x :: t) := by have h1 := hg; rw [HL.out.all] at h1; exact h1.right
      have hx1 := hgx.head.1
      have hp : (fl A).length < s.size := by
        rw [hsz, HL.out.all, fl_append, fl_cons, List.length_append, List.length_append]; omega
      have hdec : Utf8.decode s (fl A).length = (x.1, x.2.length) := by
        rw [← hs, HL.out.all, fl_append]; exact decode_mid _ x t hgx.head
      have hnx : ∀ ty, (Instr.next (.pointer (some ⟨w1.heap.size, 0, none⟩)) true ty).run Tryz.prog wr = _ := fun ty => Lib.run_next_any_at wr w1.heap.size s _ ty hit hp
      simp only [hdec] at hnx
      have HM2 : Hid (MSt w w1.heap.size s ((fl A).length + x.2.length) out u4 (wr.iterAt w1.heap.size s ((fl A).length + x.2.length))) := HM.out.move _
      obtain ⟨W, hWd⟩ : ∃ W, wr.iterAt w1.heap.size s ((fl A).length + x.2.length) = W := ⟨_, rfl⟩
      rw [hWd] at hnx HM2
      have hA4 : (fl A).length ≤ 4000 := by omega
      clear hdec hWd
      cases k with
      | succ k =>
        have hah := HL.out.ahead hx1
        have dl : decide ((fl A).length < nx) = true := by simp; omega
        have hm : Hid (wr.iterPos w1.heap.size = (fl A).length ∧ W.iterPos w1.heap.size = (fl A).length + x.2.length) := ⟨by simp only [World.iterPos, hit], by simp only [World.iterPos, HM2.out.itr]⟩
        clear hah hit
        go_wp2
        go_roundw
        case rel => exact ⟨A ++ [x], t, k, nx, out, rfl, HL.out.skip, by rw [fl_snoc]; exact HM2⟩
        case measure => rw [hm.out.1, hm.out.2]; omega
      | zero =>
        have hah := HL.out.here
        have dl : decide ((fl A).length < nx) = false := by simp; omega
        have hm : Hid (wr.iterPos w1.heap.size = (fl A).length) := by show _ = _; simp only [World.iterPos, hit]
        have hlt : (fl A).length < s.size := hp
        have cB := blank_any x.1
        clear hah hit hp
        cases hbl : bl x.1 with
        | true =>
          rw [hbl] at cB
          have HL2 := HL.out.blank hbl
          have HL2 : Hid (LSt cs (A ++ [x]) t 0 nx out) := HL2
          clear hbl HL
          go_wp2_with fail
          refine (cB _).mono ?_
          rintro e w2 ⟨rfl, hw2⟩
          subst w2
          go_wp2
          go_roundw
          case rel => exact ⟨A ++ [x], t, 0, nx, out, rfl, HL2, by rw [fl_snoc]; exact HM2⟩
          case measure =>
            rw [hm.out]
            simp only [World.iterPos, HM2.out.itr]
            omega
        | false =>
          rw [hbl] at cB
          have hcr := cut_right (fl A) (fl (x :: t))
          have eF : Hid (s = ⟨(fl A ++ fl (x :: t)).toArray⟩) := by show _ = _; rw [← hs, HL.out.all, fl_append]
          unfold str at hcr
          rw [← eF.out] at hcr
          have hl2 : (fl (x :: t)).length ≤ 4000 := by
            have h1 := hl
            rw [HL.out.all, fl_append, List.length_append] at h1; omega
          by_cases h35 : x.1 = 35
          · have cS := span_line (x :: t) hgx
            have HL2 : Hid (LSt cs (A ++ [x]) t (span il t).length ((fl A).length + (fl (span il (x :: t))).length) out) := HL.out.remark hbl h35
            have hsl : (fl (span il (x :: t))).length ≤ 4000 := by
              have e : fl (x :: t) = fl (span il (x :: t)) ++ fl ((x :: t).drop (span il (x :: t)).length) := by
                conv => lhs; rw [← List.take_append_drop (span il (x :: t)).length (x :: t), fl_append, ← span_take]
              rw [e, List.length_append] at hl2; omega
            have d35 : ((x.1 : Int) == (35 : Int)) = true := by simp; omega
            clear hbl h35 HL eF
            generalize (fl (span il (x :: t))).length = m at *
            generalize fl (x :: t) = F at *
            go_wp2_with fail
            refine (cB _).mono ?_
            rintro e w2 ⟨rfl, hw2⟩
            subst w2
            go_wp2_with fail
            refine (cS _).mono ?_
            rintro e w2 ⟨rfl, hb2⟩
            have HM3 : Hid (MSt w w1.heap.size s ((fl A).length + x.2.length) out u4 w2) := HM2.out.below hb2
            clear hb2 HM2
            go_wp2
            go_roundw
            case rel => exact ⟨A ++ [x], t, (span il t).length, (fl A).length + m, out, by go_num, HL2, by rw [fl_snoc]; exact HM3⟩
            case measure =>
              rw [hm.out]
              simp only [World.iterPos, HM3.out.itr]
              omega
          · have cF := first_any x t hgx (by omega)
            have d35 : ((x.1 : Int) == (35 : Int)) = false := by simp; omega
            have hEW : Env W := HE.out.below HM2.out.bel
            replace cF := cF W hEW
            cases hf : fst1 x t with
            | error er =>
              rw [hf] at cF
              have HR : Hid (lexS 0 cs = .error er) := HL.out.fail hbl h35 hf
              have her : Hid (er ≠ 0 ∧ er < 1000) := fst1_err hf
              clear hbl h35 HL eF hf hEW
              have dne : (((er : Nat) : Int) != 0) = true := by have := her.out; simp; omega
              unfold fv at cF
              generalize fl (x :: t) = F at *
              go_wp2_with fail
              refine (cB _).mono ?_
              rintro e w2 ⟨rfl, hw2⟩
              subst w2
              go_wp2_with fail
              refine cF.mono ?_
              rintro e w2 ⟨rfl, hb2⟩
              have HM3 : Hid (MSt w w1.heap.size s ((fl A).length + x.2.length) out u4 w2) := HM2.out.below hb2
              clear hb2 HM2
              go_wp2
              refine bodyPost_ret (v := .tuple #[.slice none 0 0, .int .i64 (er : Int)]) ?_ rfl ⟨?_, HM3.out.bel.alloc HM3.out.bel.size _⟩
              · simp [results, Tryz.results23, go_sem]
              · rw [HR.out]; rfl
            | ok y =>
              obtain ⟨tk, n⟩ := y
              rw [hf] at cF
              have HL2 : Hid (LSt cs (A ++ [x]) t n ((fl A).length + (fl (x :: t.take n)).length) (out ++ [tk])) := HL.out.token hbl h35 hf
              have hol : out.length ≤ 4000 := by
                have h1 := HL.out.few
                have h2 := fl_length_ge cs hg
                have h3 := congrArg List.length HL.out.all
                rw [List.length_append] at h3
                omega
              have hml : (fl (x :: t.take n)).length ≤ 4000 := by
                rw [fl_split x t n, List.length_append] at hl2; omega
              have hfv : fv x t (.ok (tk, n)) = .tuple #[tv tk, .int .i64 ((fl (x :: t.take n)).length : Int), .int .i64 0] := rfl
              rw [hfv] at cF
              clear hbl h35 HL eF hf hEW hfv
              generalize (fl (x :: t.take n)).length = m at *
              generalize fl (x :: t) = F at *
              go_wp2_with fail
              refine (cB _).mono ?_
              rintro e w2 ⟨rfl, hw2⟩
              subst w2
              go_wp2_with fail
              refine cF.mono ?_
              rintro e w2 ⟨rfl, hb2⟩
              have HM3 : Hid (MSt w w1.heap.size s ((fl A).length + x.2.length) out u4 w2) := HM2.out.below hb2
              have HM4 : Hid (MSt w w1.heap.size s ((fl A).length + x.2.length) out u4 (w2.alloc (.cells #[.int .i64 tk.kind, .string ⟨tk.s.toArray⟩, .int .u16 (tk.n : Int)] 89))) := HM3.out.below ((Below.refl _ _).alloc (Nat.le_refl _) _)
              have hKs := heap_lt HM3.out.itr
              clear hb2 HM2
              go_wp2_with (at_builtin; refine wpList_append_own _ rfl _ _ 66 rfl (w1.heap.size + 1) 89 i0 (tv tkEnd) 3 32 Tryz.underlying66 hi hz0 hz1 hz2 rfl (by decide) u4 _ _ rfl (HM4.out.own.alloc _) ⟨w2.heap.size + 1, 0, none⟩ 1 1 (enc3 tk) rfl rfl (cell_new3g _ _ _ _ (by simp)) (enc3_one tk) (by unfold maxLen; omega) (by omega) (by simp; omega) ?_; intro v3 w3 hown3 hgrow3 hnil3)
              have HM5 : Hid (MSt w w1.heap.size s ((fl A).length + x.2.length) (out ++ [tk]) v3 w3) := HM4.out.app tk _ hown3 hgrow3
              clear hown3 hgrow3 hnil3 HM3 HM4
              go_wp2
              go_roundw
              case rel => exact ⟨A ++ [x], t, n, (fl A).length + m, out ++ [tk], by go_num, HL2, by rw [fl_snoc]; exact HM5⟩
              case measure =>
                rw [hm.out]
                simp only [World.iterPos, HM5.out.itr]
                omega
end Go.Proofs.YtebpapmnkbehnaaGreatDoor
