/- What again does by the book; no conditions. -/
import Derived.Test.YtipiepcbgjceaaaOP
import Derived.Test.YtipiepcbgjceaaaH6
import Derived.Deep.Cut
set_option linter.unusedVariables false
set_option linter.unusedSimpArgs false
namespace Go.Proofs.Ytipiepcbgjceaaa
open Go.RowKit Go.Joins Go.Maps

/-- Where again stands. -/
structure AgS (B : Nat) (G : Nat → Option Pl) (X : Nat → Prop) (op f n : Int) (kids : List Pl) (b g M : Nat) (sv : Nat → Value) (oc : Nat → Nat) (sl : Nat → List Nat) (q : P8) (kv : Value) (w wr : World) : Prop where
  fr : Fr B w wr
  inv : Inv B G X wr
  row : wr.heap[b]? = some (nobjN op f n kv (some ⟨g, 0, none⟩))
  book : BookAt X wr g M (.mk op f n kids) sv oc sl
  box : wr.heap[w.heap.size]? = some (pobj8 q)
theorem AgS.below {B : Nat} {G : Nat → Option Pl} {X : Nat → Prop} {op f n : Int} {kids : List Pl} {b g M : Nat} {sv : Nat → Value} {oc : Nat → Nat} {sl : Nat → List Nat} {q : P8} {kv : Value} {w wr w' : World} (h : AgS B G X op f n kids b g M sv oc sl q kv w wr) (hG : G b = some (.mk op f n kids)) (hb : Below wr.heap.size wr w') : AgS B G X op f n kids b g M sv oc sl q kv w w' := by
  have hI := h.inv.below hb
  obtain ⟨h1, h2⟩ := hI.same_book (Fr.of_below (B := B) hb) hG h.row h.book
  exact ⟨h.fr.trans (Fr.of_below hb), hI, h1, h2, (hb.block _ (heap_lt h.box)).trans h.box⟩
theorem BookAt.ok {X : Nat → Prop} {w : World} {g M : Nat} {T : Pl} {sv : Nat → Value} {oc : Nat → Nat} {sl : Nat → List Nat} (h : BookAt X w g M T sv oc sl) : BookOK T oc sl := ⟨h.mem, h.oth⟩
theorem BookAt.like {X : Nat → Prop} {w : World} {g M : Nat} {T : Pl} {sv : Nat → Value} {oc : Nat → Nat} {sl : Nat → List Nat} (h : BookAt X w g M T sv oc sl) : LikeAt w g M sv oc sl := ⟨h.row, fun f hf => ⟨(h.said f hf).1, (h.said f hf).2.1, (h.said f hf).2.2.1⟩⟩
/-- Behind the keeping of an answer. -/
theorem AgS.kept {B : Nat} {G : Nat → Option Pl} {X : Nat → Prop} {op f n : Int} {kids : List Pl} {b g M : Nat} {sv : Nat → Value} {oc : Nat → Nat} {sl : Nat → List Nat} {q : P8} {kv : Value} {w W w2 : World} (h : AgS B G X op f n kids b g M sv oc sl q kv w W) (hG : G b = some (.mk op f n kids)) (hg : W.grownBy w2 (some M)) (hm : MapAt X w2 M (.mk op f n kids)) {v : Value} {l : List P8} (hv : Pv W v l) :
    AgS B G X op f n kids b g M sv oc sl q kv w w2 ∧ Pv w2 v l := by
  have hM := h.book.map.isMapB
  have hmc : calm W.heap[M]? = false := by
    obtain ⟨es, clock, hM⟩ := hM
    rw [hM]; rfl
  have keep : ∀ c, c < W.heap.size → c ≠ M → w2.heap[c]? = W.heap[c]? := fun c h1 h2 => hg.block c h1 fun e => h2 (by injection e)
  have hge := h.inv.map_ge hG h.row h.book.row
  refine ⟨⟨h.fr.trans ⟨hg.os, hg.tape, hg.output, hg.size, fun k hk hkB => keep k hk (by omega), fun k hk hc => keep k hk fun e => by rw [e, hmc] at hc; cases hc⟩, h.inv.kept hG h.row h.book.row hg hm hM, (keep b (heap_lt h.row) (isT_ne_map (t := 73) ⟨_, _, h.row⟩ hM)).trans h.row,
    ⟨(keep g (heap_lt h.book.row) (isT_ne_map (t := 101) ⟨_, _, h.book.row⟩ hM)).trans h.book.row, fun f hf => ⟨(h.book.said f hf).1.keep hg.size fun c h3 h4 => keep c h4 (isT_ne_map h3 hM), (h.book.said f hf).2⟩, h.book.mem, h.book.oth, hm⟩, (keep _ (heap_lt h.box) (isT_ne_map (t := 26) ⟨_, _, h.box⟩ hM)).trans h.box⟩, ?_⟩
  exact hv.keep hg.size fun c o n c' e h1 h2 => keep c h1 fun e2 => by rw [e2, hmc] at h2; cases h2
set_option maxRecDepth 100000 in
set_option maxHeartbeats 8000000 in
theorem many_any (B : Nat) (G : Nat → Option Pl) : Many B G := by
  intro T s hgood hs2 hs64 hkids hMk X b q w hq hG hX hI
  obtain ⟨op, f, n, kids⟩ := T
  have hb0 : Below w.heap.size w (w.alloc (pobj8 q)) := (Below.refl _ w).alloc (Nat.le_refl _) _
  have hI0 := hI.below hb0
  obtain ⟨kv, bk, hrow, hkd, hbook⟩ := hI0.full hG
  have hbl := heap_lt hrow
  obtain ⟨sa, sc, rfl, hkd2⟩ := hkd
  obtain ⟨R, hR⟩ : ∃ R, kids.length = R := ⟨_, rfl⟩
  have hR0 : ¬ ((R : Int) = 0) := by
    have : kids ≠ [] := hkids
    have := List.length_pos_iff.2 this
    omega
  have dR : ((R : Int) == 0) = false := by simp; omega
  have ds : decide (s < 2) = false := by simp; omega
  obtain ⟨W, hW⟩ : ∃ W, w.alloc (pobj8 q) = W := ⟨_, rfl⟩
  rw [hW] at hb0 hI0 hrow hkd2 hbook hbl
  have hbx : W.heap[w.heap.size]? = some (pobj8 q) := by rw [← hW]; exact heap_alloc_new _ _
  rw [hR] at hrow
  obtain ⟨r0, r1, r2, r3, r4⟩ := row5 hrow
  obtain ⟨⟨x0, x1, x2, x3, x4, x5, x6, x7⟩, -, -⟩ := row8 hbx
  have f4 : W.frozen? ⟨b, 4, none⟩ = false := frozen_of_row _ _ _ _ _ hrow
  have HB0 := hid hb0
  have HI0 := hid hI0
  have HRow := hid hrow
  have HBk := hid hbook
  have HBx := hid hbx
  have HG := hid hG
  have HGood := hid hgood
  have HMk := hid hMk
  have HX := hid hX
  have HQ := hid hq
  clear hI hb0 hI0 hrow hbook hbx hkd2 hkids hG hgood hMk hX hR hq
  go_enter Try.func52, Try.ntmps52
  go_upto_if 32 with fail
  go_cut [] from 13 (fun wx => ∃ g M sv oc sl, Hid (AgS B G X op f n kids b g M sv oc sl q (.slice sa R sc) w wx))
  case first =>
    cases bk with
    | none =>
      have cN := newBook_any W HI0.out _ b HGood.out HG.out
      go_wp2_with (go_at_call 61; refine cN.mono ?_; rintro e w1 ⟨g, M, sv, oc, sl, rfl, hb1, hg, hM, hBk⟩; have hr1 := (hb1.block b hbl).trans HRow.out; obtain ⟨u0, u1, u2, u3, u4⟩ := row5 hr1; have v4 : w1.frozen? ⟨b, 4, none⟩ = false := frozen_of_row _ _ _ _ _ hr1)
      go_meet
      case rel =>
        refine ⟨g, M, sv, oc, sl, ?_⟩
        have hset := heap_setCell_same w1 b 4 _ _ (.pointer (some ⟨g, 0, none⟩)) hr1
        have hne : w.heap.size ≠ b := fun e => by
          have h1 := HBx.out
          rw [e, HRow.out] at h1
          cases h1
        refine ⟨?_, HI0.out.withBook HG.out HRow.out hb1 hBk hM, by simpa using hset, hBk.set hr1 _ _, ?_⟩
        · have hf1 : Fr B w w1 := (Fr.of_below HB0.out).trans (Fr.of_below hb1)
          have hBb : B ≤ b := by
            obtain ⟨_, ow, _, h⟩ := HI0.out
            exact (h b _ _ _ _ HG.out).1
          refine ⟨hf1.os, hf1.tape, hf1.output, by simpa using hf1.size, fun k hk hkB => ?_, fun k hk hc => ?_⟩
          · rw [heap_setCell_other _ _ _ _ (show k ≠ b by omega)]
            exact hf1.low k hk hkB
          · rw [heap_setCell_other _ _ _ _ (show k ≠ b from fun e => by
              subst e
              rw [← HB0.out.block k hk, not_calm_node HRow.out] at hc
              cases hc)]
            exact hf1.calm k hk hc
        · rw [heap_setCell_other _ _ _ _ hne]
          exact (hb1.block _ (heap_lt HBx.out)).trans HBx.out
    | some a =>
      go_wp2_with fail
      go_meet
      case rel =>
        obtain ⟨g, M, sv, oc, sl, rfl, hBk⟩ := HBk.out a rfl
        exact ⟨g, M, sv, oc, sl, Fr.of_below HB0.out, HI0.out, HRow.out, hBk, HBx.out⟩
  case rest =>
    obtain ⟨g, M, sv, oc, sl, HA⟩ := hcut
    clear r0 r1 r2 r3 r4 x0 x1 x2 x3 x4 x5 x6 x7 f4 HB0 HI0 HRow HBk HBx hW
    obtain ⟨r0, r1, r2, r3, r4⟩ := row5 HA.out.row
    obtain ⟨⟨x0, x1, x2, x3, x4, x5, x6, x7⟩, -, -⟩ := row8 HA.out.box
    obtain ⟨⟨l0, l1, l2, l3, l4, l5, l6, l7⟩, hlk⟩ : ∃ lk, likeP oc sl q = lk := ⟨_, rfl⟩
    have HLk := hid hlk
    have cL : Hid (∀ W', Below wc.heap.size wc W' → Calls Try.prog 62 #[.pointer (some ⟨g, 0, none⟩), q.v] W' fun e w' => e = .returned (pk l0 l1 l2 l3 l4 l5 l6 l7) ∧ Below W'.heap.size W' w') := fun W' hW' => by
      have := like_any g M sv oc sl q W' (HA.out.book.like.below hW') HQ.out
      rw [hlk] at this
      exact this
    clear hlk
    have HD : Hid (Below wc.heap.size wc wc.drew) := below_drewN (Below.refl _ wc) 1
    have HDa : Hid (Below wc.heap.size wc (wc.alloc (pobj8 ⟨0, 0, 0, 0, 0, 0, 0, 0⟩)).drew) := below_drewN ((Below.refl _ wc).alloc (Nat.le_refl _) _) 1
    obtain ⟨a0, a1, a2, a3, a4⟩ := row5 ((Below.heap_alloc wc (pobj8 ⟨0, 0, 0, 0, 0, 0, 0, 0⟩) _ (heap_lt HA.out.row)).trans HA.out.row)
    obtain ⟨⟨y0, y1, y2, y3, y4, y5, y6, y7⟩, -, -⟩ := row8 ((Below.heap_alloc wc (pobj8 ⟨0, 0, 0, 0, 0, 0, 0, 0⟩) _ (heap_lt HA.out.box)).trans HA.out.box)
    go_upto_region 5 with fail
    go_cut [8] from 13 (fun s8 wx => ∃ c, s8 = .pointer (some ⟨c, 0, none⟩) ∧ Hid (AgS B G X op f n kids b g M sv oc sl q (.slice sa R sc) w wx) ∧ Hid (wx.heap[c]? = some (pobj8 ⟨l0, l1, l2, l3, l4, l5, l6, l7⟩)))
    case first =>
      go_region_with (first
        | (go_at_call 62; refine (cL.out _ HD.out).mono ?_; rintro e w2 ⟨rfl, hb2⟩)
        | (go_at_call 62; refine (cL.out _ HDa.out).mono ?_; rintro e w2 ⟨rfl, hb2⟩; have hz : w2.heap[wc.heap.size]? = some (pobj8 ⟨0, 0, 0, 0, 0, 0, 0, 0⟩) := (hb2.block _ (by simp)).trans (heap_alloc_new wc _); obtain ⟨⟨z0, z1, z2, z3, z4, z5, z6, z7⟩, -, -⟩ := row8 hz; have fz : ∀ o, w2.frozen? ⟨wc.heap.size, o, none⟩ = false := (fun o => frozen_of_row _ _ _ _ _ hz)))
      all_goals
        go_wp2_with fail
        go_meet
        first
          | (have hbA : Below wc.heap.size wc w2 := HD.out.trans (hb2.mono HD.out.size)
             have hbB : Below wc.heap.size wc (w2.alloc (pobj8 ⟨l0, l1, l2, l3, l4, l5, l6, l7⟩)) := hbA.alloc hbA.size _
             exact ⟨_, rfl, HA.out.below HG.out hbB, heap_alloc_new _ _⟩)
          | (have hbA : Below wc.heap.size wc w2 := HDa.out.trans (hb2.mono HDa.out.size)
             exact ⟨_, rfl, HA.out.below HG.out (put8_below (o := 0) hbA (Nat.le_refl _) ⟨l0, l1, l2, l3, l4, l5, l6, l7⟩), set8 (.int .u16 l0) (.int .u16 l1) (.int .u16 l2) (.int .u16 l3) (.int .u16 l4) (.int .u16 l5) (.int .u16 l6) (.int .u16 l7) hz⟩)
    case rest =>
      obtain ⟨c, rfl, HA2, HC⟩ := hcut
      clear r0 r1 r2 r3 r4 x0 x1 x2 x3 x4 x5 x6 x7 a0 a1 a2 a3 a4 y0 y1 y2 y3 y4 y5 y6 y7 cL HD HDa HA
      obtain ⟨r0, r1, r2, r3, r4⟩ := row5 HA2.out.row
      obtain ⟨⟨x0, x1, x2, x3, x4, x5, x6, x7⟩, -, -⟩ := row8 HC.out
      have rM : wc.cell? ⟨g, 16, none⟩ = some (.map (some M)) := by rw [cell_of_row _ _ _ _ _ _ HA2.out.book.row]; rfl
      have hq8 : Q8 ⟨l0, l1, l2, l3, l4, l5, l6, l7⟩ := by
        rw [← HLk.out]
        exact like_q8 (fun f hf => (HA2.out.book.oth f hf).2) HQ.out
      have HQ8 := hid hq8
      obtain ⟨kl, hkl⟩ := key26 _ hq8
      obtain ⟨D, hD, hget⟩ := HA2.out.book.map
      have hz : (zeroValue 33).run Try.prog wc.drew = .ok (.slice none 0 0) wc.drew := Try.zeroValue33 _
      obtain ⟨v, ps, hlook, hv⟩ := hD.drew.look_ok keyed26 und99 hz (zd := .held (.slice none 0 0)) (zp := []) rfl hkl
      have hlook2 : (Instr.lookup 99 (.map (some M)) (.agg #[.int .u16 l0, .int .u16 l1, .int .u16 l2, .int .u16 l3, .int .u16 l4, .int .u16 l5, .int .u16 l6, .int .u16 l7]) true).run Try.prog wc.drew = .ok (.tuple #[v, .bool (has D kl)]) wc.drew := hlook
      have HGet := hid (hget _ kl hkl)
      have HV := hid hv
      clear hz hlook hget hq8 hD hv
      cases hk : has D kl with
      | true =>
        rw [hk] at hlook2
        obtain ⟨v1, l, e1, e2, e3, _⟩ := HGet.out hk
        have ev : v = v1 := by
          have := HV.out
          rw [e1] at this
          simp only [asIs, Option.some.injEq, Prod.mk.injEq, DataW.held.injEq] at this
          exact this.1
        subst ev
        have HM : Hid (mkP [] (.mk op f n kids) ⟨l0, l1, l2, l3, l4, l5, l6, l7⟩ = some l) := e2
        clear e1 e2 hk
        have HA3 : Hid (AgS B G X op f n kids b g M sv oc sl q (.slice sa R sc) w wc.drew) := HA2.out.below HG.out (below_drewN (Below.refl _ wc) 1)
        have HPV : Hid (Pv wc.drew v l) := e3.below (below_drewN (Below.refl _ wc) 1)
        clear e3
        go_wp2_with fail
        go_region
        all_goals go_wp2_with fail
        generalize wc.drew = wd at *
        clear r0 r1 r2 r3 r4 x0 x1 x2 x3 x4 x5 x6 x7 rM hlook2
        have cB : Hid (∀ W', Below wd.heap.size wd W' → Calls Try.prog 64 #[.pointer (some ⟨g, 0, none⟩), v, q.v] W' fun e w' => ∃ v', e = .returned v' ∧ Below W'.heap.size W' w' ∧ NewV W'.heap.size v' ∧ Pv w' v' (l.map (backP oc q))) := fun W' hW' => back_both g M sv oc q v l W' ((hW'.block _ (heap_lt HA3.out.book.row)).trans HA3.out.book.row) (mkP_len [] _ _ _ HM.out) (HPV.out.below hW')
        have HDB : Hid (Below wd.heap.size wd wd.drew) := below_drewN (Below.refl _ wd) 1
        have HEnd : Hid (∀ W' w' v', Below wd.heap.size wd W' → Below W'.heap.size W' w' → NewV W'.heap.size v' → Pv w' v' (l.map (backP oc q)) → AgainEnd B G X (mkP [] (.mk op f n kids) q) w (.returned (.tuple #[v', .bool true])) w') := fun W' w' v' h1 h2 h3 h4 => by
          have hb := h1.trans (h2.mono h1.size)
          have hml := mk_like HA3.out.book.ok HGood.out.form HGood.out.ok q HQ.out
          rw [HLk.out, HM.out, Option.map_some] at hml
          refine ⟨v', true, rfl, HA3.out.fr.trans (Fr.of_below hb), HA3.out.inv.below hb, h3.mono (Nat.le_trans HA3.out.fr.size h1.size), fun l' hl' => ⟨rfl, _, h4, ?_, by rw [List.length_map]; exact mkP_len [] _ _ _ HM.out⟩, fun h => ?_⟩
          · rw [hml] at hl'
            exact Option.some.inj hl'
          · rw [hml] at h
            cases h
        obtain ⟨t0, t1, t2, t3, t4⟩ := row5 HA3.out.row
        obtain ⟨⟨s0, s1, s2, s3, s4, s5, s6, s7⟩, -, -⟩ := row8 HA3.out.box
        go_wp2_with fail
        go_region_with (go_at_call 64; refine (cB.out _ HDB.out).mono ?_; rintro e w9 ⟨v9, rfl, h91, h92, h93⟩)
        all_goals
          have HE9 := hid (HEnd.out _ w9 v9 HDB.out h91 h92 h93)
          clear h91 h92 h93
          go_wp2_with fail
          refine bodyPost_ret (v := .tuple #[v9, .bool true]) ?_ rfl HE9.out
          simp [results, Try.results52, go_sem]
      | false =>
        rw [hk] at hlook2
        clear hk
        have HA3 : Hid (AgS B G X op f n kids b g M sv oc sl q (.slice sa R sc) w wc.drew) := HA2.out.below HG.out (below_drewN (Below.refl _ wc) 1)
        have HC3 : Hid (wc.drew.heap[c]? = some (pobj8 ⟨l0, l1, l2, l3, l4, l5, l6, l7⟩)) := HC.out
        have cM := HMk.out X b ⟨l0, l1, l2, l3, l4, l5, l6, l7⟩ wc.drew HQ8.out HG.out (HX.out.mono HA3.out.fr.size) HA3.out.inv
        go_wp2_with fail
        go_region
        all_goals go_wp2_with fail
        clear r0 r1 r2 r3 r4 x0 x1 x2 x3 x4 x5 x6 x7 rM hlook2 HA2 HC HGet HV
        refine cM.mono ?_
        rintro e w1 ⟨v1, ok, rfl, hf1, hI1, hn1, hs1, hn2⟩
        clear cM
        cases hr : mkP [] (.mk op f n kids) ⟨l0, l1, l2, l3, l4, l5, l6, l7⟩ with
        | none =>
          obtain ⟨rfl, rfl⟩ := hn2 hr
          have HEn : Hid (AgainEnd B G X (mkP [] (.mk op f n kids) q) w (.returned (.tuple #[.slice none 0 0, .bool false])) w1) := by
            have hml := mk_like HA3.out.book.ok HGood.out.form HGood.out.ok q HQ.out
            rw [HLk.out, hr, Option.map_none] at hml
            exact ⟨_, false, rfl, HA3.out.fr.trans hf1, hI1, NewV.nil _, fun l h => (by rw [hml] at h; cases h), fun _ => ⟨rfl, rfl⟩⟩
          clear hf1 hI1 hn1 hs1 hn2 hr
          go_wp2_with fail
          refine bodyPost_ret (v := .tuple #[.slice none 0 0, .bool false]) ?_ rfl HEn.out
          simp [results, Try.results52, go_sem]
        | some l =>
          obtain ⟨rfl, hpv⟩ := hs1 l hr
          have HM : Hid (mkP [] (.mk op f n kids) ⟨l0, l1, l2, l3, l4, l5, l6, l7⟩ = some l) := hr
          have HA4 : Hid (AgS B G X op f n kids b g M sv oc sl q (.slice sa R sc) w w1) := by
            obtain ⟨k1, k2⟩ := hI1.same_book hf1 HG.out HA3.out.row HA3.out.book
            exact ⟨HA3.out.fr.trans hf1, hI1, k1, k2, (hf1.calm _ (heap_lt HA3.out.box) (calm_cells HA3.out.box (by decide))).trans HA3.out.box⟩
          have HC4 : Hid (w1.heap[c]? = some (pobj8 ⟨l0, l1, l2, l3, l4, l5, l6, l7⟩)) := (hf1.calm _ (heap_lt HC3.out) (calm_cells HC3.out (by decide))).trans HC3.out
          have hoff : Off X v1 := fun b o n c e hb => by
            have h1 := hn1 b o n c e
            have h2 := HX.out b hb
            have h3 := HA3.out.fr.size
            omega
          have cK : Hid (∀ W', Below w1.heap.size w1 W' → Calls Try.prog 63 #[.pointer (some ⟨g, 0, none⟩), pk l0 l1 l2 l3 l4 l5 l6 l7, v1] W' fun e w' => e = .returned (.tuple #[]) ∧ MapAt X w' M (.mk op f n kids) ∧ W'.grownBy w' (some M)) := fun W' hW' => by
            have h4 := HA4.out.below HG.out hW'
            refine keep_any g M sv oc ⟨l0, l1, l2, l3, l4, l5, l6, l7⟩ v1 l W' h4.book.row h4.book.map HQ8.out HM.out (hpv.below hW') hoff fun hx => ?_
            have h2 := HX.out _ hx
            have h3 := h4.fr.size
            omega
          have HD4 : Hid (Below w1.heap.size w1 w1.drew) := below_drewN (Below.refl _ w1) 1
          have HA5 : Hid (∀ w2, MapAt X w2 M (.mk op f n kids) → w1.drew.grownBy w2 (some M) → AgS B G X op f n kids b g M sv oc sl q (.slice sa R sc) w w2 ∧ Pv w2 v1 l) := fun w2 hm hg => (HA4.out.below HG.out HD4.out).kept HG.out hg hm (hpv.below HD4.out)
          obtain ⟨r0, r1, r2, r3, r4⟩ := row5 HA4.out.row
          obtain ⟨⟨x0, x1, x2, x3, x4, x5, x6, x7⟩, -, -⟩ := row8 HC4.out
          clear hf1 hI1 hn1 hs1 hn2 hr hpv hoff HC3 HA3
          go_wp2_with fail
          go_region_with (go_at_call 63; refine (cK.out _ HD4.out).mono ?_; rintro e w2 ⟨rfl, hm2, hg2⟩)
          all_goals
            obtain ⟨ha6, hp6⟩ := HA5.out w2 hm2 hg2
            have HA6 := hid ha6
            have HPV := hid hp6
            clear ha6 hp6 hm2 hg2 r0 r1 r2 r3 r4 x0 x1 x2 x3 x4 x5 x6 x7
            have cB : Hid (∀ W', Below w2.heap.size w2 W' → Calls Try.prog 64 #[.pointer (some ⟨g, 0, none⟩), v1, q.v] W' fun e w' => ∃ v', e = .returned v' ∧ Below W'.heap.size W' w' ∧ NewV W'.heap.size v' ∧ Pv w' v' (l.map (backP oc q))) := fun W' hW' => back_both g M sv oc q v1 l W' ((hW'.block _ (heap_lt HA6.out.book.row)).trans HA6.out.book.row) (mkP_len [] _ _ _ HM.out) (HPV.out.below hW')
            have HDB : Hid (Below w2.heap.size w2 w2.drew) := below_drewN (Below.refl _ w2) 1
            have HEnd : Hid (∀ W' w' v', Below w2.heap.size w2 W' → Below W'.heap.size W' w' → NewV W'.heap.size v' → Pv w' v' (l.map (backP oc q)) → AgainEnd B G X (mkP [] (.mk op f n kids) q) w (.returned (.tuple #[v', .bool true])) w') := fun W' w' v' h1 h2 h3 h4 => by
              have hb := h1.trans (h2.mono h1.size)
              have hml := mk_like HA6.out.book.ok HGood.out.form HGood.out.ok q HQ.out
              rw [HLk.out, HM.out, Option.map_some] at hml
              refine ⟨v', true, rfl, HA6.out.fr.trans (Fr.of_below hb), HA6.out.inv.below hb, h3.mono (Nat.le_trans HA6.out.fr.size h1.size), fun l' hl' => ⟨rfl, _, h4, ?_, by rw [List.length_map]; exact mkP_len [] _ _ _ HM.out⟩, fun h => ?_⟩
              · rw [hml] at hl'
                exact Option.some.inj hl'
              · rw [hml] at h
                cases h
            obtain ⟨t0, t1, t2, t3, t4⟩ := row5 HA6.out.row
            obtain ⟨⟨s0, s1, s2, s3, s4, s5, s6, s7⟩, -, -⟩ := row8 HA6.out.box
            go_wp2_with fail
            go_region_with (go_at_call 64; refine (cB.out _ HDB.out).mono ?_; rintro e w9 ⟨v9, rfl, h91, h92, h93⟩)
            all_goals
              have HE9 := hid (HEnd.out _ w9 v9 HDB.out h91 h92 h93)
              clear h91 h92 h93
              go_wp2_with fail
              refine bodyPost_ret (v := .tuple #[v9, .bool true]) ?_ rfl HE9.out
              simp [results, Try.results52, go_sem]
end Go.Proofs.Ytipiepcbgjceaaa
