/- What together answers, where makes answers as the model. -/
import Derived.Test.YtipiepcbgjceaaaH2
set_option linter.unusedVariables false
set_option linter.unusedSimpArgs false
namespace Go.Proofs.Ytipiepcbgjceaaa
open Go.RowKit Go.Joins Go.Maps

theorem mkSum_cons (st : List Nat) (p : Pl) (r : List Pl) (q : P8) (acc : List P8) : mkP.mkSum st (p :: r) q acc = match mkP st p q with
    | none => none
    | some m => if 64 < (uni acc m).length then none else mkP.mkSum st r q (uni acc m) := by
  rw [mkP.mkSum]
  cases mkP st p q <;> rfl
/-- A packet's cells. -/
abbrev pobj8 (q : P8) : Obj := .cells #[.int .u16 q.a0, .int .u16 q.a1, .int .u16 q.a2, .int .u16 q.a3, .int .u16 q.a4, .int .u16 q.a5, .int .u16 q.a6, .int .u16 q.a7] 26
/-- Where together stands. -/
structure SSt (B : Nat) (G : Nat → Option Pl) (X : Nat → Prop) (w : World) (q : P8) (kv : Value) (kids : List Pl) (v : Value) (acc : List P8) (wr : World) : Prop where
  col : Col B G X w v acc wr
  kd : KidsV G wr kv kids
  box : wr.heap[w.heap.size]? = some (pobj8 q)
  ne : some w.heap.size ≠ v.ownBlock
theorem EachEnd.made {B : Nat} {G : Nat → Option Pl} {X : Nat → Prop} {r : Option (List P8)} {w w' : World} {e : Ending} (h : EachEnd B G X r w e w') : MadeEnd B G X r w e w' := by
  obtain ⟨v, ok, e1, e2, e3, e4, e5, e6⟩ := h
  exact ⟨v, ok, e1, e2, e3, e4, fun l hl => ⟨(e5 l hl).1, (e5 l hl).2.pv⟩, e6⟩

set_option maxRecDepth 100000 in
set_option maxHeartbeats 8000000 in
theorem sum_any (B : Nat) (G : Nat → Option Pl) (X : Nat → Prop) (op f n : Int) (kids : List Pl) (b : Nat) (q : P8) (w : World) (hgood : GoodT (.mk op f n kids)) (hq : Q8 q) (hG : G b = some (.mk op f n kids)) (hX : Bnd X w) (hI : Inv B G X w)
    (hA : ∀ k (hk : k < kids.length), MakesC B G kids[k]) :
    Calls Try.prog 35 #[.pointer (some ⟨b, 0, none⟩), q.v] w fun e w' => MadeEnd B G X (mkP.mkSum [] kids q []) w e w' := by
  have hb0 : Below w.heap.size w (w.alloc (pobj8 q)) := (Below.refl _ w).alloc (Nat.le_refl _) _
  obtain ⟨kv, bk, hrow, hkv⟩ := (hI.below hb0).node hG
  have hkv0 := hkv
  obtain ⟨sa, sc, rfl, -⟩ := hkv
  obtain ⟨r0, r1, r2, r3, r4⟩ := row5 hrow
  have hkl : kids.length ≤ 300 := by have := hgood.size; rw [sizeP_mk] at this; have := len_le kids; omega
  have HX : Hid (Bnd X w) := hX
  have HA : Hid _ := hA
  have HQ : Hid (Q8 q) := hq
  have HS0 : Hid (SSt B G X w q (.slice sa kids.length sc) kids (.slice none 0 0) [] (w.alloc (pobj8 q))) := ⟨Col.start hI hb0, hkv0, heap_alloc_new _ _, by simp [Value.ownBlock]⟩
  clear hgood hq hG hX hI hA hb0 hrow hkv0
  obtain ⟨R, eR⟩ : ∃ R, kids.length = R := ⟨_, rfl⟩
  have HER : Hid (kids.length = R) := eR
  rw [eR] at r3 hkl HS0
  clear eR
  go_enter Try.func35, Try.ntmps35
  go_wp2_with fail
  go_loopw [6, 16] (fun av i wr => ∃ (k : Nat) (acc : List P8), k ≤ R ∧ i = .int .i64 (k : Int) ∧ acc.length ≤ 64 ∧ Hid (mkP.mkSum [] kids q [] = mkP.mkSum [] (kids.drop k) q acc) ∧ Hid (SSt B G X w q (.slice sa R sc) kids av acc wr)) (fun _ i _ => R - (intOf i).toNat)
  case atStart => exact ⟨0, [], Nat.zero_le _, rfl, by simp, by show _ = _; rw [List.drop_zero], HS0⟩
  case round =>
    clear HS0 r0 r1 r2 r3 r4
    obtain ⟨k, acc, hkl2, rfl, hac, HM, HS⟩ := hrel
    obtain ⟨la, lc, rfl⟩ := own_shape HS.out.col.own.own
    by_cases hlt : k < R
    · have hlt' : k < kids.length := by rw [HER.out]; exact hlt
      obtain ⟨sa', sc', e1, hk⟩ := HS.out.kd
      simp only [Value.slice.injEq] at e1
      obtain ⟨rfl, -, rfl⟩ := e1
      obtain ⟨b2, off, c, rfl, hb2, ht2, hcell, hGc⟩ := hk k hlt'
      have cE := HA.out k hlt' (withV X (.slice la acc.length lc)) c q wr HQ.out hGc (HS.out.col.bnd HX.out) HS.out.col.inv
      have HM2 : Hid (mkP.mkSum [] kids q [] = match mkP [] kids[k] q with
        | none => none
        | some m => if 64 < (uni acc m).length then none else mkP.mkSum [] (kids.drop (k + 1)) q (uni acc m)) := by
        show _ = _
        rw [HM.out, List.drop_eq_getElem_cons hlt', mkSum_cons]
      have HLen : Hid (∀ m, mkP [] kids[k] q = some m → m.length ≤ 64 ∧ SS m) := fun m h => ⟨mkP_len [] _ q m h, mkP_ss h⟩
      obtain ⟨⟨q0, q1, q2, q3, q4, q5, q6, q7⟩, -, -⟩ := row8 HS.out.box
      clear hk ht2 HM
      generalize mkP [] kids[k] q = r at *
      go_wp2_with fail
      refine cE.mono ?_
      rintro e w1 ⟨v, ok, rfl, hf1, hI1, hn1, hs1, hno1⟩
      have HMd : Hid (∃ M, Pv w1 v M ∧ M.length ≤ 64 ∧ ((∃ m, r = some m ∧ ok = true ∧ sortL M = m) ∨ (r = none ∧ ok = false))) := by
        show ∃ M, _
        cases hr : r with
        | some m =>
          obtain ⟨h1, h2⟩ := hs1 m hr
          exact ⟨m, h2, (HLen.out m hr).1, .inl ⟨m, rfl, h1, sort_of_ss (HLen.out m hr).2⟩⟩
        | none =>
          obtain ⟨h1, h2⟩ := hno1 hr
          exact ⟨[], .inl ⟨rfl, h2⟩, by simp, .inr ⟨rfl, h1⟩⟩
      obtain ⟨M, hMv, hMl, hMr⟩ := HMd.out
      have HMr : Hid _ := hMr
      have HMv : Hid (Pv w1 v M) := hMv
      have hfr1 : Fr B w w1 := HS.out.col.fr.trans hf1
      have hown1 : OwnP w1 w.heap.size (.slice la acc.length lc) acc := HS.out.col.own.fr hf1
      have HI1 : Hid (Inv B G (withV X (.slice la acc.length lc)) w1) := hI1
      have HFr1 : Hid (Fr B w w1) := hfr1
      have HOwn1 : Hid (OwnP w1 w.heap.size (.slice la acc.length lc) acc) := hown1
      have HK1 : Hid (KidsV G w1 (.slice (some ⟨b2, off, none⟩) R sc) kids) := HS.out.kd.fr hf1
      have hbx1 : w1.heap[w.heap.size]? = some (pobj8 q) := (hf1.calm _ (heap_lt HS.out.box) (calm_cells HS.out.box (by decide))).trans HS.out.box
      have HBx1 : Hid _ := hbx1
      have hbs1 := heap_lt hbx1
      have hsz1 := hfr1.size
      have HNe : Hid _ := HS.out.ne
      clear hs1 hno1 hn1 hI1 hf1 hMv hMr HMd hown1 hfr1 cE q0 q1 q2 q3 q4 q5 q6 q7 hbx1 hcell hGc hb2 HLen
      go_wp2_with (at_builtin; refine wpList_append_pk rfl _ _ rfl w.heap.size (.slice la acc.length lc) acc rfl HOwn1.out v M rfl HMv.out (by omega) (by omega) ?_; intro v2 w2 hown2 hgrow2; have HO2 : Hid _ := hown2; have HG2 : Hid _ := hgrow2; clear hown2 hgrow2)
      refine (sort_row v2 (acc ++ M) (by rw [List.length_append]; omega) w2 w.heap.size HO2.out).mono ?_
      rintro e w3 ⟨v3, rfl, hown3, hb3⟩
      have hcol : Col B G X w v3 (sortL (acc ++ M)) w3 := Col.put rfl HI1.out HFr1.out HOwn1.out.own HG2.out hb3 hown3
      have hk3 : KidsV G w3 (.slice (some ⟨b2, off, none⟩) R sc) kids := (HK1.out.keep HG2.out.size fun b h1 h2 => HG2.out.block b h2 fun e => by
        rcases HOwn1.out.own.2 with ⟨hv, _⟩ | ⟨g, cap, cur, hv, _, hgg, _⟩
        · rw [hv] at e; cases e
        · rw [hv] at e
          have e' := Option.some.inj (show some b = some g from e)
          exact h1.ne (show isT 26 w1.heap[g]? from ⟨_, _, hgg⟩) (by decide) e').fr (B := 0) (Fr.of_below hb3)
      have hx2 := (HG2.out.block _ hbs1 HNe.out).trans HBx1.out
      have hx3 := (hb3.block _ (heap_lt hx2)).trans hx2
      have HS3 : Hid (SSt B G X w q (.slice (some ⟨b2, off, none⟩) R sc) kids v3 (sortL (acc ++ M)) w3) := ⟨hcol, hk3, hx3, fun e => by have := (hown3.own.lt _ e.symm).1; have := heap_lt hx2; omega⟩
      obtain ⟨s3, c3, rfl⟩ := own_shape hown3.own
      clear hown3 hb3 hcol hk3 hx2 hx3 HO2 HG2 HI1 HFr1 HOwn1 HMv HK1 HBx1 HNe HS
      rcases HMr.out with ⟨m, hgx, rfl, hm⟩ | ⟨hgx, rfl⟩
      · have eu := uni_of (acc := acc) hm
        have HM3 : Hid (mkP.mkSum [] kids q [] = if 64 < (sortL (acc ++ M)).length then none else mkP.mkSum [] (kids.drop (k + 1)) q (sortL (acc ++ M))) := by
          show _ = _
          rw [HM2.out, hgx, eu]
        clear HM2 HMr hgx hm eu
        generalize sortL (acc ++ M) = acc2 at *
        by_cases h64 : 64 < acc2.length
        · have d : decide (64 < (acc2.length : Int)) = true := by simp; omega
          have HM4 : Hid (mkP.mkSum [] kids q [] = none) := by show _ = _; rw [HM3.out, if_pos h64]
          have HE := (EachEnd.no HS3.out.col).made
          rw [← HM4.out] at HE
          have HE3 : Hid _ := HE
          clear HE HM3 HM4 HS3 h64
          go_wp2
          refine bodyPost_ret (v := .tuple #[.slice none 0 0, .bool false]) ?_ rfl HE3.out
          simp [results, Try.results35, go_sem]
        · have d : decide (64 < (acc2.length : Int)) = false := by simp; omega
          have HM4 : Hid (mkP.mkSum [] kids q [] = mkP.mkSum [] (kids.drop (k + 1)) q acc2) := by show _ = _; rw [HM3.out, if_neg h64]
          have h64' : acc2.length ≤ 64 := by omega
          clear HM3 h64
          go_wp2
          go_roundw
          case rel => exact ⟨k + 1, acc2, by omega, by go_num, h64', HM4, HS3⟩
          case measure => simp [intOf]; omega
      · have HM4 : Hid (mkP.mkSum [] kids q [] = none) := by show _ = _; rw [HM2.out, hgx]
        have HE := (EachEnd.no HS3.out.col).made
        rw [← HM4.out] at HE
        have HE3 : Hid _ := HE
        clear HE HM2 HM4 HS3 HMr hgx
        generalize (sortL (acc ++ M)).length = z at *
        go_wp2
        refine bodyPost_ret (v := .tuple #[.slice none 0 0, .bool false]) ?_ rfl HE3.out
        simp [results, Try.results35, go_sem]
    · obtain rfl : k = R := by omega
      have HM4 : Hid (mkP.mkSum [] kids q [] = some acc) := by
        show _ = _
        rw [HM.out, List.drop_of_length_le (by rw [HER.out]; exact Nat.le_refl _), mkP.mkSum]
      have HE := (EachEnd.yes HS.out.col).made
      rw [← HM4.out] at HE
      have HE3 : Hid _ := HE
      clear HE HM HM4 HS
      go_wp2
      refine bodyPost_ret (v := .tuple #[.slice la acc.length lc, .bool true]) ?_ rfl HE3.out
      simp [results, Try.results35, go_sem]
end Go.Proofs.Ytipiepcbgjceaaa
/- What makes answers of a node, where it answers as the model of its kids. -/
set_option linter.unusedVariables false
set_option linter.unusedSimpArgs false
namespace Go.Proofs.Ytipiepcbgjceaaa
open Go.RowKit Go.Joins Go.Maps

theorem pv_one (w : World) (q : P8) : Pv (w.alloc (pobj8 q)) (.slice (some ⟨w.heap.size, 0, none⟩) 1 1) [q] := by
  have h := heap_alloc_new w (pobj8 q)
  refine .inr ⟨by simp, w.heap.size, 0, 1, rfl, by simp, calm_cells h (by decide), fun i hi => ?_⟩
  have : i = 0 := by simp at hi; omega
  subst this
  obtain ⟨⟨c0, c1, c2, c3, c4, c5, c6, c7⟩, -, -⟩ := row8 h
  exact ⟨c0, c1, c2, c3, c4, c5, c6, c7⟩
/-- Nothing is made. -/
theorem MadeEnd.nil {B : Nat} {G : Nat → Option Pl} {X : Nat → Prop} {w w' : World} (hf : Fr B w w') (hI : Inv B G X w') : MadeEnd B G X (some []) w (.returned (.tuple #[.slice none 0 0, .bool true])) w' :=
  ⟨_, _, rfl, hf, hI, NewV.nil _, fun l hl => (by injection hl with hl; subst hl; exact ⟨rfl, Pv.nil _⟩), fun e => (by cases e)⟩
/-- One packet is made. -/
theorem MadeEnd.one {B : Nat} {G : Nat → Option Pl} {X : Nat → Prop} {w w' : World} (q : P8) (hf : Fr B w w') (hI : Inv B G X w') : MadeEnd B G X (some [q]) w (.returned (.tuple #[.slice (some ⟨w'.heap.size, 0, none⟩) 1 1, .bool true])) (w'.alloc (pobj8 q)) :=
  ⟨_, _, rfl, hf.alloc _, hI.below ((Below.refl _ w').alloc (Nat.le_refl _) _), fun b o n c e => (by
    simp only [Value.slice.injEq, Option.some.injEq, Addr.mk.injEq] at e
    obtain ⟨⟨rfl, -⟩, -⟩ := e
    exact hf.size), fun l hl => (by injection hl with hl; subst hl; exact ⟨rfl, pv_one w' q⟩), fun e => (by cases e)⟩

set_option maxRecDepth 100000 in
set_option maxHeartbeats 8000000 in
theorem makes_leaf (B : Nat) (G : Nat → Option Pl) (op f n : Int) (kids : List Pl) (hgood : GoodT (.mk op f n kids)) (h : op = 0 ∨ op = 1 ∨ op = 2) : MakesC B G (.mk op f n kids) := by
  intro X b q w hq hG hX hI
  have hb0 : Below w.heap.size w (w.alloc (pobj8 q)) := (Below.refl _ w).alloc (Nat.le_refl _) _
  obtain ⟨kv, bk, hrow, sa, sc, rfl, -⟩ := (hI.below hb0).node hG
  obtain ⟨r0, r1, r2, r3, r4⟩ := row5 hrow
  obtain ⟨⟨c0, c1, c2, c3, c4, c5, c6, c7⟩, -, -⟩ := row8 (heap_alloc_new w (pobj8 q))
  have hbx := heap_alloc_new w (pobj8 q)
  have HI : Hid (Inv B G X (w.alloc (pobj8 q))) := hI.below hb0
  have HF : Hid (Fr B w (w.alloc (pobj8 q))) := Fr.of_below hb0
  rw [mkP_mk]
  rcases h with rfl | rfl | rfl
  · rw [if_pos rfl]
    clear hgood hq hG hX hI hrow hb0
    go_enter Try.func25, Try.ntmps25
    go_wp2
    refine bodyPost_ret (v := .tuple #[.slice none 0 0, .bool true]) ?_ rfl (MadeEnd.nil HF.out HI.out)
    simp [results, Try.results25, go_sem]
  · rw [if_neg (by decide), if_pos rfl]
    clear hgood hq hG hX hI hrow hb0
    have HE : Hid _ := MadeEnd.one q HF.out HI.out
    go_enter Try.func25, Try.ntmps25
    go_wp2
    refine bodyPost_ret (v := .tuple #[.slice (some ⟨(w.alloc (pobj8 q)).heap.size, 0, none⟩) 1 1, .bool true]) ?_ rfl HE.out
    simp [results, Try.results25, go_sem]
  · rw [if_neg (by decide), if_neg (by decide), if_pos rfl]
    have hf8 : 0 ≤ f ∧ f < 8 := by
      have hf := hgood.form
      rw [formP_eq, Bool.and_eq_true] at hf
      have := hf.1
      unfold nodeB at this
      simp only [show ¬((2 : Int) = 0 ∨ (2 : Int) = 1) by omega, if_false, if_true, Bool.and_eq_true, decide_eq_true_eq] at this
      exact this.2
    obtain ⟨h0, h8⟩ := hf8
    have c := getD8 hbx f h0 h8
    have hget : q.get f = [q.a0, q.a1, q.a2, q.a3, q.a4, q.a5, q.a6, q.a7].getD f.toNat 0 := rfl
    rw [hget]
    clear hgood hq hG hX hI hrow hb0 hget
    generalize [q.a0, q.a1, q.a2, q.a3, q.a4, q.a5, q.a6, q.a7].getD f.toNat 0 = z at *
    obtain ⟨F, rfl⟩ := Int.eq_ofNat_of_zero_le h0
    simp only [Int.toNat_natCast] at c
    by_cases hz : z = n
    · subst hz
      rw [if_pos rfl]
      have HE : Hid (∀ nq, MadeEnd B G X (some [q]) w (.returned (.tuple #[.slice (some ⟨((w.alloc (pobj8 q)).drewN nq).heap.size, 0, none⟩) 1 1, .bool true])) (((w.alloc (pobj8 q)).drewN nq).alloc (pobj8 q))) := fun nq => MadeEnd.one q (HF.out.drewN nq) (HI.out.below (below_drewN (Below.refl _ _) nq))
      go_enter Try.func25, Try.ntmps25
      go_wp2_with fail
      go_quiet (fail)
      go_wp2
      refine bodyPost_ret (v := .tuple #[.slice (some ⟨((w.alloc (pobj8 q)).drewN nq).heap.size, 0, none⟩) 1 1, .bool true]) ?_ rfl (HE.out nq)
      simp [results, Try.results25, go_sem]
    · rw [if_neg hz]
      have dz : (z == n) = false := by simpa using hz
      have HE : Hid (∀ nq, MadeEnd B G X (some []) w (.returned (.tuple #[.slice none 0 0, .bool true])) ((w.alloc (pobj8 q)).drewN nq)) := fun nq => MadeEnd.nil (HF.out.drewN nq) (HI.out.below (below_drewN (Below.refl _ _) nq))
      clear hz
      go_enter Try.func25, Try.ntmps25
      go_wp2_with fail
      go_quiet (fail)
      go_wp2
      refine bodyPost_ret (v := .tuple #[.slice none 0 0, .bool true]) ?_ rfl (HE.out nq)
      simp [results, Try.results25, go_sem]

set_option maxRecDepth 100000 in
set_option maxHeartbeats 8000000 in
theorem makes_put (B : Nat) (G : Nat → Option Pl) (f n : Int) (kids : List Pl) : MakesC B G (.mk 5 f n kids) := by
  intro X b q w hq hG hX hI
  have hb0 : Below w.heap.size w (w.alloc (pobj8 q)) := (Below.refl _ w).alloc (Nat.le_refl _) _
  obtain ⟨kv, bk, hrow, sa, sc, rfl, -⟩ := (hI.below hb0).node hG
  obtain ⟨r0, r1, r2, r3, r4⟩ := row5 hrow
  obtain ⟨⟨c0, c1, c2, c3, c4, c5, c6, c7⟩, -, -⟩ := row8 (heap_alloc_new w (pobj8 q))
  have HI : Hid (Inv B G X (w.alloc (pobj8 q))) := hI.below hb0
  have HF : Hid (Fr B w (w.alloc (pobj8 q))) := Fr.of_below hb0
  rw [mkP_mk, if_neg (by decide), if_neg (by decide), if_neg (by decide), if_neg (by decide), if_neg (by decide), if_pos rfl]
  have cW : Hid (∀ W, Below (w.alloc (pobj8 q)).heap.size (w.alloc (pobj8 q)) W → Calls Try.prog 33 #[pk q.a0 q.a1 q.a2 q.a3 q.a4 q.a5 q.a6 q.a7, .int .i64 f, .int .u16 n] W fun e w' => e = .returned (q.wth f n).v ∧ Below W.heap.size W w') := fun W hW => (with_any q.a0 q.a1 q.a2 q.a3 q.a4 q.a5 q.a6 q.a7 f n W).mono fun e w' ⟨b0, b1, b2, b3, b4, b5, b6, b7, he, hp, hb⟩ => ⟨by
    have hx : q.wth f n = ⟨b0, b1, b2, b3, b4, b5, b6, b7⟩ := by unfold P8.wth; rw [show q.l = [q.a0, q.a1, q.a2, q.a3, q.a4, q.a5, q.a6, q.a7] from rfl, hp]; rfl
    rw [he, hx], hb⟩
  have HBd : Hid (Below (w.alloc (pobj8 q)).heap.size (w.alloc (pobj8 q)) (w.alloc (pobj8 q)).drew) := below_drewN (Below.refl _ _) 1
  have HE : Hid (∀ W, Below (w.alloc (pobj8 q)).heap.size (w.alloc (pobj8 q)) W → MadeEnd B G X (some [q.wth f n]) w (.returned (.tuple #[.slice (some ⟨W.heap.size, 0, none⟩) 1 1, .bool true])) (W.alloc (pobj8 (q.wth f n)))) := fun W hW => MadeEnd.one (q.wth f n) (HF.out.trans (Fr.of_below hW)) (HI.out.below hW)
  have HRow : Hid _ := hrow
  have hrl := heap_lt hrow
  clear hq hG hX hI hrow hb0
  generalize q.wth f n = q2 at *
  go_enter Try.func25, Try.ntmps25
  go_wp2_with fail
  go_region_law (go_simp; go_at_call 33; refine Calls.mono (cW.out _ HBd.out) ?_; rintro e w2 ⟨rfl, hb2⟩; have HB2 : Hid (Below (w.alloc (pobj8 q)).heap.size (w.alloc (pobj8 q)) w2) := HBd.out.trans (hb2.mono HBd.out.size); clear hb2)
  all_goals
    have HE2 : Hid _ := HE.out _ HB2.out
    clear HE HB2 cW HI HF HRow
    go_wp2
    refine bodyPost_ret (v := .tuple #[.slice (some ⟨w2.heap.size, 0, none⟩) 1 1, .bool true]) ?_ rfl HE2.out
    simp [results, Try.results25, go_sem]
end Go.Proofs.Ytipiepcbgjceaaa
