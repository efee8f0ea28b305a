/- What ofEach answers, where again answers as the model. -/
import Derived.Test.YtipiepcbgjceaaaH1
set_option linter.unusedVariables false
set_option linter.unusedSimpArgs false
namespace Go.Proofs.Ytipiepcbgjceaaa
open Go.RowKit Go.Joins Go.Maps

/-- 'append' of packets to a row of the call's own. -/
theorem wpList_append_pk {w : World} {ops : Array Oper} {rest : List Oper} {o : Oper} {a : Act} {Q : Exit → Act → World → Prop} (hgd : o.guard = none) (s x : Operand)
    (ho : o.op = .call { callee := .builtin .append, args := #[s, x], argTypes := #[33, 33] }) (lo : Nat) (v : Value) (acc : List P8) (hs : a.eval s = v) (hown : OwnP w lo v acc)
    (vx : Value) (M : List P8) (hx : a.eval x = vx) (hM : Pv w vx M) (h500 : acc.length + M.length ≤ 500) (hlo : lo ≤ w.heap.size)
    (h : ∀ v' w', OwnP w' lo v' (acc ++ M) → w.grownBy w' v.ownBlock → wpList Try.prog ops Q rest (a.put o.dst v') w') : wpList Try.prog ops Q (o :: rest) a w := by
  obtain ⟨i0, hi, hz0, hz1, hz2⟩ := info_parts info24'
  rcases hM with ⟨rfl, rfl⟩ | ⟨hne, b, off, cap, rfl, hb, hcalm, hat⟩
  · refine wpList_append_own_none hgd s x 33 ho lo 26 i0 8 Try.underlying33 hi v _ _ hs hown.own hx ?_
    exact h v w (by rw [List.append_nil]; exact hown) ⟨rfl, rfl, rfl, Nat.le_refl _, fun _ _ _ => rfl⟩
  · refine wpList_append_own_at _ hgd s x 33 ho lo 26 i0 (pk 0 0 0 0 0 0 0 0) 8 16 Try.underlying33 hi hz0 hz1 hz2 rfl (by decide) v _ _ hs hown.own ⟨b, off, none⟩ M.length cap (flat8 M) hx (flat8_length M) (flat_cells hat) (flat8_one M) (by unfold maxLen; omega) (by omega) hlo ?_
    intro v' w' h1 h2 h3 h4
    refine h v' w' ⟨?_, fun e => ?_⟩ h2
    · rw [List.length_append, flat8_append]; exact h1
    · rw [List.append_eq_nil_iff] at e; exact absurd e.2 hne

theorem eachM_cons (g : P8 → Option (List P8)) (x : P8) (l acc : List P8) : eachM g (x :: l) acc = match g x with
    | none => none
    | some m => if 64 < (uni acc m).length then none else eachM g l (uni acc m) := by
  rw [eachM]
  cases g x <;> rfl
theorem uni_of {acc M m : List P8} (h : sortL M = m) : sortL (acc ++ M) = uni acc m := by
  unfold uni
  refine sort_same fun z => ?_
  rw [List.mem_append, List.mem_append, ← h, mem_sort]
theorem EachEnd.no {B : Nat} {G : Nat → Option Pl} {X : Nat → Prop} {w wr : World} {v : Value} {acc : List P8} (h : Col B G X w v acc wr) : EachEnd B G X none w (.returned (.tuple #[.slice none 0 0, .bool false])) wr :=
  ⟨_, _, rfl, h.fr, h.inv.more fun b hb => .inl (.inl hb), NewV.nil _, fun l hl => (by cases hl), fun _ => ⟨rfl, rfl⟩⟩
theorem EachEnd.yes {B : Nat} {G : Nat → Option Pl} {X : Nat → Prop} {w wr : World} {v : Value} {acc : List P8} (h : Col B G X w v acc wr) : EachEnd B G X (some acc) w (.returned (.tuple #[v, .bool true])) wr :=
  ⟨_, _, rfl, h.fr, h.inv.more fun b hb => .inl (.inl hb), NewV.own h.own.own, fun l hl => (by injection hl with hl; subst hl; exact ⟨rfl, h.own⟩), fun e => (by cases e)⟩

set_option maxRecDepth 100000 in
set_option maxHeartbeats 8000000 in
theorem each_any (B : Nat) (G : Nat → Option Pl) (X : Nat → Prop) (T : Pl) (b : Nat) (L : List P8) (lv : Value) (w : World) (hq : ∀ x ∈ L, Q8 x) (hG : G b = some T) (hX : Bnd X w) (hI : Inv B G X w) (hL : Pv w lv L) (hl : L.length ≤ 64) (hA : AgainC B G T L.length) :
    Calls Try.prog 46 #[.pointer (some ⟨b, 0, none⟩), lv] w fun e w' => EachEnd B G X (eachM (mkP [] T) L []) w e w' := by
  obtain ⟨sa, sc, rfl, -⟩ := hL.shape
  have HL : Hid (Pv w (.slice sa L.length sc) L) := hL
  have HA : Hid (∀ (X : Nat → Prop) (q : P8) (w : World), Q8 q → Bnd X w → Inv B G X w → Calls Try.prog 52 #[.pointer (some ⟨b, 0, none⟩), q.v, .int .i64 (L.length : Int)] w fun e w' => AgainEnd B G X (mkP [] T q) w e w') := fun X q w h1 h2 h3 => hA X b q w h1 hG h2 h3
  have HQ : Hid _ := hq
  have HX : Hid _ := hX
  have HS0 : Hid (Col B G X w (.slice none 0 0) [] w) := Col.start hI (Below.refl _ _)
  obtain ⟨g, hg⟩ : ∃ g, mkP [] T = g := ⟨_, rfl⟩
  have HG : Hid (mkP [] T = g) := hg
  rw [hg] at HA ⊢
  clear hL hA hq hG hX hI hg
  obtain ⟨R, eR⟩ : ∃ R, L.length = R := ⟨_, rfl⟩
  have HER : Hid (L.length = R) := eR
  rw [eR] at HA hl ⊢
  clear eR
  go_enter Try.func46, Try.ntmps46
  go_wp2
  go_loopw [6, 13] (fun av i wr => ∃ (k : Nat) (acc : List P8), k ≤ R ∧ i = .int .i64 (k : Int) ∧ acc.length ≤ 64 ∧ Hid (eachM g L [] = eachM g (L.drop k) acc) ∧ Hid (Col B G X w av acc wr)) (fun _ i _ => R - (intOf i).toNat)
  case atStart => exact ⟨0, [], Nat.zero_le _, rfl, by simp, by show _ = _; rw [List.drop_zero], HS0⟩
  case round =>
    clear HS0
    obtain ⟨k, acc, hkl, rfl, hac, HM, HS⟩ := hrel
    by_cases hlt : k < R
    · have hlt' : k < L.length := by rw [HER.out]; exact hlt
      obtain ⟨sa', sc', e1, hc⟩ := (HL.out.fr HS.out.fr).shape
      simp only [Value.slice.injEq] at e1
      obtain ⟨rfl, -, rfl⟩ := e1
      obtain ⟨b2, off, rfl, hb2, hcalm, ⟨q0, q1, q2, q3, q4, q5, q6, q7⟩⟩ := hc k hlt'
      have HM2 : Hid (eachM g L [] = match g L[k] with
        | none => none
        | some m => if 64 < (uni acc m).length then none else eachM g (L.drop (k + 1)) (uni acc m)) := by
        show _ = _
        rw [HM.out, List.drop_eq_getElem_cons hlt', eachM_cons]
      have hq8 := HQ.out _ (List.getElem_mem hlt')
      clear hc hcalm HM
      generalize L[k] = x at *
      have hba : Below wr.heap.size wr (wr.alloc (.cells (enc8 x).toArray 26)) := (Below.refl _ _).alloc (Nat.le_refl _) _
      have cA := HA.out (withV X u6) x (wr.alloc (.cells (enc8 x).toArray 26)) hq8 ((HS.out.bnd HX.out).mono hba.size) (HS.out.inv.below hba)
      have HBa : Hid (Below wr.heap.size wr (wr.alloc (.cells (enc8 x).toArray 26))) := hba
      obtain ⟨⟨c0, c1, c2, c3, c4, c5, c6, c7⟩, -, -⟩ := row8 (heap_alloc_new wr (.cells #[.int .u16 x.a0, .int .u16 x.a1, .int .u16 x.a2, .int .u16 x.a3, .int .u16 x.a4, .int .u16 x.a5, .int .u16 x.a6, .int .u16 x.a7] 26))
      simp only [enc8] at cA HBa
      clear hba hq8
      go_wp2_with fail
      refine cA.mono ?_
      rintro e w1 ⟨v, ok, rfl, hf1, hI1, hn1, hs1, hno1⟩
      have HMd : Hid (∃ M, Pv w1 v M ∧ M.length ≤ 64 ∧ ((∃ m, g x = some m ∧ ok = true ∧ sortL M = m) ∨ (g x = none ∧ ok = false))) := by
        show ∃ M, _
        cases hgx : g x with
        | some m =>
          obtain ⟨h1, M, h2, h3, h4⟩ := hs1 m hgx
          exact ⟨M, h2, h4, .inl ⟨m, rfl, h1, h3⟩⟩
        | none =>
          obtain ⟨h1, h2⟩ := hno1 hgx
          exact ⟨[], .inl ⟨rfl, h2⟩, by simp, .inr ⟨rfl, h1⟩⟩
      obtain ⟨M, hMv, hMl, hMr⟩ := HMd.out
      have HMr : Hid _ := hMr
      have HMv : Hid (Pv w1 v M) := hMv
      have hfr1 : Fr B w w1 := HS.out.fr.trans ((Fr.of_below HBa.out).trans hf1)
      have hown1 : OwnP w1 w.heap.size u6 acc := HS.out.own.fr ((Fr.of_below HBa.out).trans hf1)
      have HI1 : Hid (Inv B G (withV X u6) w1) := hI1
      have HFr1 : Hid (Fr B w w1) := hfr1
      have HOwn1 : Hid (OwnP w1 w.heap.size u6 acc) := hown1
      have hsz1 := hfr1.size
      clear hs1 hno1 hn1 hI1 hf1 hMv hMr HMd hown1 hfr1 cA c0 c1 c2 c3 c4 c5 c6 c7 HBa HS
      go_wp2_with (at_builtin; refine wpList_append_pk rfl _ _ rfl w.heap.size u6 acc rfl HOwn1.out v M rfl HMv.out (by omega) (by omega) ?_; intro v2 w2 hown2 hgrow2; have HO2 : Hid _ := hown2; have HG2 : Hid _ := hgrow2; clear hown2 hgrow2)
      refine (sort_row v2 (acc ++ M) (by rw [List.length_append]; omega) w2 w.heap.size HO2.out).mono ?_
      rintro e w3 ⟨v3, rfl, hown3, hb3⟩
      have hcol : Col B G X w v3 (sortL (acc ++ M)) w3 := Col.put rfl HI1.out HFr1.out HOwn1.out.own HG2.out hb3 hown3
      have HC : Hid _ := hcol
      obtain ⟨s3, c3, rfl⟩ := own_shape hown3.own
      clear hown3 hb3 hcol HO2 HG2 HI1 HFr1 HOwn1 HMv
      rcases HMr.out with ⟨m, hgx, rfl, hm⟩ | ⟨hgx, rfl⟩
      · have eu := uni_of (acc := acc) hm
        have HM3 : Hid (eachM g L [] = if 64 < (sortL (acc ++ M)).length then none else eachM g (L.drop (k + 1)) (sortL (acc ++ M))) := by
          show _ = _
          rw [HM2.out, hgx, eu]
        clear HM2 HMr hgx hm eu
        generalize sortL (acc ++ M) = acc2 at *
        by_cases h64 : 64 < acc2.length
        · have d : decide (64 < (acc2.length : Int)) = true := by simp; omega
          have HM4 : Hid (eachM g L [] = none) := by show _ = _; rw [HM3.out, if_pos h64]
          have HE := EachEnd.no HC.out
          have HE2 : Hid _ := HE
          rw [← HM4.out] at HE
          have HE3 : Hid _ := HE
          clear HE HE2 HM3 HM4 HC h64
          go_wp2
          refine bodyPost_ret (v := .tuple #[.slice none 0 0, .bool false]) ?_ rfl HE3.out
          simp [results, Try.results46, go_sem]
        · have d : decide (64 < (acc2.length : Int)) = false := by simp; omega
          have HM4 : Hid (eachM g L [] = eachM g (L.drop (k + 1)) acc2) := by show _ = _; rw [HM3.out, if_neg h64]
          have h64' : acc2.length ≤ 64 := by omega
          clear HM3 h64
          go_wp2
          go_roundw
          case rel => exact ⟨k + 1, acc2, by omega, by go_num, h64', HM4, HC⟩
          case measure => simp [intOf]; omega
      · have HM4 : Hid (eachM g L [] = none) := by show _ = _; rw [HM2.out, hgx]
        have HE := EachEnd.no HC.out
        rw [← HM4.out] at HE
        have HE3 : Hid _ := HE
        clear HE HM2 HM4 HC HMr hgx
        generalize (sortL (acc ++ M)).length = z at *
        go_wp2
        refine bodyPost_ret (v := .tuple #[.slice none 0 0, .bool false]) ?_ rfl HE3.out
        simp [results, Try.results46, go_sem]
    · obtain rfl : k = R := by omega
      have HM4 : Hid (eachM g L [] = some acc) := by
        show _ = _
        rw [HM.out, List.drop_of_length_le (by rw [HER.out]; exact Nat.le_refl _), eachM]
      have HE := EachEnd.yes HS.out
      rw [← HM4.out] at HE
      have HE3 : Hid _ := HE
      obtain ⟨s3, c3, rfl⟩ := own_shape HS.out.own.own
      clear HE HM HM4 HS
      go_wp2
      refine bodyPost_ret (v := .tuple #[.slice s3 acc.length c3, .bool true]) ?_ rfl HE3.out
      simp [results, Try.results46, go_sem]
end Go.Proofs.Ytipiepcbgjceaaa
/- What inTurn answers, where ofEach answers as the model. -/
set_option linter.unusedVariables false
set_option linter.unusedSimpArgs false
namespace Go.Proofs.Ytipiepcbgjceaaa
open Go.RowKit Go.Joins Go.Maps

theorem KidsV.fr {B : Nat} {G : Nat → Option Pl} {w w' : World} {v : Value} {l : List Pl} (h : KidsV G w v l) (hf : Fr B w w') : KidsV G w' v l := h.keep hf.size fun b h1 h2 => hf.calm b h2 (h1.calm (by decide))
theorem mkSeq_app (st : List Nat) : ∀ (a b : List Pl) (l : List P8), mkP.mkSeq st (a ++ b) l = match mkP.mkSeq st a l with
    | none => none
    | some m => mkP.mkSeq st b m
  | [], b, l => by rw [List.nil_append, mkP.mkSeq]
  | p :: r, b, l => by
    rw [List.cons_append, mkP.mkSeq, mkP.mkSeq]
    cases eachM (fun x => mkP st p x) l [] with
    | none => rfl
    | some m => exact mkSeq_app st r b m
theorem mkSeq_one (st : List Nat) (p : Pl) (l : List P8) : mkP.mkSeq st [p] l = eachM (mkP st p) l [] := by
  rw [mkP.mkSeq]
  cases eachM (fun x => mkP st p x) l [] with
  | none => rfl
  | some m => show mkP.mkSeq st [] m = _; rw [mkP.mkSeq]
theorem mkSeq_take (st : List Nat) (kids : List Pl) (k : Nat) (hk : k < kids.length) (l L : List P8) (h : mkP.mkSeq st (kids.take k) l = some L) : mkP.mkSeq st (kids.take (k + 1)) l = eachM (mkP st kids[k]) L [] := by
  rw [List.take_succ_eq_append_getElem hk, mkSeq_app, h]
  exact mkSeq_one st _ L
theorem mkSeq_none (st : List Nat) (kids : List Pl) (k : Nat) (l : List P8) (h : mkP.mkSeq st (kids.take k) l = none) : mkP.mkSeq st kids l = none := by
  have := mkSeq_app st (kids.take k) (kids.drop k) l
  rw [List.take_append_drop, h] at this
  exact this
theorem mkSeq_q8 {kids : List Pl} {k : Nat} {q : P8} {L : List P8} (ho : okN.okL kids) (hq : Q8 q) (h : mkP.mkSeq [] (kids.take k) [q] = some L) : ∀ x ∈ L, Q8 x := fun x hx => by
  have := (mkP_is.seq [] (kids.take k) [q] L (ss_one q) h).2 x
  obtain ⟨y, hy, hyx⟩ := this.1 hx
  rw [List.mem_singleton] at hy
  subst hy
  exact mk_q8.seq [] (kids.take k) y x (okL_take k kids ho) hq hyx

/-- Where inTurn stands. -/
structure TSt (B : Nat) (G : Nat → Option Pl) (X : Nat → Prop) (w : World) (kv : Value) (kids : List Pl) (v : Value) (L : List P8) (wr : World) : Prop where
  fr : Fr B w wr
  inv : Inv B G X wr
  kd : KidsV G wr kv kids
  own : OwnP wr w.heap.size v L

set_option maxRecDepth 100000 in
set_option maxHeartbeats 8000000 in
theorem turn_any (B : Nat) (G : Nat → Option Pl) (X : Nat → Prop) (op f n : Int) (kids : List Pl) (b : Nat) (q : P8) (w : World) (hgood : GoodT (.mk op f n kids)) (hq : Q8 q) (hG : G b = some (.mk op f n kids)) (hX : Bnd X w) (hI : Inv B G X w)
    (hA : ∀ k (hk : k < kids.length) L, mkP.mkSeq [] (kids.take k) [q] = some L → AgainC B G kids[k] L.length) :
    Calls Try.prog 34 #[.pointer (some ⟨b, 0, none⟩), q.v] w fun e w' => MadeEnd B G X (mkP.mkSeq [] kids [q]) w e w' := by
  have hb0 : Below w.heap.size w (w.alloc (.cells (enc8 q).toArray 26)) := (Below.refl _ w).alloc (Nat.le_refl _) _
  have hb1 : Below w.heap.size w ((w.alloc (.cells (enc8 q).toArray 26)).alloc (.cells (enc8 q).toArray 26)) := hb0.alloc hb0.size _
  obtain ⟨kv, bk, hrow, hkv⟩ := (hI.below hb1).node hG
  have hkv0 := hkv
  obtain ⟨sa, sc, rfl, -⟩ := hkv
  obtain ⟨r0, r1, r2, r3, r4⟩ := row5 hrow
  have hkl : kids.length ≤ 300 := by have := hgood.size; rw [sizeP_mk] at this; have := len_le kids; omega
  have HX : Hid (Bnd X w) := hX
  have HA : Hid _ := hA
  have HS0 : Hid (TSt B G X w (.slice sa kids.length sc) kids (.slice (some ⟨w.heap.size + 1, 0, none⟩) 1 1) [q] ((w.alloc (.cells (enc8 q).toArray 26)).alloc (.cells (enc8 q).toArray 26))) := by
    refine ⟨Fr.of_below hb1, hI.below hb1, hkv0, ⟨?_, fun e => by cases e⟩⟩
    exact ⟨rfl, .inr ⟨w.heap.size + 1, 1, (enc8 q).toArray, rfl, by omega, heap_alloc2_new w _ _, Nat.le_refl _, by decide, rfl, rfl⟩⟩
  obtain ⟨⟨c0, c1, c2, c3, c4, c5, c6, c7⟩, -, -⟩ := row8 (heap_alloc_new w (.cells #[.int .u16 q.a0, .int .u16 q.a1, .int .u16 q.a2, .int .u16 q.a3, .int .u16 q.a4, .int .u16 q.a5, .int .u16 q.a6, .int .u16 q.a7] 26))
  simp only [enc8] at HS0 r0 r1 r2 r3 r4
  have HLQ : Hid (∀ k L, mkP.mkSeq [] (kids.take k) [q] = some L → (∀ x ∈ L, Q8 x) ∧ L.length ≤ 64) := fun k L h => ⟨mkSeq_q8 (by have := hgood.ok; rw [okN] at this; exact this.2) hq h, mkSeq_len [] _ [q] L (by simp) h⟩
  have HLS : Hid (∀ L, mkP.mkSeq [] kids [q] = some L → SS L) := fun L h => (mkP_is.seq [] kids [q] L (ss_one q) h).1
  clear hgood hq hG hX hI hA hb0 hb1 hrow hkv0
  obtain ⟨R, eR⟩ : ∃ R, kids.length = R := ⟨_, rfl⟩
  have HER : Hid (kids.length = R) := eR
  rw [eR] at r3 hkl HS0
  clear eR
  go_enter Try.func34, Try.ntmps34
  go_wp2_with fail
  go_loopw [6, 7, 17] (fun av okv i wr => ∃ (k : Nat) (L : List P8), k ≤ R ∧ i = .int .i64 (k : Int) ∧ okv = .bool true ∧ Hid (mkP.mkSeq [] (kids.take k) [q] = some L) ∧ Hid (TSt B G X w (.slice sa R sc) kids av L wr)) (fun _ _ i _ => R - (intOf i).toNat)
  case atStart => exact ⟨0, [q], Nat.zero_le _, rfl, rfl, by show _ = _; rw [List.take_zero, mkP.mkSeq], HS0⟩
  case round =>
    clear HS0
    obtain ⟨k, L, hkl2, rfl, rfl, HM, HS⟩ := hrel
    obtain ⟨la, lc, rfl⟩ := own_shape HS.out.own.own
    by_cases hlt : k < R
    · have hlt' : k < kids.length := by rw [HER.out]; exact hlt
      obtain ⟨sa', sc', e1, hk⟩ := HS.out.kd
      simp only [Value.slice.injEq] at e1
      obtain ⟨rfl, -, rfl⟩ := e1
      obtain ⟨b2, off, c, rfl, hb2, ht2, hcell, hGc⟩ := hk k hlt'
      obtain ⟨hLq, hLl⟩ := HLQ.out k L HM.out
      have cE := each_any B G X kids[k] c L (.slice la L.length lc) wr hLq hGc (HX.out.mono HS.out.fr.size) HS.out.inv HS.out.own.pv hLl (HA.out k hlt' L HM.out)
      have HM2 : Hid (mkP.mkSeq [] (kids.take (k + 1)) [q] = eachM (mkP [] kids[k]) L []) := mkSeq_take [] kids k hlt' [q] L HM.out
      have HNo : Hid (eachM (mkP [] kids[k]) L [] = none → mkP.mkSeq [] kids [q] = none) := fun h => mkSeq_none [] kids (k + 1) [q] (by rw [HM2.out, h])
      clear hk ht2 hLq
      generalize eachM (mkP [] kids[k]) L [] = r at *
      have hwr := HS.out.fr.size
      go_wp2_with fail
      refine cE.mono ?_
      rintro e w1 ⟨v, ok, rfl, hf1, hI1, hn1, hs1, hno1⟩
      have HF1 : Hid (Fr B w w1) := HS.out.fr.trans hf1
      have HI1 : Hid (Inv B G X w1) := hI1
      have HK1 : Hid (KidsV G w1 (.slice (some ⟨b2, off, none⟩) R sc) kids) := HS.out.kd.fr hf1
      have HS1 : Hid _ := hs1
      have HN1 : Hid _ := hno1
      clear hf1 hI1 hn1 hs1 hno1 cE HS HM hcell hGc hb2
      cases r with
      | none =>
        obtain ⟨rfl, rfl⟩ := HN1.out rfl
        have HE : Hid (MadeEnd B G X (mkP.mkSeq [] kids [q]) w (.returned (.tuple #[.slice none 0 0, .bool false])) w1) := by
          show MadeEnd _ _ _ _ _ _ _
          rw [HNo.out rfl]
          exact ⟨_, _, rfl, HF1.out, HI1.out, NewV.nil _, fun l hl => (by cases hl), fun _ => ⟨rfl, rfl⟩⟩
        clear HNo HM2 HF1 HI1 HK1 HS1 HN1
        go_wp2
        refine bodyPost_ret (v := .tuple #[.slice none 0 0, .bool false]) ?_ rfl HE.out
        simp [results, Try.results34, go_sem]
      | some l2 =>
        obtain ⟨rfl, hown2⟩ := HS1.out l2 rfl
        have HS2 : Hid (TSt B G X w (.slice (some ⟨b2, off, none⟩) R sc) kids v l2 w1) := ⟨HF1.out, HI1.out, HK1.out, hown2.mono hwr⟩
        clear HNo HF1 HI1 HK1 HS1 HN1 hown2
        go_wp2
        go_roundw
        case rel => exact ⟨k + 1, l2, by omega, by go_num, rfl, HM2, HS2⟩
        case measure => simp [intOf]; omega
    · obtain rfl : k = R := by omega
      have HE : Hid (MadeEnd B G X (mkP.mkSeq [] kids [q]) w (.returned (.tuple #[.slice la L.length lc, .bool true])) wr) := by
        have hm := HM.out
        rw [List.take_of_length_le (by rw [HER.out]; exact Nat.le_refl _)] at hm
        show MadeEnd _ _ _ _ _ _ _
        rw [hm]
        exact ⟨_, _, rfl, HS.out.fr, HS.out.inv, NewV.own HS.out.own.own, fun l hl => (by injection hl with hl; subst hl; exact ⟨rfl, HS.out.own.pv⟩), fun e => (by cases e)⟩
      clear HM HS
      go_wp2
      refine bodyPost_ret (v := .tuple #[.slice la L.length lc, .bool true]) ?_ rfl HE.out
      simp [results, Try.results34, go_sem]
end Go.Proofs.Ytipiepcbgjceaaa
