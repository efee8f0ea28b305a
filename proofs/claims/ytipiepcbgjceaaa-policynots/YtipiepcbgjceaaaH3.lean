/- What inTurn answers, where ofEach answers as the model. -/
import Derived.Test.YtipiepcbgjceaaaH2
set_option linter.unusedVariables false
set_option linter.unusedSimpArgs false
namespace Go.Proofs.Ytipiepcbgjceaaa
open Go.RowKit Go.Joins Go.Maps

theorem KidsV.fr {B : Nat} {G : Nat → Option Pl} {w w' : World} {v : Value} {l : List Pl} (h : KidsV G w v l) (hf : Fr B w w') : KidsV G w' v l := h.keep hf.size fun b h1 h2 => hf.calm b h2 (h1.calm (by decide))
theorem mkSeq_app (st : List Nat) : ∀ (a b : List Pl) (l : List P8), mkP.mkSeq st (a ++ b) l = match mkP.mkSeq st a l with
    | none => none
    | some m => mkP.mkSeq st b m
  | [], b, l => by rw [List.nil_append, mkP.mkSeq]
  | p :: r, b, l => by
    rw [List.cons_append, mkP.mkSeq, mkP.mkSeq]
    cases eachM (fun x => mkP st p x) l [] with
    | none => rfl
    | some m => exact mkSeq_app st r b m
theorem mkSeq_one (st : List Nat) (p : Pl) (l : List P8) : mkP.mkSeq st [p] l = eachM (mkP st p) l [] := by
  rw [mkP.mkSeq]
  cases eachM (fun x => mkP st p x) l [] with
  | none => rfl
  | some m => show mkP.mkSeq st [] m = _; rw [mkP.mkSeq]
theorem mkSeq_take (st : List Nat) (kids : List Pl) (k : Nat) (hk : k < kids.length) (l L : List P8) (h : mkP.mkSeq st (kids.take k) l = some L) : mkP.mkSeq st (kids.take (k + 1)) l = eachM (mkP st kids[k]) L [] := by
  rw [List.take_succ_eq_append_getElem hk, mkSeq_app, h]
  exact mkSeq_one st _ L
theorem mkSeq_none (st : List Nat) (kids : List Pl) (k : Nat) (l : List P8) (h : mkP.mkSeq st (kids.take k) l = none) : mkP.mkSeq st kids l = none := by
  have := mkSeq_app st (kids.take k) (kids.drop k) l
  rw [List.take_append_drop, h] at this
  exact this
theorem mkSeq_q8 {kids : List Pl} {k : Nat} {q : P8} {L : List P8} (ho : okN.okL kids) (hq : Q8 q) (h : mkP.mkSeq [] (kids.take k) [q] = some L) : ∀ x ∈ L, Q8 x := fun x hx => by
  have := (mkP_is.seq [] (kids.take k) [q] L (ss_one q) h).2 x
  obtain ⟨y, hy, hyx⟩ := this.1 hx
  rw [List.mem_singleton] at hy
  subst hy
  exact mk_q8.seq [] (kids.take k) y x (okL_take k kids ho) hq hyx

/-- Where inTurn stands. -/
structure TSt (B : Nat) (G : Nat → Option Pl) (X : Nat → Prop) (w : World) (kv : Value) (kids : List Pl) (v : Value) (L : List P8) (wr : World) : Prop where
  fr : Fr B w wr
  inv : Inv B G X wr
  kd : KidsV G wr kv kids
  own : OwnP wr w.heap.size v L

set_option maxRecDepth 100000 in
set_option maxHeartbeats 8000000 in
theorem turn_any (B : Nat) (G : Nat → Option Pl) (X : Nat → Prop) (op f n : Int) (kids : List Pl) (b : Nat) (q : P8) (w : World) (hgood : GoodT (.mk op f n kids)) (hq : Q8 q) (hG : G b = some (.mk op f n kids)) (hX : Bnd X w) (hI : Inv B G X w)
    (hA : ∀ k (hk : k < kids.length) L, mkP.mkSeq [] (kids.take k) [q] = some L → AgainC B G kids[k] L.length) :
    Calls Try.prog 34 #[.pointer (some ⟨b, 0, none⟩), q.v] w fun e w' => MadeEnd B G X (mkP.mkSeq [] kids [q]) w e w' := by
  have hb0 : Below w.heap.size w (w.alloc (.cells (enc8 q).toArray 26)) := (Below.refl _ w).alloc (Nat.le_refl _) _
  have hb1 : Below w.heap.size w ((w.alloc (.cells (enc8 q).toArray 26)).alloc (.cells (enc8 q).toArray 26)) := hb0.alloc hb0.size _
  obtain ⟨kv, bk, hrow, hkv⟩ := (hI.below hb1).node hG
  have hkv0 := hkv
  obtain ⟨sa, sc, rfl, -⟩ := hkv
  obtain ⟨r0, r1, r2, r3, r4⟩ := row5 hrow
  have hkl : kids.length ≤ 300 := by have := hgood.size; rw [sizeP_mk] at this; have := len_le kids; omega
  have HX : Hid (Bnd X w) := hX
  have HA : Hid _ := hA
  have HS0 : Hid (TSt B G X w (.slice sa kids.length sc) kids (.slice (some ⟨w.heap.size + 1, 0, none⟩) 1 1) [q] ((w.alloc (.cells (enc8 q).toArray 26)).alloc (.cells (enc8 q).toArray 26))) := by
    refine ⟨Fr.of_below hb1, hI.below hb1, hkv0, ⟨?_, fun e => by cases e⟩⟩
    exact ⟨rfl, .inr ⟨w.heap.size + 1, 1, (enc8 q).toArray, rfl, by omega, heap_alloc2_new w _ _, Nat.le_refl _, by decide, rfl, rfl⟩⟩
  obtain ⟨⟨c0, c1, c2, c3, c4, c5, c6, c7⟩, -, -⟩ := row8 (heap_alloc_new w (.cells #[.int .u16 q.a0, .int .u16 q.a1, .int .u16 q.a2, .int .u16 q.a3, .int .u16 q.a4, .int .u16 q.a5, .int .u16 q.a6, .int .u16 q.a7] 26))
  simp only [enc8] at HS0 r0 r1 r2 r3 r4
  have HLQ : Hid (∀ k L, mkP.mkSeq [] (kids.take k) [q] = some L → (∀ x ∈ L, Q8 x) ∧ L.length ≤ 64) := fun k L h => ⟨mkSeq_q8 (by have := hgood.ok; rw [okN] at this; exact this.2) hq h, mkSeq_len [] _ [q] L (by simp) h⟩
  have HLS : Hid (∀ L, mkP.mkSeq [] kids [q] = some L → SS L) := fun L h => (mkP_is.seq [] kids [q] L (ss_one q) h).1
  clear hgood hq hG hX hI hA hb0 hb1 hrow hkv0
  obtain ⟨R, eR⟩ : ∃ R, kids.length = R := ⟨_, rfl⟩
  have HER : Hid (kids.length = R) := eR
  rw [eR] at r3 hkl HS0
  clear eR
  go_enter Try.func34, Try.ntmps34
  go_wp2_with fail
  go_loopw [6, 7, 17] (fun av okv i wr => ∃ (k : Nat) (L : List P8), k ≤ R ∧ i = .int .i64 (k : Int) ∧ okv = .bool true ∧ Hid (mkP.mkSeq [] (kids.take k) [q] = some L) ∧ Hid (TSt B G X w (.slice sa R sc) kids av L wr)) (fun _ _ i _ => R - (intOf i).toNat)
  case atStart => exact ⟨0, [q], Nat.zero_le _, rfl, rfl, by show _ = _; rw [List.take_zero, mkP.mkSeq], HS0⟩
  case round =>
    clear HS0
    obtain ⟨k, L, hkl2, rfl, rfl, HM, HS⟩ := hrel
    obtain ⟨la, lc, rfl⟩ := own_shape HS.out.own.own
    by_cases hlt : k < R
    · have hlt' : k < kids.length := by rw [HER.out]; exact hlt
      obtain ⟨sa', sc', e1, hk⟩ := HS.out.kd
      simp only [Value.slice.injEq] at e1
      obtain ⟨rfl, -, rfl⟩ := e1
      obtain ⟨b2, off, c, rfl, hb2, ht2, hcell, hGc⟩ := hk k hlt'
      obtain ⟨hLq, hLl⟩ := HLQ.out k L HM.out
      have cE := each_any B G X kids[k] c L (.slice la L.length lc) wr hLq hGc (HX.out.mono HS.out.fr.size) HS.out.inv HS.out.own.pv hLl (HA.out k hlt' L HM.out)
      have HM2 : Hid (mkP.mkSeq [] (kids.take (k + 1)) [q] = eachM (mkP [] kids[k]) L []) := mkSeq_take [] kids k hlt' [q] L HM.out
      have HNo : Hid (eachM (mkP [] kids[k]) L [] = none → mkP.mkSeq [] kids [q] = none) := fun h => mkSeq_none [] kids (k + 1) [q] (by rw [HM2.out, h])
      clear hk ht2 hLq
      generalize eachM (mkP [] kids[k]) L [] = r at *
      have hwr := HS.out.fr.size
      go_wp2_with fail
      refine cE.mono ?_
      rintro e w1 ⟨v, ok, rfl, hf1, hI1, hn1, hs1, hno1⟩
      have HF1 : Hid (Fr B w w1) := HS.out.fr.trans hf1
      have HI1 : Hid (Inv B G X w1) := hI1
      have HK1 : Hid (KidsV G w1 (.slice (some ⟨b2, off, none⟩) R sc) kids) := HS.out.kd.fr hf1
      have HS1 : Hid _ := hs1
      have HN1 : Hid _ := hno1
      clear hf1 hI1 hn1 hs1 hno1 cE HS HM hcell hGc hb2
      cases r with
      | none =>
        obtain ⟨rfl, rfl⟩ := HN1.out rfl
        have HE : Hid (MadeEnd B G X (mkP.mkSeq [] kids [q]) w (.returned (.tuple #[.slice none 0 0, .bool false])) w1) := by
          show MadeEnd _ _ _ _ _ _ _
          rw [HNo.out rfl]
          exact ⟨_, _, rfl, HF1.out, HI1.out, NewV.nil _, fun l hl => (by cases hl), fun _ => ⟨rfl, rfl⟩⟩
        clear HNo HM2 HF1 HI1 HK1 HS1 HN1
        go_wp2
        refine bodyPost_ret (v := .tuple #[.slice none 0 0, .bool false]) ?_ rfl HE.out
        simp [results, Try.results34, go_sem]
      | some l2 =>
        obtain ⟨rfl, hown2⟩ := HS1.out l2 rfl
        have HS2 : Hid (TSt B G X w (.slice (some ⟨b2, off, none⟩) R sc) kids v l2 w1) := ⟨HF1.out, HI1.out, HK1.out, hown2.mono hwr⟩
        clear HNo HF1 HI1 HK1 HS1 HN1 hown2
        go_wp2
        go_roundw
        case rel => exact ⟨k + 1, l2, by omega, by go_num, rfl, HM2, HS2⟩
        case measure => simp [intOf]; omega
    · obtain rfl : k = R := by omega
      have HE : Hid (MadeEnd B G X (mkP.mkSeq [] kids [q]) w (.returned (.tuple #[.slice la L.length lc, .bool true])) wr) := by
        have hm := HM.out
        rw [List.take_of_length_le (by rw [HER.out]; exact Nat.le_refl _)] at hm
        show MadeEnd _ _ _ _ _ _ _
        rw [hm]
        exact ⟨_, _, rfl, HS.out.fr, HS.out.inv, NewV.own HS.out.own.own, fun l hl => (by injection hl with hl; subst hl; exact ⟨rfl, HS.out.own.pv⟩), fun e => (by cases e)⟩
      clear HM HS
      go_wp2
      refine bodyPost_ret (v := .tuple #[.slice la L.length lc, .bool true]) ?_ rfl HE.out
      simp [results, Try.results34, go_sem]
end Go.Proofs.Ytipiepcbgjceaaa
