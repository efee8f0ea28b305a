/- What ofEach answers, where again answers as the model. -/
import Derived.Test.YtipiepcbgjceaaaH1
set_option linter.unusedVariables false
set_option linter.unusedSimpArgs false
namespace Go.Proofs.Ytipiepcbgjceaaa
open Go.RowKit Go.Joins Go.Maps

/-- 'append' of packets to a row of the call's own. -/
theorem wpList_append_pk {w : World} {ops : Array Oper} {rest : List Oper} {o : Oper} {a : Act} {Q : Exit → Act → World → Prop} (hgd : o.guard = none) (s x : Operand)
    (ho : o.op = .call { callee := .builtin .append, args := #[s, x], argTypes := #[33, 33] }) (lo : Nat) (v : Value) (acc : List P8) (hs : a.eval s = v) (hown : OwnP w lo v acc)
    (vx : Value) (M : List P8) (hx : a.eval x = vx) (hM : Pv w vx M) (h500 : acc.length + M.length ≤ 500) (hlo : lo ≤ w.heap.size)
    (h : ∀ v' w', OwnP w' lo v' (acc ++ M) → w.grownBy w' v.ownBlock → wpList Try.prog ops Q rest (a.put o.dst v') w') : wpList Try.prog ops Q (o :: rest) a w := by
  obtain ⟨i0, hi, hz0, hz1, hz2⟩ := info_parts info24'
  rcases hM with ⟨rfl, rfl⟩ | ⟨hne, b, off, cap, rfl, hb, hcalm, hat⟩
  · refine wpList_append_own_none hgd s x 33 ho lo 26 i0 8 Try.underlying33 hi v _ _ hs hown.own hx ?_
    exact h v w (by rw [List.append_nil]; exact hown) ⟨rfl, rfl, rfl, Nat.le_refl _, fun _ _ _ => rfl⟩
  · refine wpList_append_own_at _ hgd s x 33 ho lo 26 i0 (pk 0 0 0 0 0 0 0 0) 8 16 Try.underlying33 hi hz0 hz1 hz2 rfl (by decide) v _ _ hs hown.own ⟨b, off, none⟩ M.length cap (flat8 M) hx (flat8_length M) (flat_cells hat) (flat8_one M) (by unfold maxLen; omega) (by omega) hlo ?_
    intro v' w' h1 h2 h3 h4
    refine h v' w' ⟨?_, fun e => ?_⟩ h2
    · rw [List.length_append, flat8_append]; exact h1
    · rw [List.append_eq_nil_iff] at e; exact absurd e.2 hne

theorem eachM_cons (g : P8 → Option (List P8)) (x : P8) (l acc : List P8) : eachM g (x :: l) acc = match g x with
    | none => none
    | some m => if 64 < (uni acc m).length then none else eachM g l (uni acc m) := by
  rw [eachM]
  cases g x <;> rfl
theorem uni_of {acc M m : List P8} (h : sortL M = m) : sortL (acc ++ M) = uni acc m := by
  unfold uni
  refine sort_same fun z => ?_
  rw [List.mem_append, List.mem_append, ← h, mem_sort]
theorem EachEnd.no {B : Nat} {G : Nat → Option Pl} {X : Nat → Prop} {w wr : World} {v : Value} {acc : List P8} (h : Col B G X w v acc wr) : EachEnd B G X none w (.returned (.tuple #[.slice none 0 0, .bool false])) wr :=
  ⟨_, _, rfl, h.fr, h.inv.more fun b hb => .inl (.inl hb), NewV.nil _, fun l hl => (by cases hl), fun _ => ⟨rfl, rfl⟩⟩
theorem EachEnd.yes {B : Nat} {G : Nat → Option Pl} {X : Nat → Prop} {w wr : World} {v : Value} {acc : List P8} (h : Col B G X w v acc wr) : EachEnd B G X (some acc) w (.returned (.tuple #[v, .bool true])) wr :=
  ⟨_, _, rfl, h.fr, h.inv.more fun b hb => .inl (.inl hb), NewV.own h.own.own, fun l hl => (by injection hl with hl; subst hl; exact ⟨rfl, h.own⟩), fun e => (by cases e)⟩

set_option maxRecDepth 100000 in
set_option maxHeartbeats 8000000 in
theorem each_any (B : Nat) (G : Nat → Option Pl) (X : Nat → Prop) (T : Pl) (b : Nat) (L : List P8) (lv : Value) (w : World) (hq : ∀ x ∈ L, Q8 x) (hG : G b = some T) (hX : Bnd X w) (hI : Inv B G X w) (hL : Pv w lv L) (hl : L.length ≤ 64) (hA : AgainC B G T L.length) :
    Calls Try.prog 46 #[.pointer (some ⟨b, 0, none⟩), lv] w fun e w' => EachEnd B G X (eachM (mkP [] T) L []) w e w' := by
  obtain ⟨sa, sc, rfl, -⟩ := hL.shape
  have HL : Hid (Pv w (.slice sa L.length sc) L) := hL
  have HA : Hid (∀ (X : Nat → Prop) (q : P8) (w : World), Q8 q → Bnd X w → Inv B G X w → Calls Try.prog 52 #[.pointer (some ⟨b, 0, none⟩), q.v, .int .i64 (L.length : Int)] w fun e w' => AgainEnd B G X (mkP [] T q) w e w') := fun X q w h1 h2 h3 => hA X b q w h1 hG h2 h3
  have HQ : Hid _ := hq
  have HX : Hid _ := hX
  have HS0 : Hid (Col B G X w (.slice none 0 0) [] w) := Col.start hI (Below.refl _ _)
  obtain ⟨g, hg⟩ : ∃ g, mkP [] T = g := ⟨_, rfl⟩
  have HG : Hid (mkP [] T = g) := hg
  rw [hg] at HA ⊢
  clear hL hA hq hG hX hI hg
  obtain ⟨R, eR⟩ : ∃ R, L.length = R := ⟨_, rfl⟩
  have HER : Hid (L.length = R) := eR
  rw [eR] at HA hl ⊢
  clear eR
  go_enter Try.func46, Try.ntmps46
  go_wp2
  go_loopw [6, 13] (fun av i wr => ∃ (k : Nat) (acc : List P8), k ≤ R ∧ i = .int .i64 (k : Int) ∧ acc.length ≤ 64 ∧ Hid (eachM g L [] = eachM g (L.drop k) acc) ∧ Hid (Col B G X w av acc wr)) (fun _ i _ => R - (intOf i).toNat)
  case atStart => exact ⟨0, [], Nat.zero_le _, rfl, by simp, by show _ = _; rw [List.drop_zero], HS0⟩
  case round =>
    clear HS0
    obtain ⟨k, acc, hkl, rfl, hac, HM, HS⟩ := hrel
    by_cases hlt : k < R
    · have hlt' : k < L.length := by rw [HER.out]; exact hlt
      obtain ⟨sa', sc', e1, hc⟩ := (HL.out.fr HS.out.fr).shape
      simp only [Value.slice.injEq] at e1
      obtain ⟨rfl, -, rfl⟩ := e1
      obtain ⟨b2, off, rfl, hb2, hcalm, ⟨q0, q1, q2, q3, q4, q5, q6, q7⟩⟩ := hc k hlt'
      have HM2 : Hid (eachM g L [] = match g L[k] with
        | none => none
        | some m => if 64 < (uni acc m).length then none else eachM g (L.drop (k + 1)) (uni acc m)) := by
        show _ = _
        rw [HM.out, List.drop_eq_getElem_cons hlt', eachM_cons]
      have hq8 := HQ.out _ (List.getElem_mem hlt')
      clear hc hcalm HM
      generalize L[k] = x at *
      have hba : Below wr.heap.size wr (wr.alloc (.cells (enc8 x).toArray 26)) := (Below.refl _ _).alloc (Nat.le_refl _) _
      have cA := HA.out (withV X u6) x (wr.alloc (.cells (enc8 x).toArray 26)) hq8 ((HS.out.bnd HX.out).mono hba.size) (HS.out.inv.below hba)
      have HBa : Hid (Below wr.heap.size wr (wr.alloc (.cells (enc8 x).toArray 26))) := hba
      obtain ⟨⟨c0, c1, c2, c3, c4, c5, c6, c7⟩, -, -⟩ := row8 (heap_alloc_new wr (.cells #[.int .u16 x.a0, .int .u16 x.a1, .int .u16 x.a2, .int .u16 x.a3, .int .u16 x.a4, .int .u16 x.a5, .int .u16 x.a6, .int .u16 x.a7] 26))
      simp only [enc8] at cA HBa
      clear hba hq8
      go_wp2_with fail
      refine cA.mono ?_
      rintro e w1 ⟨v, ok, rfl, hf1, hI1, hn1, hs1, hno1⟩
      have HMd : Hid (∃ M, Pv w1 v M ∧ M.length ≤ 64 ∧ ((∃ m, g x = some m ∧ ok = true ∧ sortL M = m) ∨ (g x = none ∧ ok = false))) := by
        show ∃ M, _
        cases hgx : g x with
        | some m =>
          obtain ⟨h1, M, h2, h3, h4⟩ := hs1 m hgx
          exact ⟨M, h2, h4, .inl ⟨m, rfl, h1, h3⟩⟩
        | none =>
          obtain ⟨h1, h2⟩ := hno1 hgx
          exact ⟨[], .inl ⟨rfl, h2⟩, by simp, .inr ⟨rfl, h1⟩⟩
      obtain ⟨M, hMv, hMl, hMr⟩ := HMd.out
      have HMr : Hid _ := hMr
      have HMv : Hid (Pv w1 v M) := hMv
      have hfr1 : Fr B w w1 := HS.out.fr.trans ((Fr.of_below HBa.out).trans hf1)
      have hown1 : OwnP w1 w.heap.size u6 acc := HS.out.own.fr ((Fr.of_below HBa.out).trans hf1)
      have HI1 : Hid (Inv B G (withV X u6) w1) := hI1
      have HFr1 : Hid (Fr B w w1) := hfr1
      have HOwn1 : Hid (OwnP w1 w.heap.size u6 acc) := hown1
      have hsz1 := hfr1.size
      clear hs1 hno1 hn1 hI1 hf1 hMv hMr HMd hown1 hfr1 cA c0 c1 c2 c3 c4 c5 c6 c7 HBa HS
      go_wp2_with (at_builtin; refine wpList_append_pk rfl _ _ rfl w.heap.size u6 acc rfl HOwn1.out v M rfl HMv.out (by omega) (by omega) ?_; intro v2 w2 hown2 hgrow2; have HO2 : Hid _ := hown2; have HG2 : Hid _ := hgrow2; clear hown2 hgrow2)
      refine (sort_row v2 (acc ++ M) (by rw [List.length_append]; omega) w2 w.heap.size HO2.out).mono ?_
      rintro e w3 ⟨v3, rfl, hown3, hb3⟩
      have hcol : Col B G X w v3 (sortL (acc ++ M)) w3 := Col.put rfl HI1.out HFr1.out HOwn1.out.own HG2.out hb3 hown3
      have HC : Hid _ := hcol
      obtain ⟨s3, c3, rfl⟩ := own_shape hown3.own
      clear hown3 hb3 hcol HO2 HG2 HI1 HFr1 HOwn1 HMv
      rcases HMr.out with ⟨m, hgx, rfl, hm⟩ | ⟨hgx, rfl⟩
      · have eu := uni_of (acc := acc) hm
        have HM3 : Hid (eachM g L [] = if 64 < (sortL (acc ++ M)).length then none else eachM g (L.drop (k + 1)) (sortL (acc ++ M))) := by
          show _ = _
          rw [HM2.out, hgx, eu]
        clear HM2 HMr hgx hm eu
        generalize sortL (acc ++ M) = acc2 at *
        by_cases h64 : 64 < acc2.length
        · have d : decide (64 < (acc2.length : Int)) = true := by simp; omega
          have HM4 : Hid (eachM g L [] = none) := by show _ = _; rw [HM3.out, if_pos h64]
          have HE := EachEnd.no HC.out
          have HE2 : Hid _ := HE
          rw [← HM4.out] at HE
          have HE3 : Hid _ := HE
          clear HE HE2 HM3 HM4 HC h64
          go_wp2
          refine bodyPost_ret (v := .tuple #[.slice none 0 0, .bool false]) ?_ rfl HE3.out
          simp [results, Try.results46, go_sem]
        · have d : decide (64 < (acc2.length : Int)) = false := by simp; omega
          have HM4 : Hid (eachM g L [] = eachM g (L.drop (k + 1)) acc2) := by show _ = _; rw [HM3.out, if_neg h64]
          have h64' : acc2.length ≤ 64 := by omega
          clear HM3 h64
          go_wp2
          go_roundw
          case rel => exact ⟨k + 1, acc2, by omega, by go_num, h64', HM4, HC⟩
          case measure => simp [intOf]; omega
      · have HM4 : Hid (eachM g L [] = none) := by show _ = _; rw [HM2.out, hgx]
        have HE := EachEnd.no HC.out
        rw [← HM4.out] at HE
        have HE3 : Hid _ := HE
        clear HE HM2 HM4 HC HMr hgx
        generalize (sortL (acc ++ M)).length = z at *
        go_wp2
        refine bodyPost_ret (v := .tuple #[.slice none 0 0, .bool false]) ?_ rfl HE3.out
        simp [results, Try.results46, go_sem]
    · obtain rfl : k = R := by omega
      have HM4 : Hid (eachM g L [] = some acc) := by
        show _ = _
        rw [HM.out, List.drop_of_length_le (by rw [HER.out]; exact Nat.le_refl _), eachM]
      have HE := EachEnd.yes HS.out
      rw [← HM4.out] at HE
      have HE3 : Hid _ := HE
      obtain ⟨s3, c3, rfl⟩ := own_shape HS.out.own.own
      clear HE HM HM4 HS
      go_wp2
      refine bodyPost_ret (v := .tuple #[.slice s3 acc.length c3, .bool true]) ?_ rfl HE3.out
      simp [results, Try.results46, go_sem]
end Go.Proofs.Ytipiepcbgjceaaa
