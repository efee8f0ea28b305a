/- What room, hasPart, idIf and slices.Clone at policies answer; policies of up to 100000 nodes. -/
import Derived.Test.YtipiepcbgjceaaaG1
import Derived.Test.YtipiepcbgjceaaaR8
set_option linter.unusedVariables false
set_option linter.unusedSimpArgs false
namespace Go.Proofs.Ytipiepcbgjceaaa
open Go.RowKit Go.Joins

set_option maxRecDepth 100000 in
set_option maxHeartbeats 4000000 in
theorem proom_any {P : Nat → Prop} : ∀ (m : Nat) (T : Pl) (x : Nd) (n l : Int) (w : World), sizeP T ≤ m → m ≤ 100000 → 0 ≤ n → n ≤ 1000000000 → 0 ≤ l → l ≤ 1000000000 → PolAt P w T x → Calls Try.prog 27 #[nv x, .int .i64 n, .int .i64 l] w fun e w' => e = .returned (.int .i64 (roomP T n l)) ∧ Below w.heap.size w w'
  | 0, T, x, n, l, w, h, _, _, _, _, _, _ => absurd (size_pos T) (by omega)
  | m + 1, .mk op f nn kids, x, n, l, w, hs, hm, hn0, hn1, hl0, hl1, hp => by
    obtain ⟨sa, sc, rfl, hk⟩ := hp.open
    have ih := fun T x n w h a b c => proom_any (P := P) m T x n (l - 1) w h (by omega) a b c
    rw [sizeP_mk] at hs
    rw [roomP_mk]
    have hl := len_le kids
    have HK : Hid _ := hk
    have IH : Hid _ := ih
    clear hk ih hp
    by_cases h0 : l = 0
    · subst h0
      rw [if_pos rfl]
      clear HK IH
      go_enter Try.func27, Try.ntmps27
      go_wp2
      go_ret
      exact ⟨rfl, (Below.refl _ w).alloc (Nat.le_refl _) _⟩
    · rw [if_neg h0]
      have d0 : (l == 0) = false := by simpa using h0
      go_enter Try.func27, Try.ntmps27
      go_wp2
      go_loopw [1, 16] (fun s i wr => ∃ (k : Nat) (z : Int), k ≤ kids.length ∧ i = .int .i64 (k : Int) ∧ s = .int .i64 z ∧ -1 ≤ z ∧ z ≤ 1000000000 ∧ Hid (roomP.roomL (kids.drop k) z (l - 1) = roomP.roomL kids (n - 1) (l - 1)) ∧ Hid (Below w.heap.size w wr)) (fun _ i _ => kids.length - (intOf i).toNat)
      case atStart => exact ⟨0, n - 1, Nat.zero_le _, rfl, rfl, by omega, by omega, by show _ = _; rw [List.drop_zero], (Below.refl _ w).alloc (Nat.le_refl _) _⟩
      case round =>
        obtain ⟨k, z, hkl, rfl, rfl, hz0, hz1, HT, HB⟩ := hrel
        by_cases hlt : k < kids.length
        · obtain ⟨b, off, sa2, n2, sc2, y0, y1, y2, rfl, hb, ha, hp⟩ := HK.out k hlt
          obtain ⟨a0, a1, a2, a3⟩ := ha.same (HB.out.block b hb)
          have hwr := HB.out.size
          have hsz := size_get kids k hlt
          have htk := HT.out
          rw [drop_cons kids k hlt, roomL_cons] at htk
          by_cases hzn : z < 0
          · rw [if_pos hzn] at htk
            have HT2 : Hid (z = roomP.roomL kids (n - 1) (l - 1)) := htk
            clear hp ha htk hsz
            go_wp2
            go_ret
            exact ⟨by rw [← HT2.out]; rfl, HB.out.alloc hwr _⟩
          · rw [if_neg hzn] at htk
            have HT2 : Hid (roomP.roomL (kids.drop (k + 1)) (roomP kids[k] z (l - 1)) (l - 1) = roomP.roomL kids (n - 1) (l - 1)) := htk
            have cS := IH.out kids[k] ⟨y0, y1, y2, .slice sa2 n2 sc2⟩ z (wr.alloc (pobj ⟨y0, y1, y2, .slice sa2 n2 sc2⟩)) (by omega) (by omega) (by omega) (by omega) (by omega) ((hp.below HB.out).below ((Below.refl _ _).alloc (Nat.le_refl _) _))
            have hbd := room_bd kids[k] z (l - 1) (by omega)
            generalize roomP kids[k] z (l - 1) = z2 at *
            clear hp ha htk hsz
            go_wp2_with fail
            refine cS.mono ?_
            rintro e w1 ⟨rfl, hb1⟩
            have HB1 : Hid (Below w.heap.size w w1) := (HB.out.alloc hwr _).trans (hb1.mono (by simp; omega))
            clear hb1 cS
            go_wp2
            go_roundw
            case rel => exact ⟨k + 1, z2, by omega, by go_num, rfl, by omega, by omega, HT2, HB1⟩
            case measure => simp [intOf]; omega
        · obtain rfl : k = kids.length := by omega
          have HT2 : Hid (z = roomP.roomL kids (n - 1) (l - 1)) := by
            have := HT.out
            rw [List.drop_length, roomP.roomL] at this
            exact this
          go_wp2
          go_ret
          exact ⟨by rw [← HT2.out]; rfl, HB.out⟩

/-- A state lies there. -/
def StAt (w : World) (v : Value) (l : List Nat) : Prop :=
  ∃ sa sc, v = .slice sa l.length sc ∧ ∀ k (hk : k < l.length), ∃ b off, sa = some ⟨b, off, none⟩ ∧ b < w.heap.size ∧ w.cell? ⟨b, off + k, none⟩ = some (.int .u16 (l[k] : Int))
theorem StAt.below {w w' : World} {v : Value} {l : List Nat} (h : StAt w v l) (hb : Below w.heap.size w w') : StAt w' v l := by
  obtain ⟨sa, sc, h1, h2⟩ := h
  refine ⟨sa, sc, h1, fun k hk => ?_⟩
  obtain ⟨b, off, e1, e2, e3⟩ := h2 k hk
  exact ⟨b, off, e1, Nat.lt_of_lt_of_le e2 hb.size, (hb.cell (p := ⟨b, off + k, none⟩) e2).trans e3⟩

set_option maxRecDepth 100000 in
set_option maxHeartbeats 1000000 in
theorem hasPart_any (st : List Nat) (v : Value) (f n : Int) (w : World) (h : StAt w v st) (hm : st.length ≤ 9223372036854775807) :
    Calls Try.prog 39 #[v, .int .i64 f, .int .u16 n] w fun e w' => e = .returned (.bool (partIs st f n)) ∧ Below w.heap.size w w' := by
  obtain ⟨sa, sc, rfl, hc⟩ := h
  unfold partIs
  by_cases h0 : 0 ≤ f
  · obtain ⟨k, rfl⟩ := Int.eq_ofNat_of_zero_le h0
    have d0 : decide ((0 : Int) ≤ (k : Int)) = true := by simp
    by_cases h1 : k < st.length
    · obtain ⟨b, off, rfl, hb, c⟩ := hc k h1
      have d1 : decide ((k : Int) < (st.length : Int)) = true := by simp; omega
      have e : st.getD (k : Int).toNat 0 = st[k] := by simp [List.getD_eq_getElem?_getD, h1]
      rw [d0, d1, Bool.true_and, Bool.true_and, e]
      generalize st[k] = z at *
      clear hc
      have HC : Hid (Below w.heap.size w w) := Below.refl _ _
      generalize st.length = R at *
      go_enter Try.func39, Try.ntmps39
      go_wp2_with fail
      go_ret
      exact ⟨by rw [show ((z : Int) == n) = decide ((z : Int) = n) by by_cases h : (z : Int) = n <;> simp [h]]; rfl, HC.out⟩
    · have d1 : decide ((k : Int) < (st.length : Int)) = false := by simp; omega
      rw [d0, d1, Bool.true_and, Bool.false_and]
      clear hc
      generalize st.length = R at *
      go_enter Try.func39, Try.ntmps39
      go_wp2
      go_ret
      exact ⟨rfl, Below.refl _ _⟩
  · have d0 : decide ((0 : Int) ≤ f) = false := by simp; omega
    rw [d0, Bool.false_and, Bool.false_and]
    clear hc
    generalize st.length = R at *
    go_enter Try.func39, Try.ntmps39
    go_wp2
    go_ret
    exact ⟨rfl, Below.refl _ _⟩
theorem idIf_any (b : Bool) (w : World) : Calls Try.prog 38 #[.bool b] w fun e w' => e = .returned (.int .i64 (if b = true then 1 else 0)) ∧ w' = w := by
  cases b
  · go_enter Try.func38, Try.ntmps38
    go_wp2
    go_ret
    exact ⟨rfl, rfl⟩
  · go_enter Try.func38, Try.ntmps38
    go_wp2
    go_ret
    exact ⟨rfl, rfl⟩
end Go.Proofs.Ytipiepcbgjceaaa
/- What policy.at and policy.At answer: the policy in that state; policies of up to 1000 nodes. -/
set_option linter.unusedVariables false
set_option linter.unusedSimpArgs false
namespace Go.Proofs.Ytipiepcbgjceaaa
open Go.RowKit Go.Joins

theorem flat4_one' (L : List Nd) (h : ∀ x ∈ L, x.kv.oneCell' = true) : ∀ u ∈ flat4 L, u.oneCell' = true := by
  intro u hu
  unfold flat4 at hu
  obtain ⟨x, hx, hu⟩ := List.mem_flatMap.1 hu
  exact enc4_one x (h x hx) u hu
theorem flat4_set : ∀ (L : List Nd) (k : Nat) (y : Nd), k < L.length → flat4 (L.set k y) = ((((flat4 L).set (k * 4) (.int .i64 y.op)).set (k * 4 + 1) (.int .i64 y.f)).set (k * 4 + 2) (.int .u16 y.n)).set (k * 4 + 3) y.kv
  | x :: r, 0, y, _ => by simp [flat4, enc4]
  | x :: r, k + 1, y, h => by
    have ih := flat4_set r k y (by simpa using h)
    have e : ∀ L : List Nd, flat4 (x :: L) = enc4 x ++ flat4 L := fun L => by simp [flat4]
    rw [List.set_cons_succ, e, e, ih]
    have hl : (enc4 x).length = 4 := rfl
    rw [List.set_append_right _ _ (by omega), List.set_append_right _ _ (by omega), List.set_append_right _ _ (by omega), List.set_append_right _ _ (by omega)]
    rw [hl, show (k + 1) * 4 - 4 = k * 4 by omega, show (k + 1) * 4 + 1 - 4 = k * 4 + 1 by omega, show (k + 1) * 4 + 2 - 4 = k * 4 + 2 by omega, show (k + 1) * 4 + 3 - 4 = k * 4 + 3 by omega]

set_option maxRecDepth 100000 in
set_option maxHeartbeats 1000000 in
theorem clone40 (ad : Addr) (cap : Nat) (L : List Nd) (w : World) (hlen : L.length ≤ 1000) (h1 : ∀ x ∈ L, x.kv.oneCell' = true) (hc : ∀ j u, (flat4 L)[j]? = some u → w.cell? (ad.add j) = some u) :
    Calls Try.prog 40 #[.slice (some ad) L.length cap] w fun e w' => ∃ v', e = .returned v' ∧ w'.ownsRow w.heap.size 30 4 v' L.length (flat4 L) ∧ Below w.heap.size w w' := by
  obtain ⟨i0, hi, hz0, hz1, hz2⟩ := info_parts info29
  have q46 : ∀ (w : World) (a : Option Addr) (n c n' c' : Nat), (binOp .eql 28 (.slice a n c) (.slice none n' c')).run Try.prog w = .ok (.bool a.isNone) w := fun w a n c n' c' => Lib.run_eql_slice_nil w _ _ a n c n' c' Try.underlying28
  have hlf := flat4_len L
  have hone := flat4_one' L h1
  generalize flat4 L = news at *
  have HC : Hid (∀ j u, news[j]? = some u → w.cell? (ad.add j) = some u) := hc
  clear hc h1
  go_enter Try.func40, Try.ntmps40
  go_wp2_with (at_builtin; refine wpList_append_own _ rfl _ _ 28 rfl w.heap.size 30 i0 (nv ⟨0, 0, 0, .slice none 0 0⟩) 4 48 Try.underlying28 hi hz0 hz1 hz2 rfl (by decide) _ _ _ rfl (World.ownsRow_made w #[] 0 (Nat.le_refl _) (Nat.zero_le _) (by simp)) ad L.length cap news rfl ?qc1 ?qc2 ?qc3 ?qc4 ?qc5 ?qc6 ?_)
  case qc1 => exact hlf
  case qc2 =>
    intro j u hj
    exact Lib.cell?_alloc_some _ (HC.out j u hj)
  case qc3 => exact hone
  case qc4 => unfold maxLen; omega
  case qc5 => omega
  case qc6 => simp
  intro v' w1 hown hgrow hnil
  go_wp2
  go_ret
  refine ⟨v', rfl, by simpa using hown, ?_⟩
  exact ((Below.refl _ w).alloc (Nat.le_refl _) _).grown hgrow (by simp) (by intro k hk; simp [Value.ownBlock] at hk; omega)
theorem clone40_nil (n c : Nat) (w : World) : Calls Try.prog 40 #[.slice none n c] w fun e w' => e = .returned (.slice none 0 0) ∧ w' = w := by
  have q46 : ∀ (w : World) (a : Option Addr) (n c n' c' : Nat), (binOp .eql 28 (.slice a n c) (.slice none n' c')).run Try.prog w = .ok (.bool a.isNone) w := fun w a n c n' c' => Lib.run_eql_slice_nil w _ _ a n c n' c' Try.underlying28
  go_enter Try.func40, Try.ntmps40
  go_wp2
  go_ret
  exact ⟨rfl, rfl⟩
/-- A clone of kids, wherever they lie. -/
theorem clone40_any {P : Nat → Prop} {op f n : Int} {kids : List Pl} {sa : Option Addr} {sc : Nat} {w : World} (hp : PolAt P w (.mk op f n kids) ⟨op, f, n, .slice sa kids.length sc⟩) (hlen : kids.length ≤ 1000) (W : World) (hW : Below w.heap.size w W) :
    Calls Try.prog 40 #[.slice sa kids.length sc] W fun e w' => ∃ v' xs, e = .returned v' ∧ xs.length = kids.length ∧ w'.ownsRow W.heap.size 30 4 v' kids.length (flat4 xs) ∧ Below W.heap.size W w' ∧ ∀ i (h : i < kids.length) (h' : i < xs.length), PolAt P w kids[i] xs[i] ∧ xs[i].kv.oneCell' = true := by
  obtain ⟨sa', sc', e, hk⟩ := hp.open
  simp only [Nd.mk.injEq, true_and, Value.slice.injEq] at e
  obtain ⟨rfl, rfl⟩ := e
  cases sa with
  | none =>
    have hk0 : kids.length = 0 := by
      by_cases h : kids.length = 0
      · exact h
      · obtain ⟨b, off, _, _, _, _, _, _, e, _⟩ := hk 0 (by omega)
        cases e
    refine (clone40_nil kids.length sc W).mono ?_
    rintro e w' ⟨rfl, rfl⟩
    exact ⟨_, [], rfl, by simp [hk0], by rw [hk0]; exact World.ownsRow_nil _ _ _ _, Below.refl _ _, fun i h => by omega⟩
  | some ad =>
    have hx : ∀ i : Nat, ∃ x : Nd, ∀ h : i < kids.length, ∃ b off, ad = ⟨b, off, none⟩ ∧ b < w.heap.size ∧ At4 w b (off + i * 4) x ∧ PolAt P w kids[i] x := fun i => by
      by_cases h : i < kids.length
      · obtain ⟨b, off, s2, n2, c2, y0, y1, y2, e, hb, ha, hpp⟩ := hk i h
        injection e with e
        exact ⟨_, fun _ => ⟨b, off, e, hb, ha, hpp⟩⟩
      · exact ⟨⟨0, 0, 0, .slice none 0 0⟩, fun h' => absurd h' h⟩
    have hy : ∃ X : Nat → Nd, ∀ i (h : i < kids.length), ∃ b off, ad = ⟨b, off, none⟩ ∧ b < w.heap.size ∧ At4 w b (off + i * 4) (X i) ∧ PolAt P w kids[i] (X i) := ⟨fun i => Classical.choose (hx i), fun i h => Classical.choose_spec (hx i) h⟩
    obtain ⟨X, hX⟩ := hy
    have hxl : ((List.range kids.length).map X).length = kids.length := by simp
    have hcell : ∀ j u, (flat4 ((List.range kids.length).map X))[j]? = some u → W.cell? (ad.add j) = some u := fun j u hj => by
      have hjl : j < kids.length * 4 := by
        have := (List.getElem?_eq_some_iff.1 hj).1
        rw [flat4_len, hxl] at this; exact this
      have hi : j / 4 < kids.length := by omega
      obtain ⟨b, off, rfl, hb, ha, _⟩ := hX (j / 4) hi
      have h2 := flat4_get ((List.range kids.length).map X) (j / 4) (by rw [hxl]; exact hi) (j % 4) (by omega)
      rw [show j / 4 * 4 + j % 4 = j by omega, hj] at h2
      have h3 := ha.cell (j % 4) (by omega)
      rw [add_flat, hW.cell (p := ⟨b, off + j, none⟩) hb, show off + j = off + j / 4 * 4 + j % 4 by omega, h3, h2]
      simp
    have h1 : ∀ x ∈ (List.range kids.length).map X, x.kv.oneCell' = true := fun x hx => by
      obtain ⟨i, hi, rfl⟩ := List.mem_map.1 hx
      obtain ⟨_, _, _, _, _, hp⟩ := hX i (List.mem_range.1 hi)
      exact hp.one
    have := clone40 ad sc ((List.range kids.length).map X) W (by rw [hxl]; exact hlen) h1 hcell
    rw [hxl] at this
    refine this.mono ?_
    rintro e w' ⟨v', rfl, ho, hb⟩
    refine ⟨v', _, rfl, hxl, ho, hb, fun i h h' => ?_⟩
    obtain ⟨_, _, _, _, _, hp⟩ := hX i h
    simp only [List.getElem_map, List.getElem_range]
    exact ⟨hp, hp.one⟩

/-- Where the loop over the kids is. -/
structure AtSt (P : Nat → Prop) (st : List Nat) (w : World) (op f n : Int) (kids : List Pl) (k : Nat) (v : Value) (xs : List Nd) (wr : World) : Prop where
  bel : Below w.heap.size w wr
  siz : w.heap.size + 2 ≤ wr.heap.size
  box : wr.heap[w.heap.size]? = some (pobj ⟨op, f, n, v⟩)
  res : wr.heap[w.heap.size + 1]? = some nobj
  len : xs.length = kids.length
  own : wr.ownsRow (w.heap.size + 2) 30 4 v kids.length (flat4 xs)
  done : ∀ i (h : i < kids.length) (h' : i < xs.length), i < k → PolAt (fun b => w.heap.size + 2 ≤ b ∧ some b ≠ v.ownBlock) wr (atP st kids[i]) xs[i]
  todo : ∀ i (h : i < kids.length) (h' : i < xs.length), k ≤ i → PolAt P w kids[i] xs[i]
theorem AtSt.below {P : Nat → Prop} {st : List Nat} {w : World} {op f n : Int} {kids : List Pl} {k : Nat} {v : Value} {xs : List Nd} {wr w' : World} (h : AtSt P st w op f n kids k v xs wr) (hb : Below wr.heap.size wr w') : AtSt P st w op f n kids k v xs w' where
  bel := h.bel.trans (hb.mono h.bel.size)
  siz := Nat.le_trans h.siz hb.size
  box := (hb.block _ (heap_lt h.box)).trans h.box
  res := (hb.block _ (heap_lt h.res)).trans h.res
  len := h.len
  own := own_below h.own hb
  done i h1 h2 h3 := PolAt.keep hb.size (fun b e1 e2 => ⟨e1, hb.block b e2⟩) _ _ (h.done i h1 h2 h3)
  todo := h.todo
/-- A kid in that state. -/
theorem AtSt.step {P : Nat → Prop} {st : List Nat} {w : World} {op f n : Int} {kids : List Pl} {k g cap : Nat} {xs : List Nd} {wr w1 : World} {y : Nd} (h : AtSt P st w op f n kids k (.slice (some ⟨g, 0, none⟩) kids.length cap) xs wr) (hk : k < kids.length)
    (hb : Below wr.heap.size wr w1) (hp : PolAt (fun b => wr.heap.size ≤ b) w1 (atP st kids[k]) y) :
    AtSt P st w op f n kids (k + 1) (.slice (some ⟨g, 0, none⟩) kids.length cap) (xs.set k y) ((((w1.setCell ⟨g, k * 4, none⟩ (.int .i64 y.op)).setCell ⟨g, k * 4 + 1, none⟩ (.int .i64 y.f)).setCell ⟨g, k * 4 + 2, none⟩ (.int .u16 y.n)).setCell ⟨g, k * 4 + 3, none⟩ y.kv) := by
  have h1 := h.below hb
  have hg := h.own.lt g rfl
  have hs : ∀ b, b ≠ g → ((((w1.setCell ⟨g, k * 4, none⟩ (.int .i64 y.op)).setCell ⟨g, k * 4 + 1, none⟩ (.int .i64 y.f)).setCell ⟨g, k * 4 + 2, none⟩ (.int .u16 y.n)).setCell ⟨g, k * 4 + 3, none⟩ y.kv).heap[b]? = w1.heap[b]? := fun b hb => by
    rw [heap_setCell_other _ _ _ _ hb, heap_setCell_other _ _ _ _ hb, heap_setCell_other _ _ _ _ hb, heap_setCell_other _ _ _ _ hb]
  have hss : ((((w1.setCell ⟨g, k * 4, none⟩ (.int .i64 y.op)).setCell ⟨g, k * 4 + 1, none⟩ (.int .i64 y.f)).setCell ⟨g, k * 4 + 2, none⟩ (.int .u16 y.n)).setCell ⟨g, k * 4 + 3, none⟩ y.kv).heap.size = w1.heap.size := by simp [World.setCell]
  have keep : ∀ {T : Pl} {x : Nd}, PolAt (fun b => w.heap.size + 2 ≤ b ∧ some b ≠ (Value.slice (some ⟨g, 0, none⟩) kids.length cap).ownBlock) w1 T x → PolAt (fun b => w.heap.size + 2 ≤ b ∧ some b ≠ (Value.slice (some ⟨g, 0, none⟩) kids.length cap).ownBlock) ((((w1.setCell ⟨g, k * 4, none⟩ (.int .i64 y.op)).setCell ⟨g, k * 4 + 1, none⟩ (.int .i64 y.f)).setCell ⟨g, k * 4 + 2, none⟩ (.int .u16 y.n)).setCell ⟨g, k * 4 + 3, none⟩ y.kv) T x := fun hp =>
    PolAt.keep (by rw [hss]; exact Nat.le_refl _) (fun b e1 e2 => ⟨e1, hs b (fun e => e1.2 (by rw [e]; rfl))⟩) _ _ hp
  have sz := h.siz
  refine ⟨?_, ?_, ?_, ?_, by simpa using h.len, ?_, fun i a b hi => ?_, fun i a b hi => ?_⟩
  · exact (((h1.bel.setCell (by show w.heap.size ≤ g; omega) _).setCell (by show w.heap.size ≤ g; omega) _).setCell (by show w.heap.size ≤ g; omega) _).setCell (by show w.heap.size ≤ g; omega) _
  · rw [hss]; exact h1.siz
  · rw [hs _ (by omega)]; exact h1.box
  · rw [hs _ (by omega)]; exact h1.res
  · rw [flat4_set xs k y (by rw [h.len]; exact hk)]
    exact own_four h1.own _ _ _ _ _
  · by_cases e : i = k
    · subst e
      rw [List.getElem_set_self]
      exact keep (hp.mono fun b (e1 : wr.heap.size ≤ b) e2 => ⟨by omega, fun e => by have := Option.some.inj (show some b = some g from e); omega⟩)
    · rw [List.getElem_set_ne (by omega)]
      exact keep (h1.done i a (by simpa using b) (by omega))
  · rw [List.getElem_set_ne (by omega)]
    exact h.todo i a (by simpa using b) (by omega)

set_option maxRecDepth 100000 in
set_option maxHeartbeats 8000000 in
theorem at_any {P : Nat → Prop} (st : List Nat) (sv : Value) (hm63 : st.length ≤ 9223372036854775807) : ∀ (m : Nat) (T : Pl) (x : Nd) (w : World), sizeP T ≤ m → m ≤ 1000 → PolAt P w T x → StAt w sv st →
    Calls Try.prog 28 #[nv x, sv] w fun e w' => ∃ y, e = .returned (nv y) ∧ PolAt (fun b => w.heap.size ≤ b) w' (atP st T) y ∧ Below w.heap.size w w'
  | 0, T, x, w, h, _, _, _ => absurd (size_pos T) (by omega)
  | m + 1, .mk op f n kids, x, w, hs, hm, hp, hst => by
    have hp0 := hp
    obtain ⟨sa, sc, rfl, hk⟩ := hp.open
    have ih := fun T x w h => at_any (P := P) st sv hm63 m T x w h (by omega)
    rw [sizeP_mk] at hs
    have hl := len_le kids
    have HK : Hid _ := hk
    have IH : Hid _ := ih
    have HST : Hid (StAt w sv st) := hst
    have HP0 : Hid _ := hp0
    obtain ⟨ss, ssc, rfl, -⟩ := hst
    have hb0 : Below w.heap.size w ((w.alloc (pobj ⟨op, f, n, .slice sa kids.length sc⟩)).alloc nobj) := ((Below.refl _ w).alloc (Nat.le_refl _) _).alloc (by simp) _
    have HB0 : Hid _ := hb0
    clear hk ih hp hp0 hb0
    rw [atP_mk]
    by_cases h3 : op = 3
    · subst h3
      rw [if_pos rfl]
      have cH := hasPart_any st _ f n _ (HST.out.below HB0.out) hm63
      clear HK IH HST
      generalize st.length = R at *
      generalize kids.length = KL at *
      have hr0 : ((w.alloc (pobj ⟨3, f, n, .slice sa KL sc⟩)).alloc nobj).heap[w.heap.size + 1]? = some nobj := heap_alloc2_new w _ _
      obtain ⟨pb, hpb⟩ : ∃ pb, partIs st f n = pb := ⟨_, rfl⟩
      rw [hpb] at cH ⊢
      clear hpb
      have cI := idIf_any pb
      obtain ⟨z, hz⟩ : ∃ z : Int, (if pb = true then (1 : Int) else 0) = z := ⟨_, rfl⟩
      rw [hz] at cI ⊢
      clear hz
      have rest : ∀ (z : Int) (w1 : World), Below ((w.alloc (pobj ⟨3, f, n, .slice sa KL sc⟩)).alloc nobj).heap.size ((w.alloc (pobj ⟨3, f, n, .slice sa KL sc⟩)).alloc nobj) w1 → ∃ cs, cs = (#[.int .i64 z, .int .i64 0, .int .u16 0, .slice none 0 0] : Array Value) ∧ ((((w1.setCell ⟨w.heap.size + 1, 0, none⟩ (.int .i64 z)).setCell ⟨w.heap.size + 1, 1, none⟩ (.int .i64 0)).setCell ⟨w.heap.size + 1, 2, none⟩ (.int .u16 0)).setCell ⟨w.heap.size + 1, 3, none⟩ (.slice none 0 0)).heap[w.heap.size + 1]? = some (.cells cs 30) := fun z w1 hb => ⟨_, rfl, set4 _ _ _ _ ((hb.block _ (heap_lt hr0)).trans hr0)⟩
      have HRest : Hid _ := rest
      clear rest
      go_enter Try.func28, Try.ntmps28
      go_wp2_with fail
      refine cH.mono ?_
      rintro e w1 ⟨rfl, hb1⟩
      have hr1 := (hb1.block _ (heap_lt hr0)).trans hr0
      have HB1 : Hid (Below w.heap.size w w1) := HB0.out.trans (hb1.mono HB0.out.size)
      have HR1 : Hid _ := fun z => HRest.out z w1 hb1
      obtain ⟨r0, r1, r2, r3⟩ := row4 hr1
      obtain ⟨f0, f1, f2, f3⟩ := frz4 hr1
      clear hb1 hr1 cH HRest hr0
      go_wp2_with (go_at_call 38; refine (cI _).mono ?_; rintro e w2 ⟨rfl, rfl⟩)
      obtain ⟨cs, rfl, hcs⟩ := HR1.out z
      obtain ⟨g0, g1, g2, g3⟩ := row4 hcs
      refine bodyPost_ret (v := nv ⟨z, 0, 0, .slice none 0 0⟩) ?_ rfl ⟨_, rfl, PolAt.leaf _ _ _ _ _, ?_⟩
      · simp [results, Try.results28, go_sem, g0, g1, g2, g3]
      · exact (((HB1.out.setCell (by show w.heap.size ≤ w.heap.size + 1; omega) _).setCell (by show w.heap.size ≤ w.heap.size + 1; omega) _).setCell (by show w.heap.size ≤ w.heap.size + 1; omega) _).setCell (by show w.heap.size ≤ w.heap.size + 1; omega) _
    · rw [if_neg h3]
      have d3 : (op == 3) = false := by simpa using h3
      have cC := clone40_any HP0.out (by omega) _ HB0.out
      have hr0 : ((w.alloc (pobj ⟨op, f, n, .slice sa kids.length sc⟩)).alloc nobj).heap[w.heap.size + 1]? = some nobj := heap_alloc2_new w _ _
      have hr1 : ((w.alloc (pobj ⟨op, f, n, .slice sa kids.length sc⟩)).alloc nobj).heap[w.heap.size]? = some (pobj ⟨op, f, n, .slice sa kids.length sc⟩) := (Below.heap_alloc _ _ _ (by simp)).trans (heap_alloc_new w _)
      go_enter Try.func28, Try.ntmps28
      go_wp2_with fail
      refine cC.mono ?_
      rintro e w1 ⟨v1, xs, rfl, hxl, ho1, hb1, hx1⟩
      have hq0 := (hb1.block _ (heap_lt hr0)).trans hr0
      have hq1 := (hb1.block _ (heap_lt hr1)).trans hr1
      have HS0 : Hid (AtSt P st w op f n kids 0 v1 xs (w1.setCell ⟨w.heap.size, 3, none⟩ v1)) := by
        have hss : (w1.setCell ⟨w.heap.size, 3, none⟩ v1).heap.size = w1.heap.size := by simp [World.setCell]
        refine ⟨?_, by rw [hss]; exact Nat.le_trans (by simp) hb1.size, ?_, ?_, hxl, ?_, fun i a b h => by omega, fun i a b h => (hx1 i a b).1⟩
        · exact (HB0.out.trans (hb1.mono HB0.out.size)).setCell (Nat.le_refl _) _
        · have := heap_setCell_same w1 w.heap.size 3 _ _ v1 hq1
          simpa using this
        · rw [heap_setCell_other _ _ _ _ (show w.heap.size + 1 ≠ w.heap.size by omega)]; exact hq0
        · refine ⟨ho1.1, ?_⟩
          rcases ho1.2 with hn | ⟨g, cap, cur, hv, hg, hgg, rest⟩
          · exact .inl hn
          · simp at hg
            exact .inr ⟨g, cap, cur, hv, by omega, by rw [heap_setCell_other _ _ _ _ (show g ≠ w.heap.size by omega)]; exact hgg, rest⟩
      obtain ⟨va, vc, rfl⟩ := own_shape ho1
      obtain ⟨r0, r1, r2, r3⟩ := row4 hq1
      obtain ⟨f0, f1, f2, f3⟩ := frz4 hq1
      clear cC ho1 hx1 hxl hr0 hr1 HP0 hq0 hb1
      go_wp2_with fail
      obtain ⟨q0, q1, q2, q3⟩ := row4 HS0.out.box
      generalize (w1.setCell ⟨w.heap.size, 3, none⟩ (.slice va kids.length vc)) = w2 at *
      clear hq1 r0 r1 r2 r3 f0 f1 f2 f3
      go_wp2_with fail
      go_loopw [25] (fun i wr => ∃ (k : Nat) (xs : List Nd), k ≤ kids.length ∧ i = .int .i64 (k : Int) ∧ Hid (AtSt P st w op f n kids k (.slice va kids.length vc) xs wr)) (fun i _ => kids.length - (intOf i).toNat)
      case atStart => exact ⟨0, xs, Nat.zero_le _, rfl, HS0⟩
      case round =>
        clear HS0 q0 q1 q2 q3 xs
        obtain ⟨k, xs, hkl, rfl, HS⟩ := hrel
        have hsiz := HS.out.siz
        obtain ⟨q0, q1, q2, q3⟩ := row4 HS.out.box
        by_cases hlt : k < kids.length
        · have hlx : k < xs.length := by rw [HS.out.len]; exact hlt
          have hown := HS.out.own
          obtain ⟨g, rfl⟩ := own_some hown (by omega)
          have hc : ∀ j, j < 4 → wr.cell? ⟨g, k * 4 + j, none⟩ = (enc4 xs[k])[j]? := fun j hj => by
            have := hown.cellAt (k * 4 + j) (by omega)
            rw [this, flat4_get xs k hlx j hj]
          have hgl := (hown.lt g rfl)
          have a0 := hc 0 (by decide)
          have a1 := hc 1 (by decide)
          have a2 := hc 2 (by decide)
          have a3 := hc 3 (by decide)
          have hto := HS.out.todo k hlt hlx (Nat.le_refl _)
          obtain ⟨-, -, -, ya, yc, hyk⟩ := hto.shape
          generalize hy : xs[k] = y at *
          obtain ⟨y0, y1, y2, y3⟩ := y
          dsimp only at hyk
          subst hyk
          simp only [enc4, Nat.add_zero, List.getElem?_cons_zero, List.getElem?_cons_succ] at a0 a1 a2 a3
          have hsz := size_get kids k hlt
          obtain ⟨WA, hWA⟩ : ∃ WA, WA = wr.alloc (pobj ⟨y0, y1, y2, .slice ya kids[k].kids.length yc⟩) := ⟨_, rfl⟩
          have hba : Below wr.heap.size wr WA := by rw [hWA]; exact (Below.refl _ _).alloc (Nat.le_refl _) _
          have HSA : Hid (AtSt P st w op f n kids k (.slice (some ⟨g, 0, none⟩) kids.length vc) xs WA) := HS.out.below hba
          have hcell : WA.heap[wr.heap.size]? = some (pobj ⟨y0, y1, y2, .slice ya kids[k].kids.length yc⟩) := by rw [hWA]; exact heap_alloc_new _ _
          obtain ⟨e0, e1, e2, e3⟩ := row4 hcell
          have HBd : Hid (Below WA.heap.size WA WA.drew) := below_drewN (Below.refl _ WA) 1
          have cS : Hid (∀ W, Below WA.heap.size WA W → Calls Try.prog 28 #[nv ⟨y0, y1, y2, .slice ya kids[k].kids.length yc⟩, .slice ss st.length ssc] W fun e w' => ∃ y, e = .returned (nv y) ∧ PolAt (fun b => W.heap.size ≤ b) w' (atP st kids[k]) y ∧ Below W.heap.size W w') := fun W hW => IH.out kids[k] _ W (by omega) (hto.below (HSA.out.bel.trans (hW.mono HSA.out.bel.size))) (HST.out.below (HSA.out.bel.trans (hW.mono HSA.out.bel.size)))
          have hbx := HSA.out.box
          obtain ⟨s0, s1, s2, s3⟩ := row4 hbx
          have HKd : Hid (k < kids.length) := hlt
          have HCell : Hid (∀ W, Below WA.heap.size WA W → (W.cell? ⟨g, k * 4, none⟩).isSome = true ∧ (W.cell? ⟨g, k * 4 + 1, none⟩).isSome = true ∧ (W.cell? ⟨g, k * 4 + 2, none⟩).isSome = true ∧ (W.cell? ⟨g, k * 4 + 3, none⟩).isSome = true) := fun W hW => by
            have hgA : g < WA.heap.size := by have := hba.size; omega
            have q : ∀ o, W.cell? ⟨g, o, none⟩ = wr.cell? ⟨g, o, none⟩ := fun o => (hW.cell (p := ⟨g, o, none⟩) hgA).trans (hba.cell (p := ⟨g, o, none⟩) (by show g < wr.heap.size; omega))
            rw [q, q, q, q, a0, a1, a2, a3]; exact ⟨rfl, rfl, rfl, rfl⟩
          generalize kids[k].kids.length = kn at *
          clear hc hto hsz hba hcell
          go_wp2_with fail
          rw [← hWA]
          clear hWA
          have HFz : Hid (∀ W, Below WA.heap.size WA W → W.frozen? ⟨g, k * 4, none⟩ = false ∧ W.frozen? ⟨g, k * 4 + 1, none⟩ = false ∧ W.frozen? ⟨g, k * 4 + 2, none⟩ = false ∧ W.frozen? ⟨g, k * 4 + 3, none⟩ = false) := fun W hW => by
            rcases HSA.out.own.2 with ⟨hv, _⟩ | ⟨g', cap', cur, hv, _, hgg, _⟩
            · cases hv
            · simp only [Value.slice.injEq, Option.some.injEq, Addr.mk.injEq] at hv
              obtain ⟨⟨rfl, -⟩, -⟩ := hv
              have := (hW.block g (heap_lt hgg)).trans hgg
              exact ⟨frozen_of_row _ _ _ _ _ this, frozen_of_row _ _ _ _ _ this, frozen_of_row _ _ _ _ _ this, frozen_of_row _ _ _ _ _ this⟩
          go_region_law (go_simp; go_at_call 28; refine Calls.mono (cS.out _ HBd.out) ?_; rintro e w3 ⟨⟨yo, yf, yn, yk⟩, rfl, hpy, hb3⟩; obtain ⟨-, -, -, yb, yd, hyv⟩ := hpy.shape; dsimp only at hyv; subst hyv; generalize (atP st kids[k]).kids.length = kn2 at hpy ⊢; have HB3 : Hid (Below WA.heap.size WA w3) := HBd.out.trans (hb3.mono HBd.out.size); obtain ⟨t0, t1, t2, t3⟩ := row4 ((HB3.out.block _ (heap_lt hbx)).trans hbx); obtain ⟨z0, z1, z2, z3⟩ := HFz.out _ HB3.out; obtain ⟨k0, k1, k2, k3⟩ := HCell.out _ HB3.out; obtain ⟨u0, k0⟩ := Option.isSome_iff_exists.1 k0; obtain ⟨u1, k1⟩ := Option.isSome_iff_exists.1 k1; obtain ⟨u2, k2⟩ := Option.isSome_iff_exists.1 k2; obtain ⟨u3, k3⟩ := Option.isSome_iff_exists.1 k3; have HPy : Hid _ := hpy)
          all_goals
            have HS3 : Hid _ := AtSt.step HSA.out HKd.out HB3.out (HPy.out.mono fun b h1 h2 => h1)
            clear t0 t1 t2 t3 z0 z1 z2 z3 k0 k1 k2 k3 HB3 HPy hb3 hpy e0 e1 e2 e3 s0 s1 s2 s3 a0 a1 a2 a3 q0 q1 q2 q3 HSA HS cS HCell HFz hown hbx
            go_wp2
            go_roundw
            case rel => exact ⟨k + 1, _, by omega, by go_num, HS3⟩
            case measure => simp [intOf]; omega
        · obtain rfl : k = kids.length := by omega
          obtain ⟨r0, r1, r2, r3⟩ := row4 HS.out.res
          obtain ⟨f0, f1, f2, f3⟩ := frz4 HS.out.res
          have hres := set4 (.int .i64 op) (.int .i64 f) (.int .u16 n) (.slice va kids.length vc) HS.out.res
          obtain ⟨g0, g1, g2, g3⟩ := row4 hres
          have HE : Hid (PolAt (fun b => w.heap.size ≤ b) ((((wr.setCell ⟨w.heap.size + 1, 0, none⟩ (.int .i64 op)).setCell ⟨w.heap.size + 1, 1, none⟩ (.int .i64 f)).setCell ⟨w.heap.size + 1, 2, none⟩ (.int .u16 n)).setCell ⟨w.heap.size + 1, 3, none⟩ (.slice va kids.length vc)) (.mk op f n (atP.atL st kids)) ⟨op, f, n, .slice va kids.length vc⟩ ∧ Below w.heap.size w ((((wr.setCell ⟨w.heap.size + 1, 0, none⟩ (.int .i64 op)).setCell ⟨w.heap.size + 1, 1, none⟩ (.int .i64 f)).setCell ⟨w.heap.size + 1, 2, none⟩ (.int .u16 n)).setCell ⟨w.heap.size + 1, 3, none⟩ (.slice va kids.length vc))) := by
            refine ⟨?_, ?_⟩
            · have hal : (atP.atL st kids).length = xs.length := by rw [atL_map, List.length_map, HS.out.len]
              have hps : PolsAt (fun b => w.heap.size + 2 ≤ b) wr (atP.atL st kids) xs := ⟨hal, fun i h1 h2 => by
                have hik : i < kids.length := by rw [← HS.out.len]; exact h2
                have e : (atP.atL st kids)[i] = atP st kids[i] := by simp [atL_map]
                rw [e]
                exact (HS.out.done i hik h2 hik).mono fun b h _ => h.1⟩
              have ho := HS.out.own
              rw [← HS.out.len] at ho
              have hp := pol_of_own (Q := fun b => w.heap.size + 2 ≤ b) op f n ho hps (fun b h _ => h) (fun b h => h)
              rw [HS.out.len] at hp
              have := (((hp.set (a := ⟨w.heap.size + 1, 0, none⟩) (by show ¬ (w.heap.size + 2 ≤ w.heap.size + 1); omega) (.int .i64 op)).set (a := ⟨w.heap.size + 1, 1, none⟩) (by show ¬ (w.heap.size + 2 ≤ w.heap.size + 1); omega) (.int .i64 f)).set (a := ⟨w.heap.size + 1, 2, none⟩) (by show ¬ (w.heap.size + 2 ≤ w.heap.size + 1); omega) (.int .u16 n)).set (a := ⟨w.heap.size + 1, 3, none⟩) (by show ¬ (w.heap.size + 2 ≤ w.heap.size + 1); omega) (.slice va kids.length vc)
              exact this.mono (Q := fun b => w.heap.size ≤ b) fun b (h : w.heap.size + 2 ≤ b) _ => (show w.heap.size ≤ b by omega)
            · exact (((HS.out.bel.setCell (by show w.heap.size ≤ w.heap.size + 1; omega) _).setCell (by show w.heap.size ≤ w.heap.size + 1; omega) _).setCell (by show w.heap.size ≤ w.heap.size + 1; omega) _).setCell (by show w.heap.size ≤ w.heap.size + 1; omega) _
          clear HS hres
          go_wp2
          refine bodyPost_ret (v := nv ⟨op, f, n, .slice va kids.length vc⟩) ?_ rfl ⟨_, rfl, HE.out.1, HE.out.2⟩
          simp [results, Try.results28, go_sem, g0, g1, g2, g3]
end Go.Proofs.Ytipiepcbgjceaaa
