/- What Make and Lets answer: what the policy makes, or the error; without the book where none is needed. -/
import Derived.Test.YtipiepcbgjceaaaJ1
import Derived.Test.YtipiepcbgjceaaaH6
set_option linter.unusedVariables false
set_option linter.unusedSimpArgs false
namespace Go.Proofs.Ytipiepcbgjceaaa
open Go.RowKit Go.Joins

/-- How Make ends: the policy isn't well formed; its work is too great; what it makes. -/
def MkEnd (st : List Nat) (T : Pl) (q : P8) (w : World) (e : Ending) (w' : World) : Prop :=
  ∃ v z, e = .returned (.tuple #[v, .int .i64 z]) ∧ Below w.heap.size w w' ∧ ((okT T = false ∧ z = 11 ∧ v = .slice none 0 0) ∨ (okT T = true ∧ mkP st T q = none ∧ z = 24 ∧ v = .slice none 0 0) ∨ (okT T = true ∧ ∃ l, mkP st T q = some l ∧ z = 0 ∧ Pv w' v l))
/-- By the book, or without it. -/
def Works (st : List Nat) (T : Pl) : Prop := Slim (atP st T) ∨ ∀ B G, Many B G
theorem good_at {st : List Nat} {T : Pl} (h : okT T = true) (ho : okN T) : GoodT (atP st T) := by
  obtain ⟨h1, h2, h3⟩ := (okT_iff T).1 h
  exact ⟨at_form st 4 T h3, at_noSt st T, at_ok st T ho, by have := at_size st T; omega⟩

set_option maxRecDepth 100000 in
set_option maxHeartbeats 8000000 in
theorem make_any {P : Nat → Prop} (st : List Nat) (sv : Value) (hm63 : st.length ≤ 9223372036854775807) (T : Pl) (x : Nd) (q : P8) (w : World) (hs : sizeP T ≤ 1000) (ho : okN T) (hq : Q8 q) (hp : PolAt P w T x) (hst : StAt w sv st) (hM : okT T = true → Works st T) :
    Calls Try.prog 9 #[nv x, sv, q.v] w fun e w' => MkEnd st T q w e w' := by
  have hb0 : Below w.heap.size w ((w.alloc (pobj x)).alloc (pobj8 q)) := ((Below.refl _ w).alloc (Nat.le_refl _) _).alloc (by simp) _
  have cF := formedP_any (P := P) T x ((w.alloc (pobj x)).alloc (pobj8 q)) hs (hp.below hb0)
  have HP : Hid (PolAt P w T x) := hp
  have HST : Hid (StAt w sv st) := hst
  have HB0 : Hid (Below w.heap.size w ((w.alloc (pobj x)).alloc (pobj8 q))) := hb0
  have hr0 : Hid (((w.alloc (pobj x)).alloc (pobj8 q)).heap[w.heap.size + 1]? = some (pobj8 q)) := heap_alloc2_new w _ _
  have hr1 : Hid (((w.alloc (pobj x)).alloc (pobj8 q)).heap[w.heap.size]? = some (pobj x)) := (Below.heap_alloc _ _ _ (by simp)).trans (heap_alloc_new w _)
  obtain ⟨ss, ssc, rfl, -⟩ := hst
  obtain ⟨-, -, -, sa, sc, hkv⟩ := hp.shape
  obtain ⟨xo, xf, xn, xk⟩ := x
  dsimp only at hkv
  subst hkv
  obtain ⟨KL, eKL⟩ : ∃ KL, T.kids.length = KL := ⟨_, rfl⟩
  rw [eKL] at cF HP HB0 hr0 hr1 ⊢
  obtain ⟨SL, eSL⟩ : ∃ SL, st.length = SL := ⟨_, rfl⟩
  rw [eSL] at HST ⊢
  have HOK : Hid (okT T = okT T) := rfl
  clear hp hb0 eKL
  cases hk : okT T with
  | false =>
    rw [hk] at cF
    have HE : Hid (∀ w', Below w.heap.size w w' → MkEnd st T q w (.returned (.tuple #[.slice none 0 0, .int .i64 11])) w') := fun w' hb => ⟨_, _, rfl, hb, .inl ⟨hk, rfl, rfl⟩⟩
    clear hM hk HP HST hr0 hr1
    go_enter Try.func9, Try.ntmps9
    go_wp2_with fail
    refine cF.mono ?_
    rintro e w1 ⟨rfl, hb1⟩
    have HE2 : Hid _ := HE.out w1 (HB0.out.trans (hb1.mono HB0.out.size))
    clear hb1 cF HE HB0
    go_wp2
    refine bodyPost_ret (v := .tuple #[.slice none 0 0, .int .i64 11]) ?_ rfl HE2.out
    simp [results, Try.results9, go_sem]
  | true =>
    rw [hk] at cF
    have hgood := good_at (st := st) hk ho
    have hmake : ∀ B G, MakesC B G (atP st T) := fun B G => makes_all B G _ _ (Nat.le_refl _) hgood ((hM hk).imp id fun h => h B G)
    have HMk : Hid (∀ (w' w2 : World) (e : Ending) (c : Nat) (G : Nat → Option Pl), G c = some (atP st T) → FreshG w'.heap.size none G w2 → Below w'.heap.size w' w2 → Calls Try.prog 25 #[.pointer (some ⟨c, 0, none⟩), q.v] w2 fun e w3 => ∃ v ok, e = .returned (.tuple #[v, .bool ok]) ∧ Below w'.heap.size w2 w3 ∧ (∀ l, mkP st T q = some l → ok = true ∧ Pv w3 v l) ∧ (mkP st T q = none → ok = false ∧ v = .slice none 0 0)) := fun w' w2 e c G hc hf hb => by
      have := hmake w'.heap.size G (fun _ => False) c q w2 hq hc (fun b hb => hb.elim) (inv_fresh hf hb.size)
      rw [mkP_at] at this
      refine this.mono ?_
      rintro e w3 ⟨v, ok, rfl, hf3, -, -, h5, h6⟩
      exact ⟨v, ok, rfl, hf3.below hb.size, h5, h6⟩
    have HE : Hid (∀ (w' : World) (v : Value) (ok : Bool), Below w.heap.size w w' → (∀ l, mkP st T q = some l → ok = true ∧ Pv w' v l) → (mkP st T q = none → ok = false ∧ v = .slice none 0 0) → (ok = true → MkEnd st T q w (.returned (.tuple #[v, .int .i64 0])) w') ∧ (ok = false → MkEnd st T q w (.returned (.tuple #[.slice none 0 0, .int .i64 24])) w')) := fun w' v ok hb h5 h6 => by
      cases hr : mkP st T q with
      | none =>
        obtain ⟨rfl, rfl⟩ := h6 hr
        exact ⟨fun e => (by cases e), fun _ => ⟨_, _, rfl, hb, .inr (.inl ⟨hk, hr, rfl, rfl⟩)⟩⟩
      | some l =>
        obtain ⟨rfl, hv⟩ := h5 l hr
        exact ⟨fun _ => ⟨_, _, rfl, hb, .inr (.inr ⟨hk, l, hr, rfl, hv⟩)⟩, fun e => (by cases e)⟩
    have hat := at_size st T
    clear hM hk hgood hmake HOK
    go_enter Try.func9, Try.ntmps9
    go_wp2_with fail
    refine cF.mono ?_
    rintro e w1 ⟨rfl, hb1⟩
    have hq0 := (hb1.block _ (heap_lt hr0.out)).trans hr0.out
    have hq1 := (hb1.block _ (heap_lt hr1.out)).trans hr1.out
    have HB1 : Hid (Below w.heap.size w w1) := HB0.out.trans (hb1.mono HB0.out.size)
    have HQ0 : Hid (w1.heap[w.heap.size + 1]? = some (pobj8 q)) := hq0
    have cA : Hid (∀ W, Below w1.heap.size w1 W → Calls Try.prog 13 #[nv ⟨xo, xf, xn, .slice sa KL sc⟩, .slice ss SL ssc] W fun e w' => ∃ y, e = .returned (nv y) ∧ PolAt (fun b => W.heap.size ≤ b) w' (atP st T) y ∧ Below W.heap.size W w') := fun W hW => by
      have := atT_any (P := P) st (.slice ss SL ssc) (by rw [eSL] at hm63 ⊢; exact hm63) T _ W hs (HP.out.below (HB1.out.trans (hW.mono HB1.out.size))) (HST.out.below (HB1.out.trans (hW.mono HB1.out.size)))
      exact this
    obtain ⟨r0, r1, r2, r3⟩ := row4 hq1
    obtain ⟨⟨s0, s1, s2, s3, s4, s5, s6, s7⟩, -, -⟩ := row8 hq0
    have hq0l := heap_lt hq0
    have HBd : Hid (Below w1.heap.size w1 w1.drew) := below_drewN (Below.refl _ w1) 1
    have HS : Hid (sizeP (atP st T) ≤ 1000) := by show _ ≤ _; omega
    clear hb1 hq0 hq1 cF HP HST HB0 hr0 hr1 hat
    go_wp2_with fail
    go_region_law (first
      | (go_simp; go_at_call 13; refine Calls.mono (cA.out _ HBd.out) ?_; rintro e w2 ⟨y, rfl, hpy, hb2⟩; have HB2 : Hid (Below w1.heap.size w1 w2) := HBd.out.trans (hb2.mono HBd.out.size); obtain ⟨⟨t0, t1, t2, t3, t4, t5, t6, t7⟩, -, -⟩ := row8 ((HB2.out.block _ hq0l).trans HQ0.out); have cG := grow_any 1000 (atP st T) y w2 HS.out (by omega) hpy; clear hpy hb2)
      | (go_simp; go_at_call 24; refine Calls.mono cG ?_; rintro e w3 ⟨c, G, rfl, hb3, hc3, hf3, -⟩; have HB3 : Hid (Below w1.heap.size w1 w3) := HB2.out.trans (hb3.mono HB2.out.size); obtain ⟨⟨u0, u1, u2, u3, u4, u5, u6, u7⟩, -, -⟩ := row8 ((HB3.out.block _ hq0l).trans HQ0.out); have cM := HMk.out w2 w3 (.returned undef) c G hc3 hf3 hb3; have hsz3 := hb3.size; clear hb3 hc3 hf3 cG)
      | (go_simp; go_at_call 25; refine Calls.mono cM ?_; rintro e w4 ⟨v, ok, rfl, hb4, h5, h6⟩; have HB4 : Hid (Below w.heap.size w w4) := HB1.out.trans ((HB3.out.trans (hb4.mono HB2.out.size)).mono HB1.out.size); have HE4 : Hid _ := HE.out w4 v ok HB4.out h5 h6; clear hb4 h5 h6 cM))
    all_goals
      obtain ⟨hE1, hE2⟩ := HE4.out
      have HE1 : Hid _ := hE1
      have HE2 : Hid _ := hE2
      clear hE1 hE2 HE4 HE HB4 HB2 HB3 HMk cA HBd HS HB1 HQ0
      cases ok with
      | true =>
        have HE3 : Hid _ := HE1.out rfl
        clear HE1 HE2
        go_wp2
        refine bodyPost_ret (v := .tuple #[v, .int .i64 0]) ?_ rfl HE3.out
        simp [results, Try.results9, go_sem]
      | false =>
        have HE3 : Hid _ := HE2.out rfl
        clear HE1 HE2
        go_wp2
        refine bodyPost_ret (v := .tuple #[.slice none 0 0, .int .i64 24]) ?_ rfl HE3.out
        simp [results, Try.results9, go_sem]

set_option maxRecDepth 100000 in
set_option maxHeartbeats 8000000 in
theorem letsP_any {P : Nat → Prop} (st : List Nat) (sv : Value) (hm63 : st.length ≤ 9223372036854775807) (T : Pl) (x : Nd) (q : P8) (w : World) (hs : sizeP T ≤ 1000) (ho : okN T) (hq : Q8 q) (hp : PolAt P w T x) (hst : StAt w sv st) (hM : okT T = true → Works st T) :
    Calls Try.prog 12 #[nv x, sv, q.v] w fun e w' => ∃ b : Bool, e = .returned (.bool b) ∧ Below w.heap.size w w' ∧ (b = true ↔ okT T = true ∧ ∃ l, mkP st T q = some l ∧ l ≠ []) := by
  have hb0 : Below w.heap.size w ((w.alloc (pobj x)).alloc (pobj8 q)) := ((Below.refl _ w).alloc (Nat.le_refl _) _).alloc (by simp) _
  have cM := make_any (P := P) st sv hm63 T x q ((w.alloc (pobj x)).alloc (pobj8 q)) hs ho hq (hp.below hb0) (hst.below hb0) hM
  have HB0 : Hid (Below w.heap.size w ((w.alloc (pobj x)).alloc (pobj8 q))) := hb0
  obtain ⟨⟨s0, s1, s2, s3, s4, s5, s6, s7⟩, -, -⟩ := row8 (show ((w.alloc (pobj x)).alloc (pobj8 q)).heap[w.heap.size + 1]? = some (pobj8 q) from heap_alloc2_new w _ _)
  have hr1 : ((w.alloc (pobj x)).alloc (pobj8 q)).heap[w.heap.size]? = some (pobj x) := (Below.heap_alloc _ _ _ (by simp)).trans (heap_alloc_new w _)
  obtain ⟨r0, r1, r2, r3⟩ := row4 hr1
  obtain ⟨ss, ssc, rfl, -⟩ := hst
  obtain ⟨-, -, -, sa, sc, hkv⟩ := hp.shape
  obtain ⟨xo, xf, xn, xk⟩ := x
  dsimp only at hkv
  subst hkv
  generalize T.kids.length = KL at *
  obtain ⟨SL, eSL⟩ : ∃ SL, st.length = SL := ⟨_, rfl⟩
  rw [eSL] at cM ⊢
  clear hp hb0 eSL hM hr1 ho hq hs hm63
  go_enter Try.func12, Try.ntmps12
  go_wp2_with fail
  refine cM.mono ?_
  rintro e w1 ⟨v, z, rfl, hb1, hr⟩
  have HB1 : Hid (Below w.heap.size w w1) := HB0.out.trans (hb1.mono HB0.out.size)
  have HR : Hid (∃ sa n sc, v = .slice sa n sc ∧ n ≤ 64 ∧ (0 < n ↔ okT T = true ∧ ∃ l, mkP st T q = some l ∧ l ≠ [])) := by
    show ∃ sa n sc, _
    rcases hr with ⟨h1, -, rfl⟩ | ⟨h1, h2, -, rfl⟩ | ⟨h1, l, h2, -, h3⟩
    · exact ⟨_, _, _, rfl, by omega, ⟨fun h => by omega, fun ⟨h, _⟩ => by rw [h1] at h; cases h⟩⟩
    · exact ⟨_, _, _, rfl, by omega, ⟨fun h => by omega, fun ⟨_, l, h, _⟩ => by rw [h2] at h; cases h⟩⟩
    · obtain ⟨a, c, rfl, -⟩ := h3.shape
      refine ⟨a, l.length, c, rfl, mkP_len st T q l h2, ⟨fun h => ⟨h1, l, h2, fun e => by rw [e] at h; simp at h⟩, fun ⟨_, l', h, hn⟩ => ?_⟩⟩
      rw [h2] at h
      injection h with h
      subst h
      exact List.length_pos_iff.2 hn
  obtain ⟨va, vn, vc, rfl, hn64, hiff⟩ := HR.out
  have HI : Hid _ := hiff
  clear hb1 hr HR hiff cM
  go_wp2
  go_ret
  exact ⟨decide (0 < vn), rfl, HB1.out, by rw [decide_eq_true_eq]; exact HI.out⟩
end Go.Proofs.Ytipiepcbgjceaaa
