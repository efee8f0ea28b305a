/- What show's Pol answers: a policy's text, and the empty text of one that isn't well formed with four parts; numbers of 16 bits. -/
import Derived.Test.YtebpapmnkbehnaaDoorV6
import Derived.Deep.RegionWith
set_option linter.unusedVariables false
set_option linter.unusedSimpArgs false
namespace Go.Proofs.YtebpapmnkbehnaaDoor
open Go.RowKit Go.Joins Go.Lib Go.Sort

/-- A policy's text; the empty text of one that isn't well formed, with four parts. -/
def polT (T : Pl) : List UInt8 := if checkM ⟨[0, 0, 0, 0], T, []⟩ = 0 then textP T else []
theorem form4 {T : Pl} (h : checkM ⟨[0, 0, 0, 0], T, []⟩ = 0) : formP 4 T = true ∧ sizeP T ≤ 300 := by
  obtain ⟨h1, h2, -⟩ := chk_open h
  refine ⟨h2, ?_⟩
  unfold longB at h1
  simp only [Bool.or_eq_false_iff, decide_eq_false_iff_not] at h1
  omega
theorem rules_none (P : Nat → Prop) (w : World) : RulesAt P w (.slice none 0 0) [] := ⟨none, 0, rfl, fun k hk => by simp at hk⟩

set_option maxRecDepth 100000 in
set_option maxHeartbeats 4000000 in
theorem pol_show {P : Nat → Prop} (T : Pl) (x : Nd) (hs : sizeP T ≤ 100000) (hn : okN T) (w : World) (hp : PolAt P w T x) (hE : Es w) :
    Calls Tryd.prog 7 #[nv x] w fun e w' => e = .returned (.string ⟨(polT T).toArray⟩) ∧ Below w.heap.size w w' := by
  have hb0 := (Below.refl _ w).alloc (Nat.le_refl _) (pobj x)
  have HB0 : Hid (Below w.heap.size w (w.alloc (pobj x))) := hb0
  have HW : Hid ((w.alloc (pobj x)).heap[w.heap.size]? = some (pobj x)) := heap_alloc_new w _
  have HBd : Hid (Below w.heap.size w (w.alloc (pobj x)).drew) := below_drewN hb0 1
  have HWd : Hid ((w.alloc (pobj x)).drew.heap[w.heap.size]? = some (pobj x)) := heap_alloc_new w _
  have cA := allParts_any (w.alloc (pobj x)).drew
  rw [show (w.alloc (pobj x)).drew.heap.size = w.heap.size + 1 by simp [World.drew]] at cA
  have HP : Hid _ := hp
  have HE : Hid _ := hE
  have HSh : Hid (PgShort ⟨[0, 0, 0, 0], T, []⟩) := ⟨by simp, hs, by simp, fun r hr => by cases hr⟩
  have HF : Hid (∀ W, Below w.heap.size w W → NmAt W (.slice (some ⟨w.heap.size + 1, 0, none⟩) 4 4) [0, 0, 0, 0] → Calls Tryd.prog 13 #[pgv (.slice (some ⟨w.heap.size + 1, 0, none⟩) 4 4) x (.slice none 0 0)] W fun e w' => e = .returned (.bool (decide (checkM ⟨[0, 0, 0, 0], T, []⟩ = 0))) ∧ Below W.heap.size W w') := fun W hW hN =>
    isFormed_any (P := P) ⟨[0, 0, 0, 0], T, []⟩ _ x _ HSh.out W ⟨⟨_, _, rfl⟩, HP.out.below hW, rules_none P W⟩
  have HT : Hid (checkM ⟨[0, 0, 0, 0], T, []⟩ = 0 → ∀ W, Below w.heap.size w W → Calls Tryd.prog 15 #[nv x] W fun e w' => e = .returned (.string ⟨(textP T).toArray⟩) ∧ Below W.heap.size W w') := fun h W hW =>
    pol_text 4 (by decide) 300 T x W (form4 h).2 (by decide) (form4 h).1 hn (HP.out.below hW) (HE.out.below hW)
  obtain ⟨-, -, -, sk, skc, hkv⟩ := hp.shape
  obtain ⟨xo, xf, xn, xk⟩ := x
  dsimp only at hkv
  subst hkv
  generalize T.kids.length = kn at *
  have hsz : (w.alloc (pobj ⟨xo, xf, xn, .slice sk kn skc⟩)).drew.heap.size = w.heap.size + 1 := by simp [World.drew]
  clear hp hE hb0 hs hn HSh HP HE HW HB0
  obtain ⟨q0, q1, q2, q3⟩ := row4 HWd.out
  unfold polT
  cases hc : decide (checkM ⟨[0, 0, 0, 0], T, []⟩ = 0) with
  | true =>
    have hc0 : checkM ⟨[0, 0, 0, 0], T, []⟩ = 0 := by simpa using hc
    rw [if_pos hc0]
    have HT2 : Hid _ := HT.out hc0
    rw [hc] at HF
    clear hc hc0 HT
    go_enter Tryd.func7, Tryd.ntmps7
    go_wp2_with fail
    go_region_with (first
      | (go_at_call 14; refine cA.mono ?_; rintro e w1 ⟨⟨rfl, hn1⟩, hb1⟩; have HB1 : Hid (Below w.heap.size w w1) := HBd.out.trans (hb1.mono (by omega)); have HR1 : Hid (w1.heap[w.heap.size]? = some (pobj ⟨xo, xf, xn, .slice sk kn skc⟩)) := (hb1.block _ (by omega)).trans HWd.out; obtain ⟨p0, p1, p2, p3⟩ := row4 HR1.out; have C13 : Hid _ := HF.out w1 HB1.out hn1; clear hn1 hb1)
      | (go_at_call 13; refine Calls.mono C13.out ?_; rintro e w2 ⟨rfl, hb2⟩; have HB2 : Hid (Below w.heap.size w w2) := HB1.out.trans (hb2.mono HB1.out.size); have HR2 : Hid (w2.heap[w.heap.size]? = some (pobj ⟨xo, xf, xn, .slice sk kn skc⟩)) := (hb2.block _ (heap_lt HR1.out)).trans HR1.out; clear hb2))
    all_goals
      obtain ⟨r0, r1, r2, r3⟩ := row4 HR2.out
      go_wp2_with fail
      refine (HT2.out _ HB2.out).mono ?_
      rintro e w3 ⟨rfl, hb3⟩
      have HB3 : Hid (Below w.heap.size w w3) := HB2.out.trans (hb3.mono HB2.out.size)
      clear hb3 r0 r1 r2 r3
      go_wp2
      go_ret
      exact ⟨rfl, HB3.out⟩
  | false =>
    have hc0 : ¬ checkM ⟨[0, 0, 0, 0], T, []⟩ = 0 := by simpa using hc
    rw [if_neg hc0]
    rw [hc] at HF
    clear hc hc0 HT
    go_enter Tryd.func7, Tryd.ntmps7
    go_wp2_with fail
    go_region_with (first
      | (go_at_call 14; refine cA.mono ?_; rintro e w1 ⟨⟨rfl, hn1⟩, hb1⟩; have HB1 : Hid (Below w.heap.size w w1) := HBd.out.trans (hb1.mono (by omega)); have HR1 : Hid (w1.heap[w.heap.size]? = some (pobj ⟨xo, xf, xn, .slice sk kn skc⟩)) := (hb1.block _ (by omega)).trans HWd.out; obtain ⟨p0, p1, p2, p3⟩ := row4 HR1.out; have C13 : Hid _ := HF.out w1 HB1.out hn1; clear hn1 hb1)
      | (go_at_call 13; refine Calls.mono C13.out ?_; rintro e w2 ⟨rfl, hb2⟩; have HB2 : Hid (Below w.heap.size w w2) := HB1.out.trans (hb2.mono HB1.out.size); clear hb2))
    all_goals
      go_wp2
      go_ret
      exact ⟨rfl, HB2.out⟩
end Go.Proofs.YtebpapmnkbehnaaDoor
