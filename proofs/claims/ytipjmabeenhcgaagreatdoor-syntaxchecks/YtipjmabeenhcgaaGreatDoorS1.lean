/- The laws' first look: the small program that awake asks for is parsed, and a text that is none isn't; no conditions but what the row lists. -/
import Derived.Test.YtipjmabeenhcgaaGreatDoorP16
import Derived.KernelRfl
set_option linter.unusedVariables false
set_option linter.unusedSimpArgs false
namespace Go.Proofs.YtipjmabeenhcgaaGreatDoor
open Go.RowKit Go.Joins Go.Lib

def toksOf : Except Nat (List Tk) → List Tk
  | .ok l => l
  | .error _ => []
def aw1 : List UInt8 := [105, 110, 105, 116, 32, 48, 32, 46, 32, 108, 101, 116, 32, 119, 101, 98, 32, 61, 32, 56, 48, 32, 46, 32, 112, 111, 108, 105, 99, 121, 32, 64, 48, 61, 48, 32, 59, 32, 115, 118, 99, 61, 119, 101].append [98, 32, 59, 32, 112, 116, 58, 61, 49, 32, 43, 32, 100, 114, 111, 112, 32, 46, 32, 111, 110, 32, 115, 119, 61, 49, 32, 38, 32, 112, 116, 61, 50, 32, 61, 62, 32, 64, 48, 58, 61, 49, 32, 46]
def aw2 : List UInt8 := [105, 110, 105, 116]
def awT : List Tk := toksOf (lexS 0 (asc aw1))
def awU : List Tk := toksOf (lexS 0 (asc aw2))
theorem aw_lex1 : lexS 0 (asc aw1) = .ok awT := by kernel_rfl
theorem aw_lex2 : lexS 0 (asc aw2) = .ok awU := by kernel_rfl
/-- Short enough, as a test. -/
def shortB (p : Pg) : Bool := decide (p.init.length ≤ 1000) && decide (sizeP p.pol ≤ 1000) && decide (p.rules.length ≤ 1000) && p.rules.all fun r => decide (r.when.length ≤ 1000) && decide (r.guard.length ≤ 1000) && decide (r.thn.length ≤ 1000)
theorem short_of {p : Pg} (h : shortB p = true) : PgShort p := by
  unfold shortB at h
  simp only [Bool.and_eq_true, decide_eq_true_eq, List.all_eq_true] at h
  obtain ⟨⟨⟨h1, h2⟩, h3⟩, h4⟩ := h
  exact ⟨by omega, by omega, by omega, fun r hr => by
    have := h4 r hr
    exact ⟨by omega, by omega, by omega⟩⟩
/-- All that awake looks at. -/
def awB : Bool := !(progOf awT).2.mid && !(progOf awU).2.mid && decide (parseE (.ok awT) = 0) && decide (parseE (.ok awU) = 10) && decide ((progOf awT).1.init.length = 1) && decide ((progOf awT).1.pol.op = 7) && decide ((progOf awT).1.rules.length = 1) && decide (sizeP (progOf awT).1.pol = 6) && decide (depthP (progOf awT).1.pol = 3) && shortB (progOf awT).1 && shortB (progOf awU).1
theorem aw_all : awB = true := by kernel_rfl
theorem Pl.kv_op {P : Nat → Prop} {w : World} {T : Pl} {x : Nd} (h : PolAt P w T x) : x.op = T.op := h.shape.1

set_option maxRecDepth 100000 in
set_option maxHeartbeats 4000000 in
theorem awake_any (w : World) (h : Env w) : Calls Tryz.prog 6 #[] w fun e w' => e = .returned (.bool true) ∧ Below w.heap.size w w' := by
  have hall := aw_all
  unfold awB at hall
  simp only [Bool.and_eq_true, decide_eq_true_eq, Bool.not_eq_true'] at hall
  obtain ⟨⟨⟨⟨⟨⟨⟨⟨⟨⟨m1, m2⟩, p1⟩, p2⟩, n1⟩, n2⟩, n3⟩, n4⟩, n5⟩, s1⟩, s2⟩ := hall
  have c1 : ∀ w, Env w → Calls Tryz.prog 17 #[.string ⟨([105, 110, 105, 116, 32, 48, 32, 46, 32, 108, 101, 116, 32, 119, 101, 98, 32, 61, 32, 56, 48, 32, 46, 32, 112, 111, 108, 105, 99, 121, 32, 64, 48, 61, 48, 32, 59, 32, 115, 118, 99, 61, 119, 101].append [98, 32, 59, 32, 112, 116, 58, 61, 49, 32, 43, 32, 100, 114, 111, 112, 32, 46, 32, 111, 110, 32, 115, 119, 61, 49, 32, 38, 32, 112, 116, 61, 50, 32, 61, 62, 32, 64, 48, 58, 61, 49, 32, 46]).toArray⟩] w fun e w' => (∃ si sci xo xf xn sk kn skc sr scr, e = .returned (.tuple #[pgv (.slice si 1 sci) ⟨xo, xf, xn, .slice sk kn skc⟩ (.slice sr 1 scr), .int .i64 0]) ∧ xo = 7 ∧ PolAt (fun b => w.heap.size < b) w' (progOf awT).1.pol ⟨xo, xf, xn, .slice sk kn skc⟩) ∧ Below w.heap.size w w' := by
    intro w h
    have := parse_ok (asc aw1) (good_asc aw1 (by decide +kernel)) (by rw [fl_asc]; decide +kernel) awT aw_lex1 m1 (short_of s1) w h
    rw [fl_asc, p1] at this
    refine Calls.mono this ?_
    rintro e w1 ⟨⟨iv, x, rv, rfl, -, hP⟩, hb⟩
    have hg := hP rfl
    obtain ⟨si, sci, rfl⟩ := hg.ini
    obtain ⟨sr, scr, rfl, -⟩ := hg.rul
    obtain ⟨ho, -, -, sk, skc, hkv⟩ := hg.pol.shape
    have hpol := hg.pol
    obtain ⟨xo, xf, xn, xk⟩ := x
    dsimp only at hkv ho
    subst hkv
    rw [n2] at ho
    rw [n1, n3]
    exact ⟨⟨si, sci, xo, xf, xn, sk, _, skc, sr, scr, rfl, ho, hpol⟩, hb⟩
  have c2 : ∀ w, Env w → Calls Tryz.prog 17 #[.string ⟨#[105, 110, 105, 116]⟩] w fun e w' => (∃ si ni sci xo xf xn sk kn skc sr rn scr, e = .returned (.tuple #[pgv (.slice si ni sci) ⟨xo, xf, xn, .slice sk kn skc⟩ (.slice sr rn scr), .int .i64 10])) ∧ Below w.heap.size w w' := by
    intro w h
    have := parse_ok (asc aw2) (good_asc aw2 (by decide +kernel)) (by rw [fl_asc]; decide +kernel) awU aw_lex2 m2 (short_of s2) w h
    rw [fl_asc, p2] at this
    refine Calls.mono this ?_
    rintro e w1 ⟨⟨iv, ⟨xo, xf, xn, xk⟩, rv, he, ⟨⟨si, ni, sci, e1⟩, ⟨sk, kn, skc, e2⟩, ⟨sr, rn, scr, e3⟩⟩, -⟩, hb⟩
    dsimp only at e2
    subst e1 e2 e3
    exact ⟨⟨si, ni, sci, xo, xf, xn, sk, kn, skc, sr, rn, scr, he⟩, hb⟩
  have c3 := fun P W x hx => size_any (P := P) 100000 (progOf awT).1.pol x W (by omega) (by omega) hx
  have c4 := fun P W x hx => depth_any (P := P) 100000 (progOf awT).1.pol x W (by omega) (by omega) hx
  rw [n4] at c3
  rw [n5] at c4
  generalize (progOf awT).1.pol = T at *
  have HE : Hid (Env w) := h
  clear h m1 m2 p1 p2 n1 n2 n3 n4 n5 s1 s2
  go_enter Tryz.func6, Tryz.ntmps6
  go_wp2_with fail
  refine (c1 _ HE.out).mono ?_
  rintro e w1 ⟨⟨si, sci, xo, xf, xn, sk, kn, skc, sr, scr, rfl, rfl, hp⟩, hb1⟩
  obtain ⟨ob, hob⟩ : ∃ ob, gobj (.slice si 1 sci) ⟨7, xf, xn, .slice sk kn skc⟩ (.slice sr 1 scr) = ob := ⟨_, rfl⟩
  have HB1 : Hid (Below w.heap.size w (w1.alloc ob)) := hb1.alloc hb1.size _
  have hrow1 := heap_alloc_new w1 ob
  have HP1 : Hid _ := hp.below ((Below.refl _ w1).alloc (Nat.le_refl _) ob)
  rw [← hob] at HB1 hrow1 HP1
  clear hb1 hp hob c1
  go_wp2_with fail
  refine (c2 _ (HE.out.below HB1.out)).mono ?_
  rintro e w2 ⟨⟨si2, ni2, sci2, xo2, xf2, xn2, sk2, kn2, skc2, sr2, rn2, scr2, rfl⟩, hb2⟩
  obtain ⟨ob, hob⟩ : ∃ ob, gobj (.slice si2 ni2 sci2) ⟨xo2, xf2, xn2, .slice sk2 kn2 skc2⟩ (.slice sr2 rn2 scr2) = ob := ⟨_, rfl⟩
  have HB2 : Hid (Below w.heap.size w (w2.alloc ob)) := (HB1.out.trans (hb2.mono HB1.out.size)).alloc (HB1.out.trans (hb2.mono HB1.out.size)).size _
  have hb2' : Below (w1.alloc (gobj (.slice si 1 sci) ⟨7, xf, xn, .slice sk kn skc⟩ (.slice sr 1 scr))).heap.size (w1.alloc (gobj (.slice si 1 sci) ⟨7, xf, xn, .slice sk kn skc⟩ (.slice sr 1 scr))) (w2.alloc ob) := hb2.alloc hb2.size _
  have hrow2 := (hb2'.block _ (heap_lt hrow1)).trans hrow1
  have HP2 : Hid _ := HP1.out.below hb2'
  rw [← hob] at HB2 hrow2 HP2
  have cS := c3 _ _ _ HP2.out
  clear hb2 hb2' hob c2 HP1 HB1 hrow1
  have HRow2 : Hid _ := hrow2
  obtain ⟨q0, q1, q2, q3, q4, q5⟩ := row6 hrow2
  clear hrow2
  go_wp2_with fail
  refine cS.mono ?_
  rintro e w3 ⟨rfl, hb3⟩
  have HB3 : Hid (Below w.heap.size w w3) := HB2.out.trans (hb3.mono HB2.out.size)
  have cD := c4 _ _ _ (HP2.out.below hb3)
  clear q0 q1 q2 q3 q4 q5
  obtain ⟨q0, q1, q2, q3, q4, q5⟩ := row6 ((hb3.block _ (heap_lt HRow2.out)).trans HRow2.out)
  clear hb3 cS HP2 HB2 HRow2
  go_wp2_with fail
  refine cD.mono ?_
  rintro e w4 ⟨rfl, hb4⟩
  have HB4 : Hid (Below w.heap.size w w4) := HB3.out.trans (hb4.mono HB3.out.size)
  clear hb4 cD
  go_wp2
  go_ret
  exact ⟨rfl, HB4.out⟩
end Go.Proofs.YtipjmabeenhcgaaGreatDoor
