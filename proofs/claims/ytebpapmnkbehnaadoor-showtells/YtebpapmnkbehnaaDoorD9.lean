/- What show's Rule answers: a rule's line, and the empty text of one that isn't well formed with four parts; numbers of 16 bits. -/
import Derived.Test.YtebpapmnkbehnaaDoorD8
set_option linter.unusedVariables false
set_option linter.unusedSimpArgs false
namespace Go.Proofs.YtebpapmnkbehnaaDoor
open Go.RowKit Go.Joins Go.Lib Go.Sort

/-- A rule's line; the empty text of one that isn't well formed, with four parts. -/
def rulT (r : Rl) : List UInt8 := if ruleB 4 r then ruleT r else []
theorem chk_rule (T : Pl) (hT : T = .mk 0 0 0 [] ∨ T = .mk 1 0 0 []) (r : Rl) : (checkM ⟨[0, 0, 0, 0], T, [r]⟩ = 0) ↔ ruleB 4 r = true := by
  have h1 : longB ⟨[0, 0, 0, 0], T, [r]⟩ = false := by
    have e : longB ⟨[0, 0, 0, 0], T, [r]⟩ = (decide (300 < sizeP T) || decide (20 < depthP T)) := by simp [longB]
    rw [e]
    rcases hT with rfl | rfl <;> decide +kernel
  have h2 : formP 4 T = true := by rcases hT with rfl | rfl <;> decide +kernel
  unfold checkM
  rw [h1, if_neg (by simp)]
  show (if (formP (4 : Nat) T && [r].all (ruleB (4 : Nat))) = true then 0 else 11) = 0 ↔ _
  rw [show formP ((4 : Nat) : Int) T = true from h2]
  simp
theorem rules_one {W : World} {g : Nat} {v1 v2 v3 : Value} {r : Rl} (hrow : W.heap[g]? = some (robj3 v1 v2 v3)) (hr : RulPv (fun _ => True) W v1 v2 v3 r) : RulesAt (fun _ => True) W (.slice (some ⟨g, 0, none⟩) 1 1) [r] := by
  obtain ⟨⟨q0, q1, q2⟩, -⟩ := row3 hrow
  refine ⟨_, 1, rfl, fun k hk => ?_⟩
  obtain rfl : k = 0 := by simp at hk; exact hk
  exact ⟨g, 0, v1, v2, v3, rfl, trivial, heap_lt hrow, ⟨q0, q1, q2⟩, hr⟩
theorem rul_below {P : Nat → Prop} {W W' : World} {v1 v2 v3 : Value} {r : Rl} (h : RulPv P W v1 v2 v3 r) (hb : Below W.heap.size W W') : RulPv (fun _ => True) W' v1 v2 v3 r := h.keep hb.size fun b _ h2 => ⟨trivial, hb.block b h2⟩

set_option maxRecDepth 100000 in
set_option maxHeartbeats 4000000 in
theorem rule_show {P : Nat → Prop} (r : Rl) (v1 v2 v3 : Value) (hs : RlShort r) (hn : (∀ c ∈ r.when, c.2 ≤ 65535) ∧ (∀ c ∈ r.guard, c.2 ≤ 65535) ∧ (∀ c ∈ r.thn, c.2 ≤ 65535)) (w : World) (h : RulPv P w v1 v2 v3 r) (hE : Es w) :
    Calls Tryd.prog 11 #[.agg #[v1, v2, v3]] w fun e w' => e = .returned (.string ⟨(rulT r).toArray⟩) ∧ Below w.heap.size w w' := by
  have hb0 : Below w.heap.size w (w.alloc (robj3 v1 v2 v3)) := (Below.refl _ w).alloc (Nat.le_refl _) _
  have HBd : Hid (Below w.heap.size w (w.alloc (robj3 v1 v2 v3)).drew) := below_drewN hb0 1
  have HWd : Hid ((w.alloc (robj3 v1 v2 v3)).drew.heap[w.heap.size]? = some (robj3 v1 v2 v3)) := heap_alloc_new w _
  have hsz : (w.alloc (robj3 v1 v2 v3)).drew.heap.size = w.heap.size + 1 := by simp [World.drew]
  have HR : Hid (∀ W, Below w.heap.size w W → RulPv (fun _ => True) W v1 v2 v3 r) := fun W hW => rul_below h hW
  have HSh : Hid (PgShort ⟨[0, 0, 0, 0], .mk 1 0 0 [], [r]⟩) := ⟨by simp, by show sizeP (.mk 1 0 0 []) ≤ _; decide +kernel, by simp, fun q hq => by simp at hq; rw [hq]; exact hs⟩
  have HF : Hid (∀ W (B g : Nat), W.heap[g]? = some (robj3 v1 v2 v3) → Below w.heap.size w W → Calls Tryd.prog 13 #[pgv (.slice (some ⟨B, 0, none⟩) 4 4) ⟨1, 0, 0, .slice none 0 0⟩ (.slice (some ⟨g, 0, none⟩) 1 1)] W fun e w' => e = .returned (.bool (ruleB 4 r)) ∧ Below W.heap.size W w') := fun W B g hg hW => by
    have := isFormed_any (P := fun _ => True) ⟨[0, 0, 0, 0], .mk 1 0 0 [], [r]⟩ (.slice (some ⟨B, 0, none⟩) 4 4) ⟨1, 0, 0, .slice none 0 0⟩ (.slice (some ⟨g, 0, none⟩) 1 1) HSh.out W ⟨⟨_, _, rfl⟩, PolAt.leaf _ _ _ _ _, rules_one hg (HR.out W hW)⟩
    rw [show decide (checkM ⟨[0, 0, 0, 0], .mk 1 0 0 [], [r]⟩ = 0) = ruleB 4 r by
      cases hb : ruleB 4 r with
      | true => simpa using (chk_rule _ (.inr rfl) r).2 hb
      | false => simpa using fun e => by rw [(chk_rule _ (.inr rfl) r).1 e] at hb; cases hb] at this
    exact this
  have HT : Hid (ruleB 4 r = true → ∀ W, Below w.heap.size w W → Calls Tryd.prog 20 #[.agg #[v1, v2, v3]] W fun e w' => e = .returned (.string ⟨(ruleT r).toArray⟩) ∧ Below W.heap.size W w') := fun hb W hW =>
    rule_text 4 (by decide) r ⟨hb, hn.1, hn.2.1, hn.2.2⟩ v1 v2 v3 W (HR.out W hW).at (hE.below hW)
  have CA : Hid (∀ W : World, Calls Tryd.prog 14 #[] W fun e w' => (∃ B : Nat, e = .returned (.slice (some ⟨B, 0, none⟩) 4 4)) ∧ Below W.heap.size W w') := fun W => (allParts_any W).mono fun e w' h => ⟨⟨_, h.1.1⟩, h.2⟩
  obtain ⟨sa1, sc1, rfl⟩ := h.at.p1.shape
  obtain ⟨sa2, sc2, rfl⟩ := h.at.p2.shape
  obtain ⟨sa3, sc3, rfl⟩ := h.at.p3.shape
  generalize r.when.length = m1 at *
  generalize r.guard.length = m2 at *
  generalize r.thn.length = m3 at *
  unfold rulT
  clear hs hn h hE hb0 HSh HR
  generalize ruleB 4 r = bv at *
  obtain ⟨⟨q0, q1, q2⟩, -⟩ := row3 HWd.out
  have HN : Hid (((w.alloc (robj3 (.slice sa1 m1 sc1) (.slice sa2 m2 sc2) (.slice sa3 m3 sc3))).alloc (robj3 (.slice sa1 m1 sc1) (.slice sa2 m2 sc2) (.slice sa3 m3 sc3))).drew.heap[w.heap.size + 1]? = some (robj3 (.slice sa1 m1 sc1) (.slice sa2 m2 sc2) (.slice sa3 m3 sc3))) := heap_new2 w _ _
  have HBn : Hid (Below w.heap.size w ((w.alloc (robj3 (.slice sa1 m1 sc1) (.slice sa2 m2 sc2) (.slice sa3 m3 sc3))).alloc (robj3 (.slice sa1 m1 sc1) (.slice sa2 m2 sc2) (.slice sa3 m3 sc3))).drew) := below_drewN (((Below.refl _ w).alloc (Nat.le_refl _) _).alloc (by simp) _) 1
  have HWn : Hid (((w.alloc (robj3 (.slice sa1 m1 sc1) (.slice sa2 m2 sc2) (.slice sa3 m3 sc3))).alloc (robj3 (.slice sa1 m1 sc1) (.slice sa2 m2 sc2) (.slice sa3 m3 sc3))).drew.heap[w.heap.size]? = some (robj3 (.slice sa1 m1 sc1) (.slice sa2 m2 sc2) (.slice sa3 m3 sc3))) := (Below.heap_alloc _ _ _ (by simp)).trans (heap_alloc_new w _)
  have A1 : Hid (∀ w1, Below (w.alloc (robj3 (.slice sa1 m1 sc1) (.slice sa2 m2 sc2) (.slice sa3 m3 sc3))).drew.heap.size (w.alloc (robj3 (.slice sa1 m1 sc1) (.slice sa2 m2 sc2) (.slice sa3 m3 sc3))).drew w1 → Below w.heap.size w w1 ∧ w1.heap[w.heap.size]? = some (robj3 (.slice sa1 m1 sc1) (.slice sa2 m2 sc2) (.slice sa3 m3 sc3))) := fun w1 h => ⟨HBd.out.trans (h.mono HBd.out.size), (h.block _ (heap_lt HWd.out)).trans HWd.out⟩
  have A2 : Hid (∀ w1, Below ((w.alloc (robj3 (.slice sa1 m1 sc1) (.slice sa2 m2 sc2) (.slice sa3 m3 sc3))).alloc (robj3 (.slice sa1 m1 sc1) (.slice sa2 m2 sc2) (.slice sa3 m3 sc3))).drew.heap.size ((w.alloc (robj3 (.slice sa1 m1 sc1) (.slice sa2 m2 sc2) (.slice sa3 m3 sc3))).alloc (robj3 (.slice sa1 m1 sc1) (.slice sa2 m2 sc2) (.slice sa3 m3 sc3))).drew w1 → (Below w.heap.size w w1 ∧ w1.heap[w.heap.size]? = some (robj3 (.slice sa1 m1 sc1) (.slice sa2 m2 sc2) (.slice sa3 m3 sc3))) ∧ w1.heap[w.heap.size + 1]? = some (robj3 (.slice sa1 m1 sc1) (.slice sa2 m2 sc2) (.slice sa3 m3 sc3))) := fun w1 h => ⟨⟨HBn.out.trans (h.mono HBn.out.size), (h.block _ (heap_lt HWn.out)).trans HWn.out⟩, (h.block _ (heap_lt HN.out)).trans HN.out⟩
  have C1 : Hid (Calls Tryd.prog 14 #[] (w.alloc (robj3 (.slice sa1 m1 sc1) (.slice sa2 m2 sc2) (.slice sa3 m3 sc3))).drew fun e w' => (∃ B : Nat, e = .returned (.slice (some ⟨B, 0, none⟩) 4 4)) ∧ Below w.heap.size w w' ∧ w'.heap[w.heap.size]? = some (robj3 (.slice sa1 m1 sc1) (.slice sa2 m2 sc2) (.slice sa3 m3 sc3))) := (CA.out _).mono fun e w' h => ⟨h.1, A1.out _ h.2⟩
  have C2 : Hid (Calls Tryd.prog 14 #[] ((w.alloc (robj3 (.slice sa1 m1 sc1) (.slice sa2 m2 sc2) (.slice sa3 m3 sc3))).alloc (robj3 (.slice sa1 m1 sc1) (.slice sa2 m2 sc2) (.slice sa3 m3 sc3))).drew fun e w' => (∃ B : Nat, e = .returned (.slice (some ⟨B, 0, none⟩) 4 4)) ∧ (Below w.heap.size w w' ∧ w'.heap[w.heap.size]? = some (robj3 (.slice sa1 m1 sc1) (.slice sa2 m2 sc2) (.slice sa3 m3 sc3))) ∧ w'.heap[w.heap.size + 1]? = some (robj3 (.slice sa1 m1 sc1) (.slice sa2 m2 sc2) (.slice sa3 m3 sc3))) := (CA.out _).mono fun e w' h => ⟨h.1, A2.out _ h.2⟩
  clear A1 A2 HBn HWn HN CA
  cases bv with
  | true =>
    rw [if_pos rfl]
    have HT2 : Hid _ := HT.out rfl
    clear HT
    go_enter Tryd.func11, Tryd.ntmps11
    go_wp2_with fail
    go_region_with (first
    | (go_at_call 14; (with_reducible refine Calls.mono C1.out ?_); rintro e w1 ⟨⟨B, rfl⟩, hb1, hr1⟩; have HB1 : Hid (Below w.heap.size w w1) := hb1; have HR1 : Hid (w1.heap[w.heap.size]? = some (robj3 (.slice sa1 m1 sc1) (.slice sa2 m2 sc2) (.slice sa3 m3 sc3))) := hr1; obtain ⟨⟨p0, p1, p2⟩, -⟩ := row3 hr1; have hlt1 := heap_lt hr1; clear hb1 hr1)
    | (go_at_call 14; (with_reducible refine Calls.mono C2.out ?_); rintro e w1 ⟨⟨B, rfl⟩, ⟨hb1, hr1⟩, hs1⟩; have HB1 : Hid (Below w.heap.size w w1) := hb1; have HR1 : Hid (w1.heap[w.heap.size]? = some (robj3 (.slice sa1 m1 sc1) (.slice sa2 m2 sc2) (.slice sa3 m3 sc3))) := hr1; have HS1 : Hid (w1.heap[w.heap.size + 1]? = some (robj3 (.slice sa1 m1 sc1) (.slice sa2 m2 sc2) (.slice sa3 m3 sc3))) := hs1; clear hb1 hr1 hs1)
    | (go_at_call 13; (with_reducible refine Calls.mono (HF.out (w1.alloc (robj3 (.slice sa1 m1 sc1) (.slice sa2 m2 sc2) (.slice sa3 m3 sc3))) B w1.heap.size (heap_alloc_new w1 _) (HB1.out.alloc HB1.out.size _)) ?_); rintro e w2 ⟨rfl, hb2⟩; have HB2 : Hid (Below w.heap.size w w2) := (HB1.out.alloc HB1.out.size _).trans (hb2.mono (HB1.out.alloc HB1.out.size _).size); have HR2 : Hid (w2.heap[w.heap.size]? = some (robj3 (.slice sa1 m1 sc1) (.slice sa2 m2 sc2) (.slice sa3 m3 sc3))) := (hb2.block _ (by have := heap_lt HR1.out; simp; omega)).trans ((Below.heap_alloc _ _ _ (heap_lt HR1.out)).trans HR1.out); clear hb2)
    | (go_at_call 13; (with_reducible refine Calls.mono (HF.out w1 B (w.heap.size + 1) HS1.out HB1.out) ?_); rintro e w2 ⟨rfl, hb2⟩; have HB2 : Hid (Below w.heap.size w w2) := HB1.out.trans (hb2.mono HB1.out.size); have HR2 : Hid (w2.heap[w.heap.size]? = some (robj3 (.slice sa1 m1 sc1) (.slice sa2 m2 sc2) (.slice sa3 m3 sc3))) := (hb2.block _ (heap_lt HR1.out)).trans HR1.out; clear hb2))
    all_goals
      obtain ⟨⟨r0, r1, r2⟩, -⟩ := row3 HR2.out
      go_wp2_with fail
      refine (HT2.out _ HB2.out).mono ?_
      rintro e w3 ⟨rfl, hb3⟩
      have HB3 : Hid (Below w.heap.size w w3) := HB2.out.trans (hb3.mono HB2.out.size)
      clear hb3 r0 r1 r2
      go_wp2
      go_ret
      exact ⟨rfl, HB3.out⟩
  | false =>
    rw [if_neg (by simp)]
    clear HT
    go_enter Tryd.func11, Tryd.ntmps11
    go_wp2_with fail
    go_region_with (first
    | (go_at_call 14; (with_reducible refine Calls.mono C1.out ?_); rintro e w1 ⟨⟨B, rfl⟩, hb1, hr1⟩; have HB1 : Hid (Below w.heap.size w w1) := hb1; have HR1 : Hid (w1.heap[w.heap.size]? = some (robj3 (.slice sa1 m1 sc1) (.slice sa2 m2 sc2) (.slice sa3 m3 sc3))) := hr1; obtain ⟨⟨p0, p1, p2⟩, -⟩ := row3 hr1; have hlt1 := heap_lt hr1; clear hb1 hr1)
    | (go_at_call 14; (with_reducible refine Calls.mono C2.out ?_); rintro e w1 ⟨⟨B, rfl⟩, ⟨hb1, hr1⟩, hs1⟩; have HB1 : Hid (Below w.heap.size w w1) := hb1; have HR1 : Hid (w1.heap[w.heap.size]? = some (robj3 (.slice sa1 m1 sc1) (.slice sa2 m2 sc2) (.slice sa3 m3 sc3))) := hr1; have HS1 : Hid (w1.heap[w.heap.size + 1]? = some (robj3 (.slice sa1 m1 sc1) (.slice sa2 m2 sc2) (.slice sa3 m3 sc3))) := hs1; clear hb1 hr1 hs1)
    | (go_at_call 13; (with_reducible refine Calls.mono (HF.out (w1.alloc (robj3 (.slice sa1 m1 sc1) (.slice sa2 m2 sc2) (.slice sa3 m3 sc3))) B w1.heap.size (heap_alloc_new w1 _) (HB1.out.alloc HB1.out.size _)) ?_); rintro e w2 ⟨rfl, hb2⟩; have HB2 : Hid (Below w.heap.size w w2) := (HB1.out.alloc HB1.out.size _).trans (hb2.mono (HB1.out.alloc HB1.out.size _).size); have HR2 : Hid (w2.heap[w.heap.size]? = some (robj3 (.slice sa1 m1 sc1) (.slice sa2 m2 sc2) (.slice sa3 m3 sc3))) := (hb2.block _ (by have := heap_lt HR1.out; simp; omega)).trans ((Below.heap_alloc _ _ _ (heap_lt HR1.out)).trans HR1.out); clear hb2)
    | (go_at_call 13; (with_reducible refine Calls.mono (HF.out w1 B (w.heap.size + 1) HS1.out HB1.out) ?_); rintro e w2 ⟨rfl, hb2⟩; have HB2 : Hid (Below w.heap.size w w2) := HB1.out.trans (hb2.mono HB1.out.size); have HR2 : Hid (w2.heap[w.heap.size]? = some (robj3 (.slice sa1 m1 sc1) (.slice sa2 m2 sc2) (.slice sa3 m3 sc3))) := (hb2.block _ (heap_lt HR1.out)).trans HR1.out; clear hb2))
    all_goals
      go_wp2
      go_ret
      exact ⟨rfl, HB2.out⟩
end Go.Proofs.YtebpapmnkbehnaaDoor
