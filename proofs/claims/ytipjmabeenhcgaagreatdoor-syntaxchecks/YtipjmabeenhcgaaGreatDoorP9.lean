/- What the reader's unary answers, where sum answers as the model's; no conditions but that the reader stands. -/
import Derived.Test.YtipjmabeenhcgaaGreatDoorP8
set_option linter.unusedVariables false
set_option linter.unusedSimpArgs false
namespace Go.Proofs.YtipjmabeenhcgaaGreatDoor
open Go.RowKit Go.Joins

/-- One policy in a new row. -/
theorem own_one (w : World) (x : Nd) (lo : Nat) (hlo : lo ≤ w.heap.size) : (w.alloc (pobj x)).ownsRow lo 29 4 (.slice (some ⟨w.heap.size, 0, none⟩) 1 1) 1 (flat4 [x]) := by
  rw [flat4_one]
  refine ⟨rfl, .inr ⟨w.heap.size, 1, #[.int .i64 x.op, .int .i64 x.f, .int .u16 x.n, x.kv], rfl, hlo, heap_alloc_new w _, Nat.le_refl _, by unfold maxLen; omega, rfl, rfl⟩⟩
theorem pol_not {w : World} {T : Pl} {x : Nd} (lo : Nat) (hlo : lo ≤ w.heap.size) (hp : PolAt (fun b => lo ≤ b) w T x) : PolAt (fun b => lo ≤ b) (w.alloc (pobj x)) (.mk 4 0 0 [T]) ⟨4, 0, 0, .slice (some ⟨w.heap.size, 0, none⟩) 1 1⟩ :=
  pol_of_own (xs := [x]) (P := fun b => lo ≤ b) 4 0 0 (own_one w x lo hlo) (PolsAt.one (hp.below ((Below.refl _ w).alloc (Nat.le_refl _) _))) (fun b h _ => h) (fun b h => h)

theorem not_end {w w2 : World} {T : Pl} {x : Nd} (lo : Nat) (hw : w.heap.size < lo) (hlo : lo ≤ w2.heap.size) (hp : PolAt (fun b => lo ≤ b) w2 T x) (y0 y1 y2 y3 : Value) :
    PolAt (fun b => lo ≤ b) (((((w2.setCell ⟨w.heap.size, 0, none⟩ y0).setCell ⟨w.heap.size, 1, none⟩ y1).setCell ⟨w.heap.size, 2, none⟩ y2).setCell ⟨w.heap.size, 3, none⟩ y3).alloc (pobj x)) (.mk 4 0 0 [T]) ⟨4, 0, 0, .slice (some ⟨w2.heap.size, 0, none⟩) 1 1⟩ := by
  have h := pol_set4 (w := w) hp (by show ¬ lo ≤ w.heap.size; omega) y0 y1 y2 y3
  have e : ((((w2.setCell ⟨w.heap.size, 0, none⟩ y0).setCell ⟨w.heap.size, 1, none⟩ y1).setCell ⟨w.heap.size, 2, none⟩ y2).setCell ⟨w.heap.size, 3, none⟩ y3).heap.size = w2.heap.size := by simp [World.setCell]
  have := pol_not lo (by rw [e]; exact hlo) h
  rw [e] at this
  exact this
theorem unaryM_not {L : List Tk} {S : St → Pl × St} {k : Nat} {σ : St} (h : isNext L [33] σ = true) : unaryM L S (k + 1) σ = (.mk 4 0 0 [(unaryM L S k σ.next).1], (unaryM L S k σ.next).2) := by
  rw [unaryM.eq_2, if_pos h]

set_option maxRecDepth 100000 in
set_option maxHeartbeats 4000000 in
theorem unary_any {L : List Tk} {S : St → Pl × St} (hL : EndL L) (hSh : Short L) (p0 : Nat) (hS : ∀ σ, Ok L σ → p0 < σ.pos → PolC 39 L S σ) : ∀ (k : Nat) (σ : St), Ok L σ → p0 ≤ σ.pos → L.length ≤ σ.pos + k → PolC 68 L (unaryM L S k) σ
  | 0, σ, ho, _, hk => absurd (show σ.pos < L.length from ho) (by omega)
  | k + 1, σ, ho, h0, hk => by
    have HL : Hid (EndL L) := hL
    cases h1 : isNext L [33] σ with
    | true =>
      have HO := next_of_is hL ho (by decide) h1
      obtain ⟨hup, cS⟩ := unary_any hL hSh p0 hS k σ.next HO (by show p0 ≤ σ.pos + 1; omega) (by show L.length ≤ σ.pos + 1 + k; omega)
      unfold PolC
      have e0 := unaryM_not (S := S) (k := k) h1
      obtain ⟨T, σ1, e1⟩ : ∃ T σ1, unaryM L S k σ.next = (T, σ1) := ⟨_, _, rfl⟩
      rw [e1] at e0 hup
      simp only [e1] at cS
      rw [e0]
      refine ⟨(up_next HO).trans hup, fun M tvl w h => ?_⟩
      have hlt := h.lt
      have HA0 : Hid (Aft M tvl L w σ (w.alloc nobj)) := h.aft ((Below.refl _ w).alloc (Nat.le_refl _) _)
      have hrow := heap_alloc_new w nobj
      have cT := takes_yes hL [33] (by decide) h1 _ HA0.out.rd
      clear hS h hL hSh h1 HO e0 e1 hup ho h0 hk
      go_enter Tryz.func68, Tryz.ntmps68
      go_wp2_with fail
      refine cT.mono ?_
      rintro e w1 ⟨rfl, ha⟩
      have HA1 : Hid (Aft M tvl L w σ.next w1) := HA0.out.trans ha
      have hrow1 := ha.row (by omega) hrow
      replace cS := cS M tvl w1 ha.rd
      clear ha hrow cT HA0
      go_wp2_with fail
      refine cS.mono ?_
      rintro e w2 ⟨x, rfl, hp, ha⟩
      obtain ⟨-, -, -, sa, sc, hkv⟩ := hp.shape
      obtain ⟨xo, xf, xn, xk⟩ := x
      dsimp only at hkv
      subst hkv
      generalize T.kids.length = kn at *
      have hl3 := heap_lt hrow1
      have hl4 := ha.kp.size
      have HA2 : Hid (Aft M tvl L w σ1 w2) := HA1.out.trans ha
      have HP2 : Hid (PolAt (fun b => w1.heap.size ≤ b) w2 T ⟨xo, xf, xn, .slice sa kn sc⟩) := hp
      have hrow2 := ha.row (by omega) hrow1
      clear ha hp hrow1 cS HA1
      obtain ⟨q0, q1, q2, q3⟩ := row4 hrow2
      have hl5 := heap_lt hrow2
      obtain ⟨f0, f1, f2, f3⟩ := frz4 hrow2
      go_wp2
      refine bodyPost_ret (v := nv ⟨4, 0, 0, .slice (some ⟨w2.heap.size, 0, none⟩) 1 1⟩) ?_ rfl ⟨_, rfl, (not_end w1.heap.size hl3 hl4 HP2.out _ _ _ _).mono (fun b hb _ => by have hb : w1.heap.size ≤ b := hb; show w.heap.size ≤ b; omega), (aft_set4 HA2.out hlt _ _ _ _).below ((Below.refl _ _).alloc (Nat.le_refl _) _)⟩
      obtain ⟨g0, g1, g2, g3⟩ := row4 (set4 (.int .i64 4) (.int .i64 0) (.int .u16 0) (.slice (some ⟨w2.heap.size, 0, none⟩) 1 1) hrow2)
      simp [results, Tryz.results68, go_sem, g0, g1, g2, g3, hl5]
    | false =>
      obtain ⟨hup, cS⟩ := atom_any hL hSh ho (S := S) (fun h => hS σ.next (next_of_is hL ho (by decide) h) (by show p0 < σ.pos + 1; omega))
      unfold PolC
      have e0 : unaryM L S (k + 1) σ = atomM L S σ := by rw [unaryM.eq_2, if_neg (by rw [h1]; decide)]
      rw [e0]
      obtain ⟨T, σ1, e1⟩ : ∃ T σ1, atomM L S σ = (T, σ1) := ⟨_, _, rfl⟩
      rw [e1] at hup ⊢
      simp only [e1] at cS
      refine ⟨hup, fun M tvl w h => ?_⟩
      have hlt := h.lt
      have HA0 : Hid (Aft M tvl L w σ (w.alloc nobj)) := h.aft ((Below.refl _ w).alloc (Nat.le_refl _) _)
      have hrow := heap_alloc_new w nobj
      have cT := takes_no hL [33] (by decide) h1 _ HA0.out.rd
      clear hS h hL hSh h1 e0 e1 hup ho h0 hk
      go_enter Tryz.func68, Tryz.ntmps68
      go_wp2_with fail
      refine cT.mono ?_
      rintro e w1 ⟨rfl, ha⟩
      have HA1 : Hid (Aft M tvl L w σ w1) := HA0.out.trans ha
      have hrow1 := ha.row (by omega) hrow
      replace cS := cS M tvl w1 ha.rd
      clear ha hrow cT HA0
      go_wp2_with fail
      refine cS.mono ?_
      rintro e w2 ⟨x, rfl, hp, ha⟩
      obtain ⟨-, -, -, sa, sc, hkv⟩ := hp.shape
      obtain ⟨xo, xf, xn, xk⟩ := x
      dsimp only at hkv
      subst hkv
      generalize T.kids.length = kn at *
      have hl3 := heap_lt hrow1
      have HA2 : Hid (Aft M tvl L w σ1 w2) := HA1.out.trans ha
      have HP2 : Hid (PolAt (fun b => w1.heap.size ≤ b) w2 T ⟨xo, xf, xn, .slice sa kn sc⟩) := hp
      have hrow2 := ha.row (by omega) hrow1
      clear ha hp hrow1 cS HA1
      obtain ⟨q0, q1, q2, q3⟩ := row4 hrow2
      have hl5 := heap_lt hrow2
      obtain ⟨f0, f1, f2, f3⟩ := frz4 hrow2
      go_wp2
      refine bodyPost_ret (v := nv ⟨xo, xf, xn, .slice sa kn sc⟩) ?_ rfl ⟨_, rfl, (pol_set4 HP2.out (by show ¬ w1.heap.size ≤ w.heap.size; omega) _ _ _ _).mono (fun b hb _ => by have hb : w1.heap.size ≤ b := hb; show w.heap.size ≤ b; omega), aft_set4 HA2.out hlt _ _ _ _⟩
      obtain ⟨g0, g1, g2, g3⟩ := row4 (set4 (.int .i64 xo) (.int .i64 xf) (.int .u16 xn) (.slice sa kn sc) hrow2)
      simp [results, Tryz.results68, go_sem, g0, g1, g2, g3]
end Go.Proofs.YtipjmabeenhcgaaGreatDoor
