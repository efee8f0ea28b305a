/- What the reader's sum answers: the model's; no conditions but that the reader stands. -/
import Derived.Test.YtipjmabeenhcgaaGreatDoorP10
set_option linter.unusedVariables false
set_option linter.unusedSimpArgs false
namespace Go.Proofs.YtipjmabeenhcgaaGreatDoor
open Go.RowKit Go.Joins

set_option maxRecDepth 100000 in
set_option maxHeartbeats 4000000 in
theorem sum_step {L : List Tk} {σ : St} {U : St → Pl × St} (hL : EndL L) (ho : Ok L σ) (hU : ∀ σ', Ok L σ' → σ.pos ≤ σ'.pos → PolC 55 L U σ') : PolC 39 L (listM L [43] 7 U) σ := by
  have HL : Hid (EndL L) := hL
  have HU : Hid (∀ σ', Ok L σ' → σ.pos ≤ σ'.pos → PolC 55 L U σ') := hU
  obtain ⟨hup, cS⟩ := hU σ ho (Nat.le_refl _)
  unfold PolC listM
  obtain ⟨T, σ1, e1⟩ : ∃ T σ1, U σ = (T, σ1) := ⟨_, _, rfl⟩
  rw [e1] at hup ⊢
  simp only [e1] at cS ⊢
  obtain ⟨fin, ef⟩ : ∃ fin, manyM L [43] U L.length [T] σ1 = fin := ⟨_, rfl⟩
  have hup2 := up_many hL (sign := [43]) (by decide) σ.pos (fun σ' h1 h2 => (hU σ' h1 h2).1) L.length [T] σ1 hup.2 hup.1
  rw [ef] at hup2 ⊢
  have EF : Hid (manyM L [43] U L.length [T] σ1 = fin) := ef
  refine ⟨hup.trans hup2, fun M tvl w h => ?_⟩
  have hlt := h.lt
  have HA0 : Hid (Aft M tvl L w σ (w.alloc nobj)) := h.aft ((Below.refl _ w).alloc (Nat.le_refl _) _)
  have hrow := heap_alloc_new w nobj
  replace cS := cS M tvl _ HA0.out.rd
  have HUP : Hid (Up L σ σ1) := hup
  clear h hL e1 hup hup2 ho hU ef
  obtain ⟨i0, hi, hz0, hz1, hz2⟩ := info_parts info29
  go_enter Tryz.func39, Tryz.ntmps39
  go_wp2_with fail
  refine cS.mono ?_
  rintro e w1 ⟨x, rfl, hp, ha⟩
  obtain ⟨-, -, -, sa, sc, hkv⟩ := hp.shape
  obtain ⟨xo, xf, xn, xk⟩ := x
  dsimp only at hkv
  subst hkv
  generalize T.kids.length = kn at *
  have hws : w.heap.size + 1 ≤ w1.heap.size := by have := ha.kp.size; simpa using this
  have HK : Hid (KSt L M tvl w fin [43] U σ.pos [T] [⟨xo, xf, xn, .slice sa kn sc⟩] σ1 L.length (.slice (some ⟨w1.heap.size, 0, none⟩) 1 1) (w1.alloc (pobj ⟨xo, xf, xn, .slice sa kn sc⟩))) := by
    have hb := (Below.refl _ w1).alloc (Nat.le_refl _) (pobj ⟨xo, xf, xn, .slice sa kn sc⟩)
    refine ⟨EF.out, by omega, HUP.out.1, own_one w1 _ _ hws, PolsAt.one ?_, (HA0.out.trans ha).below hb, (hb.block _ (by omega)).trans (ha.row (by omega) hrow), by simp, by simp⟩
    refine PolAt.keep hb.size (fun b h1 h2 => ⟨⟨?_, ?_⟩, hb.block b h2⟩) _ _ hp
    · have h1 : (w.alloc nobj).heap.size ≤ b := h1
      simpa using h1
    · simp [Value.ownBlock]; omega
  clear ha hp cS hrow HA0 EF HUP
  go_wp2_with fail
  go_loopw [3] (fun v wr => ∃ (acc : List Pl) (xs : List Nd) (σk : St) (k : Nat), Hid (KSt L M tvl w fin [43] U σ.pos acc xs σk k v wr)) (fun _ wr => L.length - rdPos wr (M + 1))
  case atStart => exact ⟨_, _, _, _, HK⟩
  case round =>
    clear HK
    obtain ⟨acc, xs, σk, k, HK⟩ := hrel
    have hpos := HK.out.aft.rd.posEq
    have HPo : Hid (rdPos wr (M + 1) = σk.pos) := hpos
    clear hpos
    have hxl : xs.length ≤ 5001 := by
      have h1 := HK.out.few
      have h2 : σk.pos < L.length := HK.out.aft.rd.ok
      have h3 := HL.out.few
      omega
    cases hi : isNext L [43] σk with
    | true =>
      have cT := takes_yes HL.out [43] (by decide) hi wr HK.out.aft.rd
      have hno := next_of_is HL.out HK.out.aft.rd.ok (by decide) hi
      obtain ⟨hup, cS⟩ := HU.out σk.next hno (by have := HK.out.up; show σ.pos ≤ σk.pos + 1; omega)
      have HI : Hid (isNext L [43] σk = true) := hi
      have HUp : Hid (Up L σk.next (U σk.next).2) := hup
      have hk1 : ∃ k', k = k' + 1 := ⟨k - 1, by
        have h1 := HK.out.fuel
        have h2 : σk.pos + 1 < L.length := hno
        omega⟩
      obtain ⟨k', rfl⟩ := hk1
      clear hi hup hno
      go_wp2_with fail
      refine cT.mono ?_
      rintro e w2 ⟨rfl, ha2⟩
      have HA2 : Hid (Aft M tvl L wr σk.next w2) := ha2
      replace cS := cS M tvl w2 ha2.rd
      clear ha2 cT
      go_wp2_with fail
      refine cS.mono ?_
      rintro e w3 ⟨x, rfl, hp, ha3⟩
      have hx1 := hp.one
      obtain ⟨-, -, -, sa2, sc2, hkv⟩ := hp.shape
      obtain ⟨xo2, xf2, xn2, xk2⟩ := x
      dsimp only at hkv hx1
      subst hkv
      have HA3 : Hid (Aft M tvl L w2 (U σk.next).2 w3) := ha3
      have HP3 : Hid (PolAt (fun b => w2.heap.size ≤ b) w3 (U σk.next).1 ⟨xo2, xf2, xn2, .slice sa2 (U σk.next).1.kids.length sc2⟩) := hp
      generalize (U σk.next).1.kids.length = kn2 at *
      have hown3 := ha3.kp.own (lo := w.heap.size + 1) (by omega) (HA2.out.kp.own (by omega) HK.out.own)
      have hws3 : w.heap.size + 1 ≤ w3.heap.size := by have := ha3.kp.size; have := HA2.out.kp.size; have := heap_lt HK.out.row; omega
      clear ha3 hp cS
      go_wp2_with (at_builtin; refine wpList_append_own_at _ rfl _ _ 27 rfl (w.heap.size + 1) 29 i0 (nv ⟨0, 0, 0, .slice none 0 0⟩) 4 48 Tryz.underlying27 hi hz0 hz1 hz2 rfl (by decide) u3 _ _ rfl (hown3.alloc _) ⟨w3.heap.size, 0, none⟩ 1 1 (enc4 ⟨xo2, xf2, xn2, .slice sa2 kn2 sc2⟩) rfl rfl (cell_new4 _ _ _ rfl) (enc4_one _ hx1) (by unfold maxLen; omega) (by omega) (by simp; omega) ?_; intro v4 w4 hown4 hgrow4 hnil4 hloc4)
      have HK4 := HK.out.app HI.out hlt HA2.out HA3.out HP3.out HUp.out hown4 hgrow4 hloc4
      have HK4 : Hid (KSt L M tvl w fin [43] U σ.pos (acc ++ [(U σk.next).1]) (xs ++ [⟨xo2, xf2, xn2, .slice sa2 kn2 sc2⟩]) (U σk.next).2 k' v4 w4) := HK4
      clear hown4 hgrow4 hnil4 hloc4
      go_wp2
      go_roundw
      case rel => exact ⟨_, _, _, _, HK4⟩
      case measure =>
        rw [HPo.out, HK4.out.aft.rd.posEq]
        have h1 := HUp.out.1
        have h2 : σk.next.pos = σk.pos + 1 := rfl
        have h3 : (U σk.next).2.pos < L.length := HUp.out.2
        omega
    | false =>
      have cT := takes_no HL.out [43] (by decide) hi wr HK.out.aft.rd
      have HF : Hid (fin = (acc, σk)) := by show _ = _; rw [← HK.out.fin, manyM_stop _ _ _ _ _ _ hi]
      clear hi
      go_wp2_with fail
      refine cT.mono ?_
      rintro e w2 ⟨rfl, ha2⟩
      have HA2 : Hid (Aft M tvl L w σk w2) := HK.out.aft.trans ha2
      have hown2 := ha2.kp.own (lo := w.heap.size + 1) (by omega) HK.out.own
      have hrow2 := ha2.row (by omega) HK.out.row
      have cJ := joined_any (P := fun b => w.heap.size + 1 ≤ b ∧ some b ≠ u3.ownBlock) (Q := fun b => w.heap.size + 1 ≤ b) (fun b h => h.1) (fun b h => h) 7 acc xs u3 HK.out.ne w2 hown2 (HK.out.pols.keep ha2.kp.size (fun b hb hl => ⟨hb, ha2.kp.block b hl (by have := hb.1; omega) (by have := hb.1; omega)⟩)) (by omega)
      clear ha2 cT
      go_wp2_with fail
      refine cJ.mono ?_
      rintro e w3 ⟨x, rfl, hp, hb3⟩
      obtain ⟨-, -, -, sa2, sc2, hkv⟩ := hp.shape
      obtain ⟨xo2, xf2, xn2, xk2⟩ := x
      dsimp only at hkv
      subst hkv
      generalize (joinedM 7 acc).kids.length = kn2 at *
      have HP3 : Hid (PolAt (fun b => w.heap.size + 1 ≤ b) w3 (joinedM 7 acc) ⟨xo2, xf2, xn2, .slice sa2 kn2 sc2⟩) := hp
      have HA3 : Hid (Aft M tvl L w σk w3) := HA2.out.below hb3
      have hrow3 := (hb3.block _ (heap_lt hrow2)).trans hrow2
      clear hp hb3 cJ hrow2
      obtain ⟨q0, q1, q2, q3⟩ := row4 hrow3
      have hl5 := heap_lt hrow3
      obtain ⟨f0, f1, f2, f3⟩ := frz4 hrow3
      go_wp2
      refine bodyPost_ret (v := nv ⟨xo2, xf2, xn2, .slice sa2 kn2 sc2⟩) ?_ rfl ⟨_, rfl, ?_, by rw [HF.out]; exact aft_set4 HA3.out hlt _ _ _ _⟩
      · obtain ⟨g0, g1, g2, g3⟩ := row4 (set4 (.int .i64 xo2) (.int .i64 xf2) (.int .u16 xn2) (.slice sa2 kn2 sc2) hrow3)
        simp [results, Tryz.results39, go_sem, g0, g1, g2, g3]
      · rw [HF.out]
        exact (pol_set4 HP3.out (by show ¬ w.heap.size + 1 ≤ w.heap.size; omega) _ _ _ _).mono (fun b hb _ => by have hb : w.heap.size + 1 ≤ b := hb; show w.heap.size ≤ b; omega)

theorem sum_any {L : List Tk} (hL : EndL L) (hSh : Short L) : ∀ (k : Nat) (σ : St), Ok L σ → L.length ≤ σ.pos + k → PolC 39 L (sumM L k) σ
  | 0, σ, ho, hk => absurd (show σ.pos < L.length from ho) (by omega)
  | k + 1, σ, ho, hk => by
    have ih := sum_any hL hSh k
    show PolC 39 L (listM L [43] 7 (seqM L (sumM L k))) σ
    refine sum_step hL ho fun σ' h1 h2 => ?_
    show PolC 55 L (listM L [59] 6 (unaryM L (sumM L k) (L.length + 1))) σ'
    refine seq_any hL h1 fun σ'' h3 h4 => ?_
    exact unary_any hL hSh σ''.pos (fun σ3 h5 h6 => ih σ3 h5 (by omega)) (L.length + 1) σ'' h3 (Nat.le_refl _) (by omega)
end Go.Proofs.YtipjmabeenhcgaaGreatDoor
