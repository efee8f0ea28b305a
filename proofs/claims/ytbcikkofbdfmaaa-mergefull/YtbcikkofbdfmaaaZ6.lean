/- A list of rows of one's own: merge.cloned; up to 1000 rows of up to 1000 pairs and 1000 acts of up to 1000 pairs. -/
import Derived.Test.YtbcikkofbdfmaaaZ5
import Derived.Deep.CutRange
import Derived.Deep.RegionWith
set_option linter.unusedVariables false
set_option linter.unusedSimpArgs false
namespace Go.Proofs.Ytbcikkofbdfmaaa
open Go.RowKit Go.Joins Go.Sort

/-- A call of one argument, as one step of a region that draws. -/
theorem step_call1 {ops : Array Oper} {o : Oper} {a : Act} {K : Act → World → Prop} {Q : Exit → Act → World → Prop} {E : Prop} (hgd : o.guard = none) (f s : Nat) (ats : Array TypeId) (ho : o.op = .call { callee := .value (.func f), args := #[.tmp s], argTypes := ats })
    (v : Value) (hs : a.eval (.tmp s) = v) (w : World) (hrun : ∀ x w, (callFunc f #[x]).run Try.prog w = .ok (.enter f #[x]) w) (post : Ending → World → Prop) (hc : Calls Try.prog f #[v] w post)
    (h : ∀ e w', post e w' → ∃ r, e = .returned r ∧ K (a.put o.dst r) w') : if Region.wanted o (yielded ops a.tmps) = true then Oper.wp Try.prog o a w K Q else E := by
  have hw : Region.wanted o (yielded ops a.tmps) = true := by simp [Region.wanted, hgd]
  rw [if_pos hw]
  have hr : (execOp a.eval o).run Try.prog w = .ok (.enter f #[v]) w := by
    have e' : a.tmps[s]?.getD undef = v := by rw [← hs]; unfold Act.eval; simp
    have h2 := hrun v w
    simp only [execOp, ho]
    go_simp
  unfold Oper.wp
  rw [hr]
  refine Calls.mono hc ?_
  intro e w' hp
  obtain ⟨r, rfl, hk⟩ := h e w' hp
  exact hk
theorem call36 : ∀ (x : Value) (w : World), (callFunc 36 #[x]).run Try.prog w = .ok (.enter 36 #[x]) w := by
  intro x w
  kernel_rfl
theorem DSt.after {w : World} {L : Lst} {k m : Nat} {r : Rx} {V U : List Value} {y : Value} {W W3 : World} {P : World → Prop} (h : DSt w L k r m V y U W) (hb : Below W.heap.size W W3) (hin : In (W.heap.size ≤ ·) W3 P) :
    (W3.cell? ⟨w.heap.size, k * 2 + 1, none⟩ = some y ∧ W3.frozen? ⟨w.heap.size, k * 2 + 1, none⟩ = false ∧ w.heap.size < W3.heap.size) ∧ (∀ o, DSt w L k r m V y U (W3.alloc o)) ∧ (∀ o, In (offB (w.heap.size + 1) y) (W3.alloc o) P) := by
  have h3 := h.below hb
  refine ⟨⟨by rw [cellV h3.blk]; exact h.hy, frzV h3.blk _, hlt h3.blk⟩, fun o => h3.below ((Below.refl _ _).alloc (Nat.le_refl _) o), fun o => ?_⟩
  refine (hin.mono fun b _ e => ?_).step (Agree.below ((Below.refl _ _).alloc (Nat.le_refl _) o))
  have hw := hlt h.blk
  have e' : W.heap.size ≤ b := e
  exact ⟨by show w.heap.size + 1 ≤ b; omega, fun e2 => by have := (h.own.lt b e2).2; omega⟩
theorem DSt.grew {w : World} {L : Lst} {k m : Nat} {r : Rx} {V U : List Value} {y : Value} {W W' : World} (h : DSt w L k r m V y U W) (gr : W.grownBy W' y.ownBlock) : W'.cell? ⟨w.heap.size, k * 2 + 1, none⟩ = some y ∧ W'.frozen? ⟨w.heap.size, k * 2 + 1, none⟩ = false := by
  have hb : W'.heap[w.heap.size]? = some (.cells V.toArray 54) := (gr.block _ (hlt h.blk) fun e => by have := (h.own.lt _ e.symm).1; omega).trans h.blk
  exact ⟨by rw [cellV hb]; exact h.hy, frzV hb _⟩
def smallR (r : Rx) : Prop := r.m.length ≤ 1000 ∧ r.a.length ≤ 1000 ∧ ∀ c ∈ r.a, c.length ≤ 1000
set_option maxRecDepth 100000 in
set_option maxHeartbeats 8000000 in
theorem cloned_any (v : Value) (L : Lst) (hL : L.length ≤ 1000) (hr : ∀ r ∈ L, smallR r) (w : World) (h : RowsAt w v L) :
    Calls Try.prog 22 #[v] w fun e w' => ∃ v', e = .returned v' ∧ In (w.heap.size ≤ ·) w' (fun W => RowsAt W v' L) ∧ Below w.heap.size w w' := by
  obtain ⟨i56, hi56, hz560, hz561, hz562⟩ := info_parts info56i
  obtain ⟨sa, sc, rfl, hl, -, hc⟩ := h
  have HC := hid hc
  have HR1 := hid hr
  obtain ⟨R, hR⟩ : ∃ R, L.length = R := ⟨_, rfl⟩
  have HR := hid hR
  rw [hR] at hl hL ⊢
  clear hc hR hr
  have hmk := run_make54 R hL
  have HS0 : Hid (CSt w L 0 (List.replicate (R * 2) nilS) (w.alloc (.cells (List.replicate (R * 2) nilS).toArray 54))) :=
    ⟨(Below.refl _ _).alloc (Nat.le_refl _) _, heap_alloc_new w _, by rw [List.length_replicate, HR.out], fun i _ hi => absurd hi (Nat.not_lt_zero _), fun i _ hi => by
      rw [HR.out] at hi
      constructor <;> (rw [List.getElem?_replicate, if_pos (by omega)])⟩
  go_enter Try.func22, Try.ntmps22
  go_wp2
  go_loopw [13] (fun i wr => ∃ (k : Nat) (V : List Value), k ≤ R ∧ i = .int .i64 (k : Int) ∧ Hid (CSt w L k V wr)) (fun i _ => R - (intOf i).toNat)
  case atStart => exact ⟨0, _, Nat.zero_le _, rfl, HS0⟩
  case round =>
    clear HS0 hmk
    obtain ⟨k, V, hk, rfl, HS⟩ := hrel
    by_cases hlt' : k < R
    · have hltL : k < L.length := by rw [HR.out]; exact hlt'
      have dk : decide ((k : Int) < (R : Int)) = true := by simp; omega
      have hk1 : (k : Int) < (R : Int) := by omega
      obtain ⟨b, off, rfl, hb, x, y, hx, hy, hp⟩ := HC.out k hltL
      obtain ⟨hs1, hs2, hs3⟩ := HR1.out _ (List.getElem_mem hltL)
      have HS3 := hid hs3
      have HU : Hid (∀ W, Below w.heap.size w W → RowAt W x y L[k]) := fun W hW => hp.below hW
      have a0 := (HS.out.bel.cell (p := ⟨b, off + k * 2, none⟩) hb).trans hx
      have a1 := (HS.out.bel.cell (p := ⟨b, off + k * 2 + 1, none⟩) hb).trans hy
      have HM : Hid (∀ W V u, CSt w L k V W → In (w.heap.size + 1 ≤ ·) W (fun W => PairsAny W u L[k].m) → DSt w L k L[k] 0 (V.set (k * 2) u) nilS [] (W.setCell ⟨w.heap.size, k * 2, none⟩ u)) := fun W V u h1 h2 => h1.match hltL u h2
      have HSH : Hid (∀ W V y U, DSt w L k L[k] L[k].a.length V y U W → CSt w L (k + 1) V W) := fun W V y U h1 => h1.shut hltL
      generalize L[k] = r at *
      obtain ⟨xa, xc, hxe, -⟩ := (HU.out w (Below.refl _ _)).1.form
      obtain ⟨ya, yc, hye, hya, hyc⟩ := (HU.out w (Below.refl _ _)).2
      generalize hxn : r.m.length = xn at *
      obtain ⟨M, hM⟩ : ∃ M, r.a.length = M := ⟨_, rfl⟩
      have HMl := hid hM
      rw [hM] at hye hya hs2 HSH
      clear hM
      subst hxe hye
      have HYC := hid hyc
      clear hx hy hyc hs3 hp
      have HB1 : Hid (Below wr.heap.size wr (wr.alloc (rob (.slice xa xn xc) (.slice ya M yc)))) := (Below.refl _ _).alloc (Nat.le_refl _) _
      have HS1 := hid (HS.out.below HB1.out)
      have HX1 : Hid ((wr.alloc (rob (.slice xa xn xc) (.slice ya M yc))).heap[wr.heap.size]? = some (rob (.slice xa xn xc) (.slice ya M yc))) := heap_alloc_new _ _
      have cX := hid (clone35_any (.slice xa xn xc) r.m (by rw [hxn]; exact hs1) _ (HU.out _ HS1.out.bel).1)
      obtain ⟨c0, c1⟩ := row2 HX1.out
      have hwr := hlt HS.out.blk
      go_wp2_with fail
      refine cX.out.mono ?_
      rintro e W ⟨x', rfl, hin, hb2⟩
      obtain ⟨x'a, x'c, hxe', -⟩ := hin.now.form
      rw [hxn] at hxe'
      subst hxe'
      have HS2 := hid (HS1.out.below hb2)
      have HX2 := hid ((hb2.block _ (heap_lt HX1.out)).trans HX1.out)
      have HD0 := hid (HM.out _ _ _ HS2.out (hin.mono fun b _ hb => by simp at hb; show w.heap.size + 1 ≤ b; omega))
      have f0 := frzV HS2.out.blk (k * 2)
      have e0 := cellV HS2.out.blk (k * 2)
      rw [(HS2.out.rest k (Nat.le_refl _) (by rw [HR.out]; exact hlt')).1] at e0
      obtain ⟨c0, c1⟩ := row2 HX2.out
      have hne : ¬ (wr.heap.size = w.heap.size) := by omega
      clear hb2 hin cX HS1 HX1 HB1
      go_wp2
      clear HS2 HX2 HM f0 e0 c0 c1 hne a0 a1 hwr
      go_loopw [28] (fun j wx => ∃ (m : Nat) (y' : Value) (U V' : List Value), m ≤ M ∧ j = .int .i64 (m : Int) ∧ Hid (DSt w L k r m V' y' U wx)) (fun j _ => M - (intOf j).toNat)
      case atStart => exact ⟨0, _, _, _, Nat.zero_le _, rfl, HD0⟩
      case round =>
        clear HD0
        obtain ⟨m, y', U, V', hm, rfl, HD⟩ := hrel
        by_cases hltm : m < M
        · have hmL : m < r.a.length := by rw [HMl.out]; exact hltm
          have dm : decide ((m : Int) < (M : Int)) = true := by simp; omega
          have hm1 : (m : Int) < (M : Int) := by omega
          obtain ⟨b2, off2, rfl, hb2, u, hu, hpu⟩ := HYC.out m hmL
          have hul := HS3.out _ (List.getElem_mem hmL)
          have a0 := (HD.out.bel.cell (p := ⟨b2, off2 + m, none⟩) hb2).trans hu
          have HPU : Hid (∀ W, Below w.heap.size w W → PairsAny W u r.a[m]) := fun W hW => hpu.below hW
          have HPush : Hid (∀ (n c g : Nat) (V U : List Value) (y u : Value) (W W' : World), DSt w L k r m V y U W → In (offB (w.heap.size + 1) y) W (fun W => PairsAny W u r.a[m]) → W'.ownsRow (w.heap.size + 1) 56 1 (.slice (some ⟨g, 0, none⟩) n c) (m + 1) (U ++ [u]) → W.grownBy W' y.ownBlock → (y.ownBlock = some g ∨ g = W.heap.size) → DSt w L k r (m + 1) (V.set (k * 2 + 1) (.slice (some ⟨g, 0, none⟩) n c)) (.slice (some ⟨g, 0, none⟩) n c) (U ++ [u]) (W'.setCell ⟨w.heap.size, k * 2 + 1, none⟩ (.slice (some ⟨g, 0, none⟩) n c))) := fun n c g V U y u W W' h1 h2 h3 h4 h5 => h1.push (by rw [HR.out]; exact hlt') hmL h2 h3 h4 h5
          obtain ⟨ua, uc, hue, -⟩ := hpu.form
          generalize r.a[m] = A at *
          obtain ⟨un, hun⟩ : ∃ un, A.length = un := ⟨_, rfl⟩
          rw [hun] at hue hul
          have HUN := hid hun
          clear hun
          subst hue
          clear hu hpu
          have f1 := frzV HD.out.blk (k * 2 + 1)
          have e1 := cellV HD.out.blk (k * 2 + 1)
          rw [HD.out.hy] at e1
          obtain ⟨y'a, y'c, rfl⟩ := own_shape HD.out.own
          have hsz := hlt HD.out.blk
          have HDd : Hid (DSt w L k r m V' (.slice y'a m y'c) U wr.drew) := HD.out.below (below_drewN (Below.refl _ wr) 1)
          have cA := hid (clone36_any (.slice ua un uc) A (by rw [HUN.out]; exact hul) wr.drew (HPU.out _ HDd.out.bel))
          go_wp2_with fail
          go_region_law (first
            | (refine step_append_lies _ (by rfl) _ _ _ (by rfl) (w.heap.size + 1) 56 i56 (.slice none 0 0) 1 24 Try.underlying52 hi56 hz560 hz561 hz562 rfl (by decide) (.slice y'a m y'c) m _ (by rfl) ((HD3.out _).own) ⟨W3.heap.size, 0, none⟩ 1 1 [.slice ua' un uc'] (by rfl) rfl (cell_one W3 _ _) (fun x hx => by simp at hx; rw [hx]; rfl) (by decide) (by unfold maxLen; omega) (by omega) (by simp; omega) (W3.heap.size + 1) (by simp) ?_; intro g4 cap4 w4 hown4 hgrow4 hloc4 hlt4; obtain ⟨e4, f4⟩ := (HD3.out _).grew hgrow4)
            | (refine step_call1 rfl 36 39 _ rfl (.slice ua un uc) rfl _ call36 _ cA.out ?_; rintro e W3 ⟨u', rfl, hin3, hb3⟩; obtain ⟨ua', uc', hue3, -⟩ := hin3.now.form; rw [HUN.out] at hue3; subst hue3; obtain ⟨⟨e3, f3, hsz3⟩, hdt3, hin4⟩ := HDd.out.after hb3 hin3; have HD3 := hid hdt3; have HI3 := hid hin4; refine ⟨_, rfl, ?_⟩))
          all_goals
            have HP5 := hid (HPush.out (m + 1) cap4 g4 V' U (.slice y'a m y'c) (.slice ua' un uc') (W3.alloc (.cells #[.slice ua' un uc'] 56)) w4 (HD3.out _) (HI3.out _) hown4 hgrow4 (by simpa using hloc4))
            clear hown4 hgrow4 hloc4 hlt4 e4 f4 HD3 HI3 e3 f3 hsz3 hin3 hb3 hdt3 hin4 HD HDd cA f1 e1
            go_wp2
            go_roundw
            case rel => exact ⟨m + 1, _, _, _, by omega, by go_num, HP5⟩
            case measure => simp [intOf]; omega
        · obtain rfl : m = M := by omega
          have dm : decide ((m : Int) < (m : Int)) = false := by simp
          have HS4 := hid (HSH.out _ _ _ _ HD.out)
          go_wp2
          go_roundw
          case rel => exact ⟨k + 1, _, by omega, by go_num, HS4⟩
          case measure => simp [intOf]; omega
    · obtain rfl : k = R := by omega
      have dk : decide ((k : Int) < (k : Int)) = false := by simp
      have HE : Hid (In (w.heap.size ≤ ·) wr (fun W => RowsAt W (.slice (some ⟨w.heap.size, 0, none⟩) k k) L)) := by
        intro W a
        have hblk : W.heap[w.heap.size]? = some (.cells V.toArray 54) := (a.2 _ (hlt HS.out.blk) (Nat.le_refl _)).trans HS.out.blk
        refine ⟨_, k, by rw [HR.out], by rw [HR.out]; exact hl, ⟨by rw [HR.out]; exact Nat.le_refl _, hl⟩, fun i hi => ?_⟩
        obtain ⟨x, y, h1, h2, h3⟩ := HS.out.done i hi (by rw [HR.out] at hi; exact hi)
        refine ⟨w.heap.size, 0, rfl, hlt hblk, x, y, ?_, ?_, h3 W (a.mono fun b _ e => Nat.le_trans (Nat.le_succ _) e)⟩
        · rw [cellV hblk, Nat.zero_add]; exact h1
        · rw [cellV hblk, Nat.zero_add]; exact h2
      go_wp2
      go_ret
      exact ⟨_, rfl, HE.out, HS.out.bel⟩
end Go.Proofs.Ytbcikkofbdfmaaa
