/- What the reader's rule answers, where pairs are put at a list's end; no conditions but that the reader stands. -/
import Derived.Test.YtebpapmnkbehnaaGreatDoorQ4
set_option linter.unusedVariables false
set_option linter.unusedSimpArgs false
namespace Go.Proofs.YtebpapmnkbehnaaGreatDoor
open Go.RowKit Go.Joins

/-! ### What 'mid' and the places do -/
theorem next_mid (σ : St) : σ.next.mid = σ.mid := rfl
theorem needs_mid (L : List Tk) (s : List UInt8) (σ : St) : (needsM L s σ).mid = σ.mid := by unfold needsM; split <;> rfl
theorem number_mid (L : List Tk) (σ : St) : (numberM L σ).2.mid = σ.mid := by unfold numberM; split <;> rfl
theorem name_mid (L : List Tk) (σ : St) : (nameM L σ).2.mid = σ.mid := by unfold nameM; split <;> rfl
theorem field_mid (L : List Tk) (σ : St) : (fieldM L σ).2.mid = σ.mid := by unfold fieldM; split <;> rfl
theorem value_mid (L : List Tk) (σ : St) : (valueM L σ).2.mid = σ.mid := by
  unfold valueM
  split
  · exact number_mid L σ
  · exact name_mid L σ
theorem part_mid (L : List Tk) (s : List UInt8) (σ : St) : (partM L s σ).2.mid = σ.mid := by
  unfold partM
  rw [value_mid, needs_mid, number_mid]
theorem with_mid {l : List Pr} {c : Pr} {σ : St} (h : (withM l c σ).2.mid = false) : σ.mid = false := by
  unfold withM at h
  split at h <;> exact h
theorem with_pos (l : List Pr) (c : Pr) (σ : St) : (withM l c σ).2.pos = σ.pos := by unfold withM; split <;> rfl
theorem when_mid {L : List Tk} {r : Rl} {σ : St} (h : (whenM L r σ).2.mid = false) : σ.mid = false := by
  unfold whenM at h
  split at h
  · have := with_mid h
    rwa [part_mid] at this
  · have := with_mid h
    rwa [value_mid, needs_mid, field_mid] at this
theorem then_mid {L : List Tk} {r : Rl} {σ : St} (h : (thenM L r σ).2.mid = false) : σ.mid = false := by
  unfold thenM at h
  have := with_mid h
  rwa [part_mid, needs_mid] at this
theorem amp_mid {L : List Tk} {g : Rl → St → Rl × St} (hg : ∀ r σ, (g r σ).2.mid = false → σ.mid = false) : ∀ (k : Nat) (r : Rl) (σ : St), (ampM L g k r σ).2.mid = false → σ.mid = false
  | 0, r, σ, h => h
  | k + 1, r, σ, h => by
    unfold ampM at h
    split at h
    · exact hg r σ.next (amp_mid hg k _ _ h)
    · exact h
theorem up_when {L : List Tk} (hL : EndL L) {r : Rl} {σ : St} (h : Ok L σ) : Up L σ (whenM L r σ).2 := by
  unfold whenM
  split
  · have h1 := next_of_is (s := [64]) hL h (by decide) ‹_›
    have h2 := (up_next h1).trans (up_part hL (s := [61]) (by decide) h1)
    exact ⟨by rw [with_pos]; exact h2.1, by show (withM _ _ _).2.pos < _; rw [with_pos]; exact h2.2⟩
  · have h1 := up_field hL h
    have h2 := h1.trans (up_needs hL (s := [61]) (by decide) h1.2)
    have h3 := h2.trans (up_value hL h2.2)
    exact ⟨by show _ ≤ (withM _ _ _).2.pos; rw [with_pos]; exact h3.1, by show (withM _ _ _).2.pos < _; rw [with_pos]; exact h3.2⟩
theorem up_then {L : List Tk} (hL : EndL L) {r : Rl} {σ : St} (h : Ok L σ) : Up L σ (thenM L r σ).2 := by
  unfold thenM
  have h1 := up_needs hL (s := [64]) (by decide) h
  have h2 := h1.trans (up_part hL (s := [58, 61]) (by decide) h1.2)
  exact ⟨by show _ ≤ (withM _ _ _).2.pos; rw [with_pos]; exact h2.1, by show (withM _ _ _).2.pos < _; rw [with_pos]; exact h2.2⟩
theorem RlOk.mono {r : Rl} {n m : Nat} (h : RlOk r n) (hm : n ≤ m) : RlOk r m := ⟨h.r1, h.r2, h.r3, Nat.le_trans h.l1 hm, Nat.le_trans h.l2 hm, Nat.le_trans h.l3 hm⟩
theorem when_ok {L : List Tk} {r : Rl} {σ : St} {n : Nat} (h : RlOk r n) (hm : (whenM L r σ).2.mid = false) : RlOk (whenM L r σ).1 (n + 1) := by
  have h' := h.mono (Nat.le_succ n)
  unfold whenM at hm ⊢
  split
  · rename_i hi
    rw [if_pos hi] at hm
    have := with_ok h.r2 hm
    exact ⟨h'.r1, this.1, h'.r3, h'.l1, Nat.le_trans this.2 (by have := h.l2; omega), h'.l3⟩
  · rename_i hi
    rw [if_neg hi] at hm
    have := with_ok h.r1 hm
    exact ⟨this.1, h'.r2, h'.r3, Nat.le_trans this.2 (by have := h.l1; omega), h'.l2, h'.l3⟩
theorem then_ok {L : List Tk} {r : Rl} {σ : St} {n : Nat} (h : RlOk r n) (hm : (thenM L r σ).2.mid = false) : RlOk (thenM L r σ).1 (n + 1) := by
  have h' := h.mono (Nat.le_succ n)
  unfold thenM at hm ⊢
  have := with_ok h.r3 hm
  exact ⟨h'.r1, h'.r2, this.1, h'.l1, h'.l2, Nat.le_trans this.2 (by have := h.l3; omega)⟩
theorem ampM_succ (L : List Tk) (g : Rl → St → Rl × St) (k : Nat) (r : Rl) (σ : St) : ampM L g (k + 1) r σ = if isNext L [38] σ then ampM L g k (g r σ.next).1 (g r σ.next).2 else (r, σ) := rfl
theorem ampM_stop (L : List Tk) (g : Rl → St → Rl × St) (k : Nat) (r : Rl) (σ : St) (h : isNext L [38] σ = false) : ampM L g k r σ = (r, σ) := by
  cases k with
  | zero => rfl
  | succ k => rw [ampM_succ, if_neg (by rw [h]; decide)]
theorem amp_ok {L : List Tk} {g : Rl → St → Rl × St} (hg : ∀ r σ n, RlOk r n → (g r σ).2.mid = false → RlOk (g r σ).1 (n + 1)) (hm : ∀ r σ, (g r σ).2.mid = false → σ.mid = false) : ∀ (k : Nat) (r : Rl) (σ : St) (n : Nat), RlOk r n → (ampM L g k r σ).2.mid = false → RlOk (ampM L g k r σ).1 (n + k)
  | 0, r, σ, n, h, _ => h
  | k + 1, r, σ, n, h, hmid => by
    rw [ampM_succ] at hmid ⊢
    split
    · rename_i hi
      rw [if_pos hi] at hmid
      have h1 := hg r σ.next n h (amp_mid hm k _ _ hmid)
      exact (amp_ok hg hm k _ _ (n + 1) h1 hmid).mono (by omega)
    · exact h.mono (by omega)
theorem up_amp {L : List Tk} (hL : EndL L) {g : Rl → St → Rl × St} (hg : ∀ r σ, Ok L σ → Up L σ (g r σ).2) : ∀ (k : Nat) (r : Rl) (σ : St), Ok L σ → Up L σ (ampM L g k r σ).2
  | 0, r, σ, h => ⟨Nat.le_refl _, h⟩
  | k + 1, r, σ, h => by
    rw [ampM_succ]
    split
    · have h1 := next_of_is (s := [38]) hL h (by decide) ‹_›
      have h2 := hg r σ.next h1
      exact ((up_next h1).trans h2).trans (up_amp hL hg k _ _ h2.2)
    · exact ⟨Nat.le_refl _, h⟩
theorem up_rule {L : List Tk} (hL : EndL L) {σ : St} (h : Ok L σ) : Up L σ (ruleM L σ).2 := by
  unfold ruleM
  have h1 := up_when (r := ⟨[], [], []⟩) hL h
  have h2 := h1.trans (up_amp hL (g := whenM L) (fun r σ ho => up_when hL ho) L.length (whenM L ⟨[], [], []⟩ σ).1 _ h1.2)
  have h3 := h2.trans (up_needs hL (s := [61, 62]) (by decide) h2.2)
  have h4 := h3.trans (up_then hL (r := (ampM L (whenM L) L.length (whenM L ⟨[], [], []⟩ σ).1 (whenM L ⟨[], [], []⟩ σ).2).1) h3.2)
  exact h4.trans (up_amp hL (g := thenM L) (fun r σ ho => up_then hL ho) L.length _ _ h4.2)
theorem rule_mid {L : List Tk} {σ : St} (h : (ruleM L σ).2.mid = false) : σ.mid = false := by
  unfold ruleM at h
  have h1 := then_mid (amp_mid (fun r σ => then_mid) _ _ _ h)
  rw [needs_mid] at h1
  exact when_mid (amp_mid (fun r σ => when_mid) _ _ _ h1)

abbrev robj : Obj := .cells #[.slice none 0 0, .slice none 0 0, .slice none 0 0] 48
/-- What stands while rules' pairs are read. -/
structure ASt (L : List Tk) (M : Nat) (tvl : Value) (G : Nat) (w : World) (fin : Rl × St) (g : Rl → St → Rl × St) (n : Nat) (r : Rl) (σ : St) (k : Nat) (wr : World) : Prop where
  fin : ampM L g k r σ = fin
  fuel : L.length ≤ σ.pos + k
  aft : AftR M tvl L G w σ r wr
  ok : RlOk r (n - k)
  kn : k ≤ n

/-- One round more. -/
theorem ASt.step {L : List Tk} {M : Nat} {tvl : Value} {G : Nat} {w : World} {fin : Rl × St} {g : Rl → St → Rl × St} {n : Nat} {r : Rl} {σ : St} {k : Nat} {wr w3 : World} (h : ASt L M tvl G w fin g n r σ (k + 1) wr) (hi : isNext L [38] σ = true) (hup : Up L σ.next (g r σ.next).2) (hok : RlOk (g r σ.next).1 (n - (k + 1) + 1)) (ha : AftR M tvl L G w (g r σ.next).2 (g r σ.next).1 w3) :
    ASt L M tvl G w fin g n (g r σ.next).1 (g r σ.next).2 k w3 := by
  have hf := h.fin
  rw [ampM_succ, if_pos hi] at hf
  have h1 := hup.1
  have h2 : σ.next.pos = σ.pos + 1 := rfl
  have h3 := h.fuel
  have h4 := h.kn
  exact ⟨hf, by omega, ha, hok.mono (by omega), by omega⟩
theorem AftR.gw {M : Nat} {tvl : Value} {L : List Tk} {G : Nat} {w w' : World} {σ : St} {r : Rl} (h : AftR M tvl L G w σ r w') : G < w'.heap.size := by
  obtain ⟨v1, v2, v3, hr, -⟩ := h.rl
  exact heap_lt hr
/-- The rule's cells are handed over. -/
theorem rule_end {M : Nat} {tvl : Value} {L : List Tk} {σ : St} {w W w9 : World} {r : Rl} (hlt : M + 1 < w.heap.size) (hWs : W.heap.size = w.heap.size + 2) (hBW : Below w.heap.size w W) (ha : AftR M tvl L (w.heap.size + 1) W σ r w9) (hRs : W.heap[w.heap.size]? = some robj) (v1 v2 v3 : Value) (hv : RlV (w.heap.size + 2) w9 r v1 v2 v3) :
    RlV (w.heap.size + 2) (((w9.setCell ⟨w.heap.size, 0, none⟩ v1).setCell ⟨w.heap.size, 1, none⟩ v2).setCell ⟨w.heap.size, 2, none⟩ v3) r v1 v2 v3 ∧ Aft M tvl L w σ (((w9.setCell ⟨w.heap.size, 0, none⟩ v1).setCell ⟨w.heap.size, 1, none⟩ v2).setCell ⟨w.heap.size, 2, none⟩ v3) ∧ w9.heap[w.heap.size]? = some robj := by
  have hs := ha.size
  have hr9 : w9.heap[w.heap.size]? = some robj := (ha.block _ (by omega) (by omega) (by omega)).trans hRs
  have hA : Aft M tvl L w σ w9 := ⟨ha.rd, by rw [ha.os]; exact hBW.os, by rw [ha.tape]; exact hBW.tape, by rw [ha.output]; exact hBW.output, by omega, fun k hk h1 h2 => (ha.block k (by omega) h1 h2).trans (hBW.block k hk)⟩
  exact ⟨((hv.set (by show w.heap.size < _; omega) _).set (by show w.heap.size < _; omega) _).set (by show w.heap.size < _; omega) _, ((hA.setNew hlt (Nat.le_refl _) _).setNew hlt (Nat.le_refl _) _).setNew hlt (Nat.le_refl _) _, hr9⟩

set_option maxRecDepth 100000 in
set_option maxHeartbeats 4000000 in
theorem rule_any {M : Nat} {tvl : Value} {L : List Tk} {σ : St} (hL : EndL L) (hSh : Short L) (hmid : (ruleM L σ).2.mid = false) (w : World) (h : Rd M tvl L σ w) :
    Calls Tryz.prog 48 #[rp M] w fun e w' => ∃ v1 v2 v3, e = .returned (.agg #[v1, v2, v3]) ∧ RlV (w.heap.size + 2) w' (ruleM L σ).1 v1 v2 v3 ∧ Aft M tvl L w (ruleM L σ).2 w' := by
  have HL : Hid (EndL L) := hL
  have HSh : Hid (Short L) := hSh
  have hlt := h.lt
  obtain ⟨W, hW⟩ : ∃ W, (w.alloc robj).alloc robj = W := ⟨_, rfl⟩
  have hBW : Below w.heap.size w W := by rw [← hW]; exact ((Below.refl _ w).alloc (Nat.le_refl _) _).alloc (by simp) _
  have hWs : W.heap.size = w.heap.size + 2 := by rw [← hW]; simp
  have hG : W.heap[w.heap.size + 1]? = some robj := by rw [← hW]; simpa using heap_alloc_new (w.alloc robj) robj
  have hRs : W.heap[w.heap.size]? = some robj := by rw [← hW, Below.heap_alloc _ _ _ (by simp)]; exact heap_alloc_new w robj
  have HA0 : Hid (AftR M tvl L (w.heap.size + 1) W σ ⟨[], [], []⟩ W) := ⟨h.below hBW, rfl, rfl, rfl, Nat.le_refl _, fun _ _ _ _ => rfl, _, _, _, hG, World.ownsRow_nil _ _ _ _, World.ownsRow_nil _ _ _ _, World.ownsRow_nil _ _ _ _, by simp [Value.ownBlock], by simp [Value.ownBlock], by simp [Value.ownBlock]⟩
  have HRs : Hid (W.heap[w.heap.size]? = some robj) := hRs
  have HBW : Hid (Below w.heap.size w W) := hBW
  have hf := hL.few
  have hok : Ok L σ := h.ok
  -- the model's steps
  unfold ruleM at hmid ⊢
  obtain ⟨r1, σ1, e1⟩ : ∃ a b, whenM L ⟨[], [], []⟩ σ = (a, b) := ⟨_, _, rfl⟩
  have u1 := up_when (r := ⟨[], [], []⟩) hL hok
  have k1 := fun (hm : (whenM L ⟨[], [], []⟩ σ).2.mid = false) => when_ok (n := 0) (r := ⟨[], [], []⟩) ⟨fun i j hi => by simp at hi, fun i j hi => by simp at hi, fun i j hi => by simp at hi, by simp, by simp, by simp⟩ hm
  rw [e1] at hmid u1 k1 ⊢
  dsimp only at hmid u1 k1 ⊢
  obtain ⟨r2, σ2, e2⟩ : ∃ a b, ampM L (whenM L) L.length r1 σ1 = (a, b) := ⟨_, _, rfl⟩
  have u2 := up_amp hL (g := whenM L) (fun r σ ho => up_when hL ho) L.length r1 σ1 u1.2
  have m2 := amp_mid (L := L) (g := whenM L) (fun r σ => when_mid) L.length r1 σ1
  have k2 := amp_ok (L := L) (g := whenM L) (fun r σ n h hm => when_ok h hm) (fun r σ => when_mid) L.length r1 σ1 1
  rw [e2] at hmid u2 m2 k2 ⊢
  dsimp only at hmid u2 m2 k2 ⊢
  obtain ⟨σ3, e3⟩ : ∃ b, needsM L [61, 62] σ2 = b := ⟨_, rfl⟩
  have u3 := up_needs hL (s := [61, 62]) (by decide) u2.2
  have m3 := needs_mid L [61, 62] σ2
  rw [e3] at hmid u3 m3 ⊢
  obtain ⟨r4, σ4, e4⟩ : ∃ a b, thenM L r2 σ3 = (a, b) := ⟨_, _, rfl⟩
  have u4 := up_then hL (r := r2) u3.2
  have m4 := then_mid (L := L) (r := r2) (σ := σ3)
  have k4 := fun n h => then_ok (L := L) (r := r2) (σ := σ3) (n := n) h
  rw [e4] at hmid u4 m4 k4 ⊢
  dsimp only at hmid u4 m4 k4 ⊢
  obtain ⟨r5, σ5, e5⟩ : ∃ a b, ampM L (thenM L) L.length r4 σ4 = (a, b) := ⟨_, _, rfl⟩
  have m5 := amp_mid (L := L) (g := thenM L) (fun r σ => then_mid) L.length r4 σ4
  rw [e5] at hmid m5 ⊢
  dsimp only at hmid m5 ⊢
  have d4 : σ4.mid = false := m5 hmid
  have d3 : σ3.mid = false := m4 d4
  have d2 : σ2.mid = false := by rw [← m3]; exact d3
  have d1 : σ1.mid = false := m2 d2
  have K1 := k1 d1
  have K2 := k2 K1 d2
  have K4 := k4 _ K2 d4
  have cW := when_any hL hSh (by omega) (RlOk.mono (m := 9000) (⟨fun i j hi => by simp at hi, fun i j hi => by simp at hi, fun i j hi => by simp at hi, by simp, by simp, by simp⟩ : RlOk ⟨[], [], []⟩ 0) (by omega)) (by rw [e1]; exact d1) W W HA0.out (by omega)
  rw [e1] at cW
  have E2 : Hid (ampM L (whenM L) L.length r1 σ1 = (r2, σ2)) := e2
  have E3 : Hid (needsM L [61, 62] σ2 = σ3) := e3
  have E4 : Hid (thenM L r2 σ3 = (r4, σ4)) := e4
  have E5 : Hid (ampM L (thenM L) L.length r4 σ4 = (r5, σ5)) := e5
  have HD : Hid (σ1.mid = false ∧ σ2.mid = false ∧ σ3.mid = false ∧ σ4.mid = false ∧ σ5.mid = false) := ⟨d1, d2, d3, d4, hmid⟩
  have HK : Hid (RlOk r1 1 ∧ RlOk r2 (1 + L.length) ∧ RlOk r4 (1 + L.length + 1)) := ⟨K1, K2, K4⟩
  have HU : Hid (Up L σ σ1 ∧ Up L σ1 σ2 ∧ Up L σ2 σ3 ∧ Up L σ3 σ4) := ⟨u1, u2, u3, u4⟩
  clear hmid d1 d2 d3 d4 K1 K2 K4 k1 k2 k4 m2 m3 m4 m5 u1 u2 u3 u4 e1 e2 e3 e4 e5 h hL hSh hok hBW hG hRs
  go_enter Tryz.func48, Tryz.ntmps48
  go_wp2_with fail
  refine cW.mono ?_
  rintro e w1 ⟨rfl, ha1⟩
  have HS1 : Hid (ASt L M tvl (w.heap.size + 1) W (r2, σ2) (whenM L) (L.length + 1) r1 σ1 L.length w1) := ⟨E2.out, by omega, ha1, HK.out.1.mono (by omega), by omega⟩
  clear ha1 cW
  go_wp2_with fail
  go_loopw [] (fun wr => ∃ (r : Rl) (σk : St) (k : Nat), Hid (ASt L M tvl (w.heap.size + 1) W (r2, σ2) (whenM L) (L.length + 1) r σk k wr)) (fun wr => L.length - rdPos wr (M + 1))
  case atStart => exact ⟨_, _, _, HS1⟩
  case round =>
    clear HS1
    obtain ⟨r, σk, k, HS⟩ := hrel
    have HPo : Hid (rdPos wr (M + 1) = σk.pos) := HS.out.aft.rd.posEq
    cases hi : isNext L [38] σk with
    | true =>
      have cT := takes_yes HL.out [38] (by decide) hi wr HS.out.aft.rd
      have hno := next_of_is HL.out HS.out.aft.rd.ok (by decide) hi
      have hk1 : ∃ k', k = k' + 1 := ⟨k - 1, by
        have h1 := HS.out.fuel
        have h2 : σk.pos + 1 < L.length := hno
        omega⟩
      obtain ⟨k', rfl⟩ := hk1
      have HM : Hid ((whenM L r σk.next).2.mid = false) := by
        have hf := HS.out.fin
        rw [ampM_succ, if_pos hi] at hf
        exact amp_mid (g := whenM L) (fun r σ => when_mid) k' _ _ (by rw [hf]; exact HD.out.2.1)
      have HI : Hid (isNext L [38] σk = true) := hi
      have HUp : Hid (Up L σk.next (whenM L r σk.next).2) := up_when HL.out hno
      have HOk : Hid (RlOk (whenM L r σk.next).1 ((L.length + 1) - (k' + 1) + 1)) := when_ok HS.out.ok HM.out
      clear hi hno
      go_wp2_with fail
      refine cT.mono ?_
      rintro e w2 ⟨rfl, ha2⟩
      have HA2 : Hid (AftR M tvl L (w.heap.size + 1) W σk.next r w2) := HS.out.aft.aft ha2 (by omega) HS.out.aft.gw
      have cS := when_any HL.out HSh.out (by omega) (HS.out.ok.mono (m := 9000) (by omega)) HM.out W w2 HA2.out HA2.out.gw
      clear ha2 cT
      go_wp2_with fail
      refine cS.mono ?_
      rintro e w3 ⟨rfl, ha3⟩
      have HS3 : Hid (ASt L M tvl (w.heap.size + 1) W (r2, σ2) (whenM L) (L.length + 1) (whenM L r σk.next).1 (whenM L r σk.next).2 k' w3) := HS.out.step HI.out HUp.out HOk.out ha3
      clear ha3 cS
      go_wp2
      go_roundw
      case rel => exact ⟨_, _, _, HS3⟩
      case measure =>
        rw [HPo.out, HS3.out.aft.rd.posEq]
        have h1 := HUp.out.1
        have h2 : σk.next.pos = σk.pos + 1 := rfl
        have h3 : (whenM L r σk.next).2.pos < L.length := HUp.out.2
        omega
    | false =>
      have cT := takes_no HL.out [38] (by decide) hi wr HS.out.aft.rd
      have hf : (r2,  σ2) = (r, σk) := by rw [← ampM_stop L (whenM L) k r σk hi]; exact HS.out.fin.symm
      obtain ⟨rfl, rfl⟩ := Prod.mk.inj hf
      have HAk : Hid (AftR M tvl L (w.heap.size + 1) W  σ2 r2 wr) := HS.out.aft
      clear hi hf HS HPo
      go_wp2_with fail
      refine cT.mono ?_
      rintro e wA ⟨rfl, haA⟩
      have HAA : Hid (AftR M tvl L (w.heap.size + 1) W  σ2 r2 wA) := HAk.out.aft haA (by omega) HAk.out.gw
      clear haA cT HAk
      have cE := needs_any HL.out [61, 62] (by decide) wA HAA.out.rd
      rw [E3.out] at cE
      go_wp2_with fail
      refine cE.mono ?_
      rintro e wB ⟨rfl, haB⟩
      have HAB : Hid (AftR M tvl L (w.heap.size + 1) W σ3 r2 wB) := HAA.out.aft haB (by omega) HAA.out.gw
      clear haB cE HAA
      have cN := then_any HL.out HSh.out (by omega) (HK.out.2.1.mono (m := 9000) (by omega)) (by rw [E4.out]; exact HD.out.2.2.2.1) W wB HAB.out HAB.out.gw
      rw [E4.out] at cN
      go_wp2_with fail
      refine cN.mono ?_
      rintro e wC ⟨rfl, haC⟩
      have HS2 : Hid (ASt L M tvl (w.heap.size + 1) W (r5, σ5) (thenM L) (1 + L.length + 1 + L.length) r4 σ4 L.length wC) := ⟨E5.out, by omega, haC, HK.out.2.2.mono (by omega), by omega⟩
      clear haC cN HAB
      go_wp2_with fail
      go_loopw [] (fun wr => ∃ (r : Rl) (σk : St) (k : Nat), Hid (ASt L M tvl (w.heap.size + 1) W (r5, σ5) (thenM L) (1 + L.length + 1 + L.length) r σk k wr)) (fun wr => L.length - rdPos wr (M + 1))
      case atStart => exact ⟨_, _, _, HS2⟩
      case round =>
        clear HS2
        obtain ⟨r, σk, k, HS⟩ := hrel
        have HPo : Hid (rdPos wr (M + 1) = σk.pos) := HS.out.aft.rd.posEq
        cases hi : isNext L [38] σk with
        | true =>
          have cT := takes_yes HL.out [38] (by decide) hi wr HS.out.aft.rd
          have hno := next_of_is HL.out HS.out.aft.rd.ok (by decide) hi
          have hk1 : ∃ k', k = k' + 1 := ⟨k - 1, by
            have h1 := HS.out.fuel
            have h2 : σk.pos + 1 < L.length := hno
            omega⟩
          obtain ⟨k', rfl⟩ := hk1
          have HM : Hid ((thenM L r σk.next).2.mid = false) := by
            have hf := HS.out.fin
            rw [ampM_succ, if_pos hi] at hf
            exact amp_mid (g := thenM L) (fun r σ => then_mid) k' _ _ (by rw [hf]; exact HD.out.2.2.2.2)
          have HI : Hid (isNext L [38] σk = true) := hi
          have HUp : Hid (Up L σk.next (thenM L r σk.next).2) := up_then HL.out hno
          have HOk : Hid (RlOk (thenM L r σk.next).1 ((1 + L.length + 1 + L.length) - (k' + 1) + 1)) := then_ok HS.out.ok HM.out
          clear hi hno
          go_wp2_with fail
          refine cT.mono ?_
          rintro e w2 ⟨rfl, ha2⟩
          have HA2 : Hid (AftR M tvl L (w.heap.size + 1) W σk.next r w2) := HS.out.aft.aft ha2 (by omega) HS.out.aft.gw
          have cS := then_any HL.out HSh.out (by omega) (HS.out.ok.mono (m := 9000) (by omega)) HM.out W w2 HA2.out HA2.out.gw
          clear ha2 cT
          go_wp2_with fail
          refine cS.mono ?_
          rintro e w3 ⟨rfl, ha3⟩
          have HS3 : Hid (ASt L M tvl (w.heap.size + 1) W (r5, σ5) (thenM L) (1 + L.length + 1 + L.length) (thenM L r σk.next).1 (thenM L r σk.next).2 k' w3) := HS.out.step HI.out HUp.out HOk.out ha3
          clear ha3 cS
          go_wp2
          go_roundw
          case rel => exact ⟨_, _, _, HS3⟩
          case measure =>
            rw [HPo.out, HS3.out.aft.rd.posEq]
            have h1 := HUp.out.1
            have h2 : σk.next.pos = σk.pos + 1 := rfl
            have h3 : (thenM L r σk.next).2.pos < L.length := HUp.out.2
            omega
        | false =>
          have cT := takes_no HL.out [38] (by decide) hi wr HS.out.aft.rd
          have hf : (r5,  σ5) = (r, σk) := by rw [← ampM_stop L (thenM L) k r σk hi]; exact HS.out.fin.symm
          obtain ⟨rfl, rfl⟩ := Prod.mk.inj hf
          have HAk : Hid (AftR M tvl L (w.heap.size + 1) W  σ5 r5 wr) := HS.out.aft
          clear hi hf HS HPo
          go_wp2_with fail
          refine cT.mono ?_
          rintro e wA ⟨rfl, haA⟩
          have HAA : Hid (AftR M tvl L (w.heap.size + 1) W  σ5 r5 wA) := HAk.out.aft haA (by omega) HAk.out.gw
          clear haA cT HAk
          obtain ⟨v1, v2, v3, hrowA, hvA⟩ := HAA.out.rl
          obtain ⟨hE1, hE2, hE3⟩ := rule_end hlt hWs HBW.out HAA.out HRs.out v1 v2 v3 hvA
          obtain ⟨sa1, sc1, rfl⟩ := own_shape hvA.o1
          obtain ⟨sa2, sc2, rfl⟩ := own_shape hvA.o2
          obtain ⟨sa3, sc3, rfl⟩ := own_shape hvA.o3
          have HE1 : Hid _ := hE1
          have HE2 : Hid _ := hE2
          obtain ⟨⟨q0, q1, q2⟩, -⟩ := row3 hrowA
          obtain ⟨⟨t0, t1, t2⟩, htl⟩ := row3 hE3
          obtain ⟨f0, f1, f2⟩ := frz3 hE3
          have hgt := heap_lt hrowA
          have HRow : Hid _ := hE3
          clear hE1 hE2 hE3 hvA hrowA
          go_wp2
          refine bodyPost_ret (v := .agg #[.slice sa1 r5.when.length sc1, .slice sa2 r5.guard.length sc2, .slice sa3 r5.thn.length sc3]) ?_ rfl ⟨_, _, _, rfl, HE1.out, HE2.out⟩
          obtain ⟨⟨g0, g1, g2⟩, _⟩ := row3 (set3 (.slice sa1 r5.when.length sc1) (.slice sa2 r5.guard.length sc2) (.slice sa3 r5.thn.length sc3) HRow.out)
          simp [results, Tryz.results48, go_sem, g0, g1, g2]
end Go.Proofs.YtebpapmnkbehnaaGreatDoor
