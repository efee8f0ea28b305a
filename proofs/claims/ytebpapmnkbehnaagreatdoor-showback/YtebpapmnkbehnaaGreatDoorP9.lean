/- What the reader's unary answers, where sum answers as the model's; no conditions but that the reader stands. -/
import Derived.Test.YtebpapmnkbehnaaGreatDoorP8
import Derived.Maps.AppendAt
set_option linter.unusedVariables false
set_option linter.unusedSimpArgs false
namespace Go.Proofs.YtebpapmnkbehnaaGreatDoor
open Go.RowKit Go.Joins

/-- One policy in a new row. -/
theorem own_one (w : World) (x : Nd) (lo : Nat) (hlo : lo ≤ w.heap.size) : (w.alloc (pobj x)).ownsRow lo 29 4 (.slice (some ⟨w.heap.size, 0, none⟩) 1 1) 1 (flat4 [x]) := by
  rw [flat4_one]
  refine ⟨rfl, .inr ⟨w.heap.size, 1, #[.int .i64 x.op, .int .i64 x.f, .int .u16 x.n, x.kv], rfl, hlo, heap_alloc_new w _, Nat.le_refl _, by unfold maxLen; omega, rfl, rfl⟩⟩
theorem pol_not {w : World} {T : Pl} {x : Nd} (lo : Nat) (hlo : lo ≤ w.heap.size) (hp : PolAt (fun b => lo ≤ b) w T x) : PolAt (fun b => lo ≤ b) (w.alloc (pobj x)) (.mk 4 0 0 [T]) ⟨4, 0, 0, .slice (some ⟨w.heap.size, 0, none⟩) 1 1⟩ :=
  pol_of_own (xs := [x]) (P := fun b => lo ≤ b) 4 0 0 (own_one w x lo hlo) (PolsAt.one (hp.below ((Below.refl _ w).alloc (Nat.le_refl _) _))) (fun b h _ => h) (fun b h => h)

theorem not_end {w w2 : World} {T : Pl} {x : Nd} (lo : Nat) (hw : w.heap.size < lo) (hlo : lo ≤ w2.heap.size) (hp : PolAt (fun b => lo ≤ b) w2 T x) (y0 y1 y2 y3 : Value) :
    PolAt (fun b => lo ≤ b) (((((w2.setCell ⟨w.heap.size, 0, none⟩ y0).setCell ⟨w.heap.size, 1, none⟩ y1).setCell ⟨w.heap.size, 2, none⟩ y2).setCell ⟨w.heap.size, 3, none⟩ y3).alloc (pobj x)) (.mk 4 0 0 [T]) ⟨4, 0, 0, .slice (some ⟨w2.heap.size, 0, none⟩) 1 1⟩ := by
  have h := pol_set4 (w := w) hp (by show ¬ lo ≤ w.heap.size; omega) y0 y1 y2 y3
  have e : ((((w2.setCell ⟨w.heap.size, 0, none⟩ y0).setCell ⟨w.heap.size, 1, none⟩ y1).setCell ⟨w.heap.size, 2, none⟩ y2).setCell ⟨w.heap.size, 3, none⟩ y3).heap.size = w2.heap.size := by simp [World.setCell]
  have := pol_not lo (by rw [e]; exact hlo) h
  rw [e] at this
  exact this
theorem unaryM_not {L : List Tk} {S : St → Pl × St} {k : Nat} {σ : St} (h : isNext L [33] σ = true) : unaryM L S (k + 1) σ = (.mk 4 0 0 [(unaryM L S k σ.next).1], (unaryM L S k σ.next).2) := by
  rw [unaryM.eq_2, if_pos h]

set_option maxRecDepth 100000 in
set_option maxHeartbeats 4000000 in
theorem unary_any {L : List Tk} {S : St → Pl × St} (hL : EndL L) (hSh : Short L) (p0 : Nat) (hS : ∀ σ, Ok L σ → p0 < σ.pos → PolC 47 L S σ) : ∀ (k : Nat) (σ : St), Ok L σ → p0 ≤ σ.pos → L.length ≤ σ.pos + k → PolC 84 L (unaryM L S k) σ
  | 0, σ, ho, _, hk => absurd (show σ.pos < L.length from ho) (by omega)
  | k + 1, σ, ho, h0, hk => by
    have HL : Hid (EndL L) := hL
    cases h1 : isNext L [33] σ with
    | true =>
      have HO := next_of_is hL ho (by decide) h1
      obtain ⟨hup, cS⟩ := unary_any hL hSh p0 hS k σ.next HO (by show p0 ≤ σ.pos + 1; omega) (by show L.length ≤ σ.pos + 1 + k; omega)
      unfold PolC
      have e0 := unaryM_not (S := S) (k := k) h1
      obtain ⟨T, σ1, e1⟩ : ∃ T σ1, unaryM L S k σ.next = (T, σ1) := ⟨_, _, rfl⟩
      rw [e1] at e0 hup
      simp only [e1] at cS
      rw [e0]
      refine ⟨(up_next HO).trans hup, fun M tvl w h => ?_⟩
      have hlt := h.lt
      have HA0 : Hid (Aft M tvl L w σ (w.alloc nobj)) := h.aft ((Below.refl _ w).alloc (Nat.le_refl _) _)
      have hrow := heap_alloc_new w nobj
      have cT := takes_yes hL [33] (by decide) h1 _ HA0.out.rd
      clear hS h hL hSh h1 HO e0 e1 hup ho h0 hk
      go_enter Tryz.func84, Tryz.ntmps84
      go_wp2_with fail
      refine cT.mono ?_
      rintro e w1 ⟨rfl, ha⟩
      have HA1 : Hid (Aft M tvl L w σ.next w1) := HA0.out.trans ha
      have hrow1 := ha.row (by omega) hrow
      replace cS := cS M tvl w1 ha.rd
      clear ha hrow cT HA0
      go_wp2_with fail
      refine cS.mono ?_
      rintro e w2 ⟨x, rfl, hp, ha⟩
      obtain ⟨-, -, -, sa, sc, hkv⟩ := hp.shape
      obtain ⟨xo, xf, xn, xk⟩ := x
      dsimp only at hkv
      subst hkv
      generalize T.kids.length = kn at *
      have hl3 := heap_lt hrow1
      have hl4 := ha.kp.size
      have HA2 : Hid (Aft M tvl L w σ1 w2) := HA1.out.trans ha
      have HP2 : Hid (PolAt (fun b => w1.heap.size ≤ b) w2 T ⟨xo, xf, xn, .slice sa kn sc⟩) := hp
      have hrow2 := ha.row (by omega) hrow1
      clear ha hp hrow1 cS HA1
      obtain ⟨q0, q1, q2, q3⟩ := row4 hrow2
      have hl5 := heap_lt hrow2
      obtain ⟨f0, f1, f2, f3⟩ := frz4 hrow2
      go_wp2
      refine bodyPost_ret (v := nv ⟨4, 0, 0, .slice (some ⟨w2.heap.size, 0, none⟩) 1 1⟩) ?_ rfl ⟨_, rfl, (not_end w1.heap.size hl3 hl4 HP2.out _ _ _ _).mono (fun b hb _ => by have hb : w1.heap.size ≤ b := hb; show w.heap.size ≤ b; omega), (aft_set4 HA2.out hlt _ _ _ _).below ((Below.refl _ _).alloc (Nat.le_refl _) _)⟩
      obtain ⟨g0, g1, g2, g3⟩ := row4 (set4 (.int .i64 4) (.int .i64 0) (.int .u16 0) (.slice (some ⟨w2.heap.size, 0, none⟩) 1 1) hrow2)
      simp [results, Tryz.results84, go_sem, g0, g1, g2, g3, hl5]
    | false =>
      obtain ⟨hup, cS⟩ := atom_any hL hSh ho (S := S) (fun h => hS σ.next (next_of_is hL ho (by decide) h) (by show p0 < σ.pos + 1; omega))
      unfold PolC
      have e0 : unaryM L S (k + 1) σ = atomM L S σ := by rw [unaryM.eq_2, if_neg (by rw [h1]; decide)]
      rw [e0]
      obtain ⟨T, σ1, e1⟩ : ∃ T σ1, atomM L S σ = (T, σ1) := ⟨_, _, rfl⟩
      rw [e1] at hup ⊢
      simp only [e1] at cS
      refine ⟨hup, fun M tvl w h => ?_⟩
      have hlt := h.lt
      have HA0 : Hid (Aft M tvl L w σ (w.alloc nobj)) := h.aft ((Below.refl _ w).alloc (Nat.le_refl _) _)
      have hrow := heap_alloc_new w nobj
      have cT := takes_no hL [33] (by decide) h1 _ HA0.out.rd
      clear hS h hL hSh h1 e0 e1 hup ho h0 hk
      go_enter Tryz.func84, Tryz.ntmps84
      go_wp2_with fail
      refine cT.mono ?_
      rintro e w1 ⟨rfl, ha⟩
      have HA1 : Hid (Aft M tvl L w σ w1) := HA0.out.trans ha
      have hrow1 := ha.row (by omega) hrow
      replace cS := cS M tvl w1 ha.rd
      clear ha hrow cT HA0
      go_wp2_with fail
      refine cS.mono ?_
      rintro e w2 ⟨x, rfl, hp, ha⟩
      obtain ⟨-, -, -, sa, sc, hkv⟩ := hp.shape
      obtain ⟨xo, xf, xn, xk⟩ := x
      dsimp only at hkv
      subst hkv
      generalize T.kids.length = kn at *
      have hl3 := heap_lt hrow1
      have HA2 : Hid (Aft M tvl L w σ1 w2) := HA1.out.trans ha
      have HP2 : Hid (PolAt (fun b => w1.heap.size ≤ b) w2 T ⟨xo, xf, xn, .slice sa kn sc⟩) := hp
      have hrow2 := ha.row (by omega) hrow1
      clear ha hp hrow1 cS HA1
      obtain ⟨q0, q1, q2, q3⟩ := row4 hrow2
      have hl5 := heap_lt hrow2
      obtain ⟨f0, f1, f2, f3⟩ := frz4 hrow2
      go_wp2
      refine bodyPost_ret (v := nv ⟨xo, xf, xn, .slice sa kn sc⟩) ?_ rfl ⟨_, rfl, (pol_set4 HP2.out (by show ¬ w1.heap.size ≤ w.heap.size; omega) _ _ _ _).mono (fun b hb _ => by have hb : w1.heap.size ≤ b := hb; show w.heap.size ≤ b; omega), aft_set4 HA2.out hlt _ _ _ _⟩
      obtain ⟨g0, g1, g2, g3⟩ := row4 (set4 (.int .i64 xo) (.int .i64 xf) (.int .u16 xn) (.slice sa kn sc) hrow2)
      simp [results, Tryz.results84, go_sem, g0, g1, g2, g3]
end Go.Proofs.YtebpapmnkbehnaaGreatDoor
/- What the reader's seq answers, where unary answers as the model's; no conditions but that the reader stands. -/
set_option linter.unusedVariables false
set_option linter.unusedSimpArgs false
namespace Go.Proofs.YtebpapmnkbehnaaGreatDoor
open Go.RowKit Go.Joins

theorem info29 : (Tryz.prog.info? 29).map (fun i => (i.zero, i.size, i.bytes)) = some (some (nv ⟨0, 0, 0, .slice none 0 0⟩), 4, 48) := by kernel_rfl
/-- Where the reader stands, off memory. -/
def rdPos (w : World) (g : Nat) : Nat := match w.cell? ⟨g, 1, none⟩ with
  | some (.int _ z) => z.toNat
  | _ => 0
theorem Rd.posEq {M : Nat} {tvl : Value} {L : List Tk} {σ : St} {w : World} (h : Rd M tvl L σ w) : rdPos w (M + 1) = σ.pos := by
  unfold rdPos
  rw [h.cells.2.1]
  simp
theorem manyM_succ (L : List Tk) (sign : List UInt8) (g : St → Pl × St) (k : Nat) (acc : List Pl) (σ : St) : manyM L sign g (k + 1) acc σ = if isNext L sign σ then manyM L sign g k (acc ++ [(g σ.next).1]) (g σ.next).2 else (acc, σ) := rfl
theorem manyM_stop (L : List Tk) (sign : List UInt8) (g : St → Pl × St) (k : Nat) (acc : List Pl) (σ : St) (h : isNext L sign σ = false) : manyM L sign g k acc σ = (acc, σ) := by
  cases k with
  | zero => rfl
  | succ k => rw [manyM_succ, if_neg (by rw [h]; decide)]
theorem up_many {L : List Tk} (hL : EndL L) {sign : List UInt8} (hs : sign ≠ []) {g : St → Pl × St} (p0 : Nat) (hg : ∀ σ, Ok L σ → p0 ≤ σ.pos → Up L σ (g σ).2) : ∀ (k : Nat) (acc : List Pl) (σ : St), Ok L σ → p0 ≤ σ.pos → Up L σ (manyM L sign g k acc σ).2
  | 0, acc, σ, ho, _ => ⟨Nat.le_refl _, ho⟩
  | k + 1, acc, σ, ho, h0 => by
    rw [manyM_succ]
    split
    · have hn := next_of_is hL ho hs ‹_›
      have h1 := hg σ.next hn (by show p0 ≤ σ.pos + 1; omega)
      have h2 := h1.1
      have h3 : σ.next.pos = σ.pos + 1 := rfl
      exact ((up_next hn).trans h1).trans (up_many hL hs p0 hg k _ _ h1.2 (by omega))
    · exact ⟨Nat.le_refl _, ho⟩
/-- What stands while a list of kids is read. -/
structure KSt (L : List Tk) (M : Nat) (tvl : Value) (w : World) (fin : List Pl × St) (sign : List UInt8) (g : St → Pl × St) (p0 : Nat) (acc : List Pl) (xs : List Nd) (σ : St) (k : Nat) (v : Value) (wr : World) : Prop where
  fin : manyM L sign g k acc σ = fin
  fuel : L.length ≤ σ.pos + k
  up : p0 ≤ σ.pos
  own : wr.ownsRow (w.heap.size + 1) 29 4 v xs.length (flat4 xs)
  pols : PolsAt (fun b => w.heap.size + 1 ≤ b ∧ some b ≠ v.ownBlock) wr acc xs
  aft : Aft M tvl L w σ wr
  row : wr.heap[w.heap.size]? = some nobj
  few : xs.length ≤ σ.pos + 1
  ne : xs ≠ []
theorem cell_new4 (w : World) (x : Nd) (g : Nat) (hg : w.heap.size = g) : ∀ j u, (enc4 x)[j]? = some u → (w.alloc (pobj x)).cell? ((⟨g, 0, none⟩ : Addr).add j) = some u := by
  subst hg
  exact cell_new3 w (enc4 x) 29
/-- One kid more. -/
theorem KSt.app {L : List Tk} {M : Nat} {tvl : Value} {w : World} {fin : List Pl × St} {sign : List UInt8} {g : St → Pl × St} {p0 : Nat} {acc : List Pl} {xs : List Nd} {σ : St} {k : Nat} {v v' : Value} {wr w2 w3 w4 : World} {x : Nd}
    (h : KSt L M tvl w fin sign g p0 acc xs σ (k + 1) v wr) (hi : isNext L sign σ = true) (hw : M + 1 < w.heap.size)
    (h2 : Aft M tvl L wr σ.next w2) (h3 : Aft M tvl L w2 (g σ.next).2 w3) (hp : PolAt (fun b => w2.heap.size ≤ b) w3 (g σ.next).1 x) (hup : Up L σ.next (g σ.next).2)
    (ho : w4.ownsRow (w.heap.size + 1) 29 4 v' (xs.length + 1) (flat4 xs ++ enc4 x)) (hgr : (w3.alloc (pobj x)).grownBy w4 v.ownBlock) (hloc : v'.ownBlock = v.ownBlock ∨ v'.ownBlock = some (w3.alloc (pobj x)).heap.size) :
    KSt L M tvl w fin sign g p0 (acc ++ [(g σ.next).1]) (xs ++ [x]) (g σ.next).2 k v' w4 := by
  have s1 := h.aft.kp.size
  have s0 := heap_lt h.row
  have s2 := h2.kp.size
  have s3 := h3.kp.size
  have hpos : σ.next.pos = σ.pos + 1 := rfl
  have hu := hup.1
  have hvlt : ∀ j, v.ownBlock = some j → w.heap.size + 1 ≤ j ∧ j < wr.heap.size := fun j hj => h.own.lt j hj
  have sa : (w3.alloc (pobj x)).heap.size = w3.heap.size + 1 := by simp
  have kb : ∀ b, b < w3.heap.size → some b ≠ v.ownBlock → w4.heap[b]? = w3.heap[b]? := fun b hb hn => (hgr.block b (by omega) hn).trans (Below.heap_alloc _ _ _ hb)
  have hsz4 : w3.heap.size ≤ w4.heap.size := Nat.le_trans (by omega) hgr.size
  have hnew : ∀ b, b < w3.heap.size → some b ≠ v.ownBlock → some b ≠ v'.ownBlock := by
    intro b hb hn
    rcases hloc with e | e
    · rw [e]; exact hn
    · rw [e, sa]; simp; omega
  refine ⟨?_, ?_, ?_, ?_, ?_, ?_, ?_, ?_, by simp⟩
  · have := h.fin
    rw [manyM_succ, if_pos hi] at this
    exact this
  · have := h.fuel; omega
  · have := h.up; omega
  · rw [List.length_append, flat4_append, flat4_one]; exact ho
  · refine PolsAt.snoc ?_ ?_
    · refine PolsAt.keep (w := wr) h.pols (by omega) fun b hb hlt => ?_
      obtain ⟨hb1, hb2⟩ := hb
      refine ⟨⟨hb1, hnew b (by omega) hb2⟩, ?_⟩
      rw [kb b (by omega) hb2, h3.kp.block b (by omega) (by omega) (by omega), h2.kp.block b (by omega) (by omega) (by omega)]
    · refine PolAt.keep hsz4 (fun b hb hlt => ?_) _ _ hp
      have hb' : w2.heap.size ≤ b := hb
      have hne : some b ≠ v.ownBlock := fun e => by have := (hvlt b e.symm).2; omega
      exact ⟨⟨by omega, hnew b hlt hne⟩, kb b hlt hne⟩
  · have ha := (h.aft.trans h2).trans h3
    have hM := ha.rd.lt
    have hnb : ∀ b, b ≤ w.heap.size → some b ≠ v.ownBlock := fun b hb e => by have := (hvlt b e.symm).1; omega
    exact ⟨ha.rd.low ⟨by rw [hgr.os]; rfl, by rw [hgr.tape]; rfl, by rw [hgr.output]; rfl, hsz4, fun b hb => kb b (by omega) (hnb b (by omega))⟩, ⟨by rw [hgr.os]; exact ha.kp.os, by rw [hgr.tape]; exact ha.kp.tape, by rw [hgr.output]; exact ha.kp.output, Nat.le_trans ha.kp.size hsz4, fun b hb h1 h2 => (kb b (by omega) (hnb b (by omega))).trans (ha.kp.block b hb h1 h2)⟩⟩
  · rw [kb _ (by omega) (fun e => by have := (hvlt _ e.symm).1; omega), h3.kp.block _ (by omega) (by omega) (by omega), h2.kp.block _ (by omega) (by omega) (by omega)]
    exact h.row
  · rw [List.length_append, List.length_singleton]; have := h.few; omega

set_option maxRecDepth 100000 in
set_option maxHeartbeats 4000000 in
theorem seq_any {L : List Tk} {σ : St} {U : St → Pl × St} (hL : EndL L) (ho : Ok L σ) (hU : ∀ σ', Ok L σ' → σ.pos ≤ σ'.pos → PolC 84 L U σ') : PolC 66 L (listM L [59] 6 U) σ := by
  have HL : Hid (EndL L) := hL
  have HU : Hid (∀ σ', Ok L σ' → σ.pos ≤ σ'.pos → PolC 84 L U σ') := hU
  obtain ⟨hup, cS⟩ := hU σ ho (Nat.le_refl _)
  unfold PolC listM
  obtain ⟨T, σ1, e1⟩ : ∃ T σ1, U σ = (T, σ1) := ⟨_, _, rfl⟩
  rw [e1] at hup ⊢
  simp only [e1] at cS ⊢
  obtain ⟨fin, ef⟩ : ∃ fin, manyM L [59] U L.length [T] σ1 = fin := ⟨_, rfl⟩
  have hup2 := up_many hL (sign := [59]) (by decide) σ.pos (fun σ' h1 h2 => (hU σ' h1 h2).1) L.length [T] σ1 hup.2 hup.1
  rw [ef] at hup2 ⊢
  have EF : Hid (manyM L [59] U L.length [T] σ1 = fin) := ef
  refine ⟨hup.trans hup2, fun M tvl w h => ?_⟩
  have hlt := h.lt
  have HA0 : Hid (Aft M tvl L w σ (w.alloc nobj)) := h.aft ((Below.refl _ w).alloc (Nat.le_refl _) _)
  have hrow := heap_alloc_new w nobj
  replace cS := cS M tvl _ HA0.out.rd
  have HUP : Hid (Up L σ σ1) := hup
  clear h hL e1 hup hup2 ho hU ef
  obtain ⟨i0, hi, hz0, hz1, hz2⟩ := info_parts info29
  go_enter Tryz.func66, Tryz.ntmps66
  go_wp2_with fail
  refine cS.mono ?_
  rintro e w1 ⟨x, rfl, hp, ha⟩
  obtain ⟨-, -, -, sa, sc, hkv⟩ := hp.shape
  obtain ⟨xo, xf, xn, xk⟩ := x
  dsimp only at hkv
  subst hkv
  generalize T.kids.length = kn at *
  have hws : w.heap.size + 1 ≤ w1.heap.size := by have := ha.kp.size; simpa using this
  have HK : Hid (KSt L M tvl w fin [59] U σ.pos [T] [⟨xo, xf, xn, .slice sa kn sc⟩] σ1 L.length (.slice (some ⟨w1.heap.size, 0, none⟩) 1 1) (w1.alloc (pobj ⟨xo, xf, xn, .slice sa kn sc⟩))) := by
    have hb := (Below.refl _ w1).alloc (Nat.le_refl _) (pobj ⟨xo, xf, xn, .slice sa kn sc⟩)
    refine ⟨EF.out, by omega, HUP.out.1, own_one w1 _ _ hws, PolsAt.one ?_, (HA0.out.trans ha).below hb, (hb.block _ (by omega)).trans (ha.row (by omega) hrow), by simp, by simp⟩
    refine PolAt.keep hb.size (fun b h1 h2 => ⟨⟨?_, ?_⟩, hb.block b h2⟩) _ _ hp
    · have h1 : (w.alloc nobj).heap.size ≤ b := h1
      simpa using h1
    · simp [Value.ownBlock]; omega
  clear ha hp cS hrow HA0 EF HUP
  go_wp2_with fail
  go_loopw [3] (fun v wr => ∃ (acc : List Pl) (xs : List Nd) (σk : St) (k : Nat), Hid (KSt L M tvl w fin [59] U σ.pos acc xs σk k v wr)) (fun _ wr => L.length - rdPos wr (M + 1))
  case atStart => exact ⟨_, _, _, _, HK⟩
  case round =>
    clear HK
    obtain ⟨acc, xs, σk, k, HK⟩ := hrel
    have hpos := HK.out.aft.rd.posEq
    have HPo : Hid (rdPos wr (M + 1) = σk.pos) := hpos
    clear hpos
    have hxl : xs.length ≤ 5001 := by
      have h1 := HK.out.few
      have h2 : σk.pos < L.length := HK.out.aft.rd.ok
      have h3 := HL.out.few
      omega
    cases hi : isNext L [59] σk with
    | true =>
      have cT := takes_yes HL.out [59] (by decide) hi wr HK.out.aft.rd
      have hno := next_of_is HL.out HK.out.aft.rd.ok (by decide) hi
      obtain ⟨hup, cS⟩ := HU.out σk.next hno (by have := HK.out.up; show σ.pos ≤ σk.pos + 1; omega)
      have HI : Hid (isNext L [59] σk = true) := hi
      have HUp : Hid (Up L σk.next (U σk.next).2) := hup
      have hk1 : ∃ k', k = k' + 1 := ⟨k - 1, by
        have h1 := HK.out.fuel
        have h2 : σk.pos + 1 < L.length := hno
        omega⟩
      obtain ⟨k', rfl⟩ := hk1
      clear hi hup hno
      go_wp2_with fail
      refine cT.mono ?_
      rintro e w2 ⟨rfl, ha2⟩
      have HA2 : Hid (Aft M tvl L wr σk.next w2) := ha2
      replace cS := cS M tvl w2 ha2.rd
      clear ha2 cT
      go_wp2_with fail
      refine cS.mono ?_
      rintro e w3 ⟨x, rfl, hp, ha3⟩
      have hx1 := hp.one
      obtain ⟨-, -, -, sa2, sc2, hkv⟩ := hp.shape
      obtain ⟨xo2, xf2, xn2, xk2⟩ := x
      dsimp only at hkv hx1
      subst hkv
      have HA3 : Hid (Aft M tvl L w2 (U σk.next).2 w3) := ha3
      have HP3 : Hid (PolAt (fun b => w2.heap.size ≤ b) w3 (U σk.next).1 ⟨xo2, xf2, xn2, .slice sa2 (U σk.next).1.kids.length sc2⟩) := hp
      generalize (U σk.next).1.kids.length = kn2 at *
      have hown3 := ha3.kp.own (lo := w.heap.size + 1) (by omega) (HA2.out.kp.own (by omega) HK.out.own)
      have hws3 : w.heap.size + 1 ≤ w3.heap.size := by have := ha3.kp.size; have := HA2.out.kp.size; have := heap_lt HK.out.row; omega
      clear ha3 hp cS
      go_wp2_with (at_builtin; refine wpList_append_own_at _ rfl _ _ 27 rfl (w.heap.size + 1) 29 i0 (nv ⟨0, 0, 0, .slice none 0 0⟩) 4 48 Tryz.underlying27 hi hz0 hz1 hz2 rfl (by decide) u3 _ _ rfl (hown3.alloc _) ⟨w3.heap.size, 0, none⟩ 1 1 (enc4 ⟨xo2, xf2, xn2, .slice sa2 kn2 sc2⟩) rfl rfl (cell_new4 _ _ _ rfl) (enc4_one _ hx1) (by unfold maxLen; omega) (by omega) (by simp; omega) ?_; intro v4 w4 hown4 hgrow4 hnil4 hloc4)
      have HK4 := HK.out.app HI.out hlt HA2.out HA3.out HP3.out HUp.out hown4 hgrow4 hloc4
      have HK4 : Hid (KSt L M tvl w fin [59] U σ.pos (acc ++ [(U σk.next).1]) (xs ++ [⟨xo2, xf2, xn2, .slice sa2 kn2 sc2⟩]) (U σk.next).2 k' v4 w4) := HK4
      clear hown4 hgrow4 hnil4 hloc4
      go_wp2
      go_roundw
      case rel => exact ⟨_, _, _, _, HK4⟩
      case measure =>
        rw [HPo.out, HK4.out.aft.rd.posEq]
        have h1 := HUp.out.1
        have h2 : σk.next.pos = σk.pos + 1 := rfl
        have h3 : (U σk.next).2.pos < L.length := HUp.out.2
        omega
    | false =>
      have cT := takes_no HL.out [59] (by decide) hi wr HK.out.aft.rd
      have HF : Hid (fin = (acc, σk)) := by show _ = _; rw [← HK.out.fin, manyM_stop _ _ _ _ _ _ hi]
      clear hi
      go_wp2_with fail
      refine cT.mono ?_
      rintro e w2 ⟨rfl, ha2⟩
      have HA2 : Hid (Aft M tvl L w σk w2) := HK.out.aft.trans ha2
      have hown2 := ha2.kp.own (lo := w.heap.size + 1) (by omega) HK.out.own
      have hrow2 := ha2.row (by omega) HK.out.row
      have cJ := joined_any (P := fun b => w.heap.size + 1 ≤ b ∧ some b ≠ u3.ownBlock) (Q := fun b => w.heap.size + 1 ≤ b) (fun b h => h.1) (fun b h => h) 6 acc xs u3 HK.out.ne w2 hown2 (HK.out.pols.keep ha2.kp.size (fun b hb hl => ⟨hb, ha2.kp.block b hl (by have := hb.1; omega) (by have := hb.1; omega)⟩)) (by omega)
      clear ha2 cT
      go_wp2_with fail
      refine cJ.mono ?_
      rintro e w3 ⟨x, rfl, hp, hb3⟩
      obtain ⟨-, -, -, sa2, sc2, hkv⟩ := hp.shape
      obtain ⟨xo2, xf2, xn2, xk2⟩ := x
      dsimp only at hkv
      subst hkv
      generalize (joinedM 6 acc).kids.length = kn2 at *
      have HP3 : Hid (PolAt (fun b => w.heap.size + 1 ≤ b) w3 (joinedM 6 acc) ⟨xo2, xf2, xn2, .slice sa2 kn2 sc2⟩) := hp
      have HA3 : Hid (Aft M tvl L w σk w3) := HA2.out.below hb3
      have hrow3 := (hb3.block _ (heap_lt hrow2)).trans hrow2
      clear hp hb3 cJ hrow2
      obtain ⟨q0, q1, q2, q3⟩ := row4 hrow3
      have hl5 := heap_lt hrow3
      obtain ⟨f0, f1, f2, f3⟩ := frz4 hrow3
      go_wp2
      refine bodyPost_ret (v := nv ⟨xo2, xf2, xn2, .slice sa2 kn2 sc2⟩) ?_ rfl ⟨_, rfl, ?_, by rw [HF.out]; exact aft_set4 HA3.out hlt _ _ _ _⟩
      · obtain ⟨g0, g1, g2, g3⟩ := row4 (set4 (.int .i64 xo2) (.int .i64 xf2) (.int .u16 xn2) (.slice sa2 kn2 sc2) hrow3)
        simp [results, Tryz.results66, go_sem, g0, g1, g2, g3]
      · rw [HF.out]
        exact (pol_set4 HP3.out (by show ¬ w.heap.size + 1 ≤ w.heap.size; omega) _ _ _ _).mono (fun b hb _ => by have hb : w.heap.size + 1 ≤ b := hb; show w.heap.size ≤ b; omega)
end Go.Proofs.YtebpapmnkbehnaaGreatDoor
