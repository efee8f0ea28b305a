/- What the reader's start answers: the numbers behind init; no conditions but that the reader stands. -/
import Derived.Test.YtebpapmnkbehnaaGreatDoorP9
set_option linter.unusedVariables false
set_option linter.unusedSimpArgs false
namespace Go.Proofs.YtebpapmnkbehnaaGreatDoor
open Go.RowKit Go.Joins

theorem info26u : (Tryz.prog.info? 26).map (fun i => (i.zero, i.size, i.bytes)) = some (some (.int .u16 0), 1, 2) := by kernel_rfl
/-- Numbers as cells. -/
def nums (l : List Nat) : List Value := l.map fun (n : Nat) => .int .u16 (n : Int)
theorem nums_app (a b : List Nat) : nums (a ++ b) = nums a ++ nums b := by simp [nums]
abbrev uobj (n : Nat) : Obj := .cells #[.int .u16 (n : Int)] 26
theorem numsM_succ (L : List Tk) (k : Nat) (l : List Nat) (σ : St) : numsM L (k + 1) l σ = if isNum L σ then numsM L k (l ++ [(tokAt L σ).n]) σ.next else (l, σ) := rfl
theorem numsM_stop (L : List Tk) (k : Nat) (l : List Nat) (σ : St) (h : isNum L σ = false) : numsM L k l σ = (l, σ) := by
  cases k with
  | zero => rfl
  | succ k => rw [numsM_succ, if_neg (by rw [h]; decide)]
/-- What stands while numbers are read. -/
structure NSt (L : List Tk) (M : Nat) (tvl : Value) (w : World) (fin : List Nat × St) (l : List Nat) (σ : St) (k : Nat) (v : Value) (wr : World) : Prop where
  fin : numsM L k l σ = fin
  fuel : L.length ≤ σ.pos + k
  own : wr.ownsRow w.heap.size 26 1 v l.length (nums l)
  aft : Aft M tvl L w σ wr
  few : l.length + k ≤ L.length + 1
theorem own_num (w : World) (n : Nat) (lo : Nat) (hlo : lo ≤ w.heap.size) : (w.alloc (uobj n)).ownsRow lo 26 1 (.slice (some ⟨w.heap.size, 0, none⟩) 1 1) 1 (nums [n]) :=
  ⟨rfl, .inr ⟨w.heap.size, 1, #[.int .u16 (n : Int)], rfl, hlo, heap_alloc_new w _, Nat.le_refl _, by unfold maxLen; omega, rfl, rfl⟩⟩
theorem cell_new1 (w : World) (n : Nat) (g : Nat) (hg : w.heap.size = g) : ∀ j u, (nums [n])[j]? = some u → (w.alloc (uobj n)).cell? ((⟨g, 0, none⟩ : Addr).add j) = some u := by
  subst hg
  exact cell_new3 w (nums [n]) 26
theorem nums_one (n : Nat) : ∀ u ∈ nums [n], u.oneCell' = true := by
  intro u hu
  simp [nums] at hu
  subst hu; rfl
/-- One number more. -/
theorem NSt.app {L : List Tk} {M : Nat} {tvl : Value} {w : World} {fin : List Nat × St} {l : List Nat} {σ : St} {k : Nat} {v v' : Value} {wr w3 w4 : World}
    (h : NSt L M tvl w fin l σ (k + 1) v wr) (hi : isNum L σ = true) (hw : M + 1 < w.heap.size) (h3 : Aft M tvl L wr σ.next w3)
    (ho : w4.ownsRow w.heap.size 26 1 v' (l.length + 1) (nums l ++ nums [(tokAt L σ).n])) (hgr : (w3.alloc (uobj (tokAt L σ).n)).grownBy w4 v.ownBlock) :
    NSt L M tvl w fin (l ++ [(tokAt L σ).n]) σ.next k v' w4 := by
  have s1 := h.aft.kp.size
  have s3 := h3.kp.size
  have hvlt : ∀ j, v.ownBlock = some j → w.heap.size ≤ j ∧ j < wr.heap.size := fun j hj => h.own.lt j hj
  have sa : (w3.alloc (uobj (tokAt L σ).n)).heap.size = w3.heap.size + 1 := by simp
  have kb : ∀ b, b < w3.heap.size → some b ≠ v.ownBlock → w4.heap[b]? = w3.heap[b]? := fun b hb hn => (hgr.block b (by omega) hn).trans (Below.heap_alloc _ _ _ hb)
  have hsz4 : w3.heap.size ≤ w4.heap.size := Nat.le_trans (by omega) hgr.size
  have hf := h.fin
  rw [numsM_succ, if_pos hi] at hf
  have hfu := h.fuel
  have hfe := h.few
  have hpos : σ.next.pos = σ.pos + 1 := rfl
  refine ⟨hf, by omega, by rw [List.length_append, nums_app]; exact ho, ?_, by rw [List.length_append, List.length_singleton]; omega⟩
  have ha := h.aft.trans h3
  have hM := ha.rd.lt
  have hnb : ∀ b, b < w.heap.size → some b ≠ v.ownBlock := fun b hb e => by have := (hvlt b e.symm).1; omega
  exact ⟨ha.rd.low ⟨by rw [hgr.os]; rfl, by rw [hgr.tape]; rfl, by rw [hgr.output]; rfl, hsz4, fun b hb => kb b (by omega) (hnb b (by omega))⟩, ⟨by rw [hgr.os]; exact ha.kp.os, by rw [hgr.tape]; exact ha.kp.tape, by rw [hgr.output]; exact ha.kp.output, Nat.le_trans ha.kp.size hsz4, fun b hb h1 h2 => (kb b (by omega) (hnb b (by omega))).trans (ha.kp.block b hb h1 h2)⟩⟩
theorem up_nums {L : List Tk} (hL : EndL L) : ∀ (k : Nat) (l : List Nat) (σ : St), Ok L σ → Up L σ (numsM L k l σ).2
  | 0, l, σ, h => ⟨Nat.le_refl _, h⟩
  | k + 1, l, σ, h => by
    rw [numsM_succ]
    split
    · have h1 := next_of_num hL h ‹_›
      exact (up_next h1).trans (up_nums hL k _ _ h1)
    · exact ⟨Nat.le_refl _, h⟩
theorem nums_len (L : List Tk) : ∀ (k : Nat) (l : List Nat) (σ : St), (numsM L k l σ).1.length ≤ l.length + k
  | 0, l, σ => by simp [numsM]
  | k + 1, l, σ => by
    rw [numsM_succ]
    split
    · have := nums_len L k (l ++ [(tokAt L σ).n]) σ.next
      rw [List.length_append, List.length_singleton] at this
      omega
    · simp

set_option maxRecDepth 100000 in
set_option maxHeartbeats 4000000 in
theorem start_any {M : Nat} {tvl : Value} {L : List Tk} {σ : St} (hL : EndL L) (w : World) (h : Rd M tvl L σ w) :
    Calls Tryz.prog 43 #[rp M] w fun e w' => ∃ v, e = .returned v ∧ w'.ownsRow w.heap.size 26 1 v (startM L σ).1.length (nums (startM L σ).1) ∧ Aft M tvl L w (startM L σ).2 w' := by
  have HL : Hid (EndL L) := hL
  have hlt := h.lt
  have hf := hL.few
  have cI := needs_any hL [105, 110, 105, 116] (by decide) w h
  unfold startM
  obtain ⟨σ1, e1⟩ : ∃ b, needsM L [105, 110, 105, 116] σ = b := ⟨_, rfl⟩
  rw [e1] at cI ⊢
  obtain ⟨a, σ2, e2⟩ : ∃ a b, numberM L σ1 = (a, b) := ⟨_, _, rfl⟩
  rw [e2]
  dsimp only
  obtain ⟨fl2, σ3, e3⟩ : ∃ c b, numsM L L.length [a] σ2 = (c, b) := ⟨_, _, rfl⟩
  rw [e3]
  dsimp only
  have E2 : Hid (numberM L σ1 = (a, σ2)) := e2
  have E3 : Hid (numsM L L.length [a] σ2 = (fl2, σ3)) := e3
  clear h hL e1 e2 e3
  obtain ⟨i0, hi, hz0, hz1, hz2⟩ := info_parts info26u
  go_enter Tryz.func43, Tryz.ntmps43
  go_wp2_with fail
  refine cI.mono ?_
  rintro e w1 ⟨rfl, ha1⟩
  have HA1 : Hid (Aft M tvl L w σ1 w1) := ha1
  have cN := number_any5 HL.out w1 ha1.rd
  rw [E2.out] at cN
  clear ha1 cI
  go_wp2_with fail
  refine cN.mono ?_
  rintro e w2 ⟨rfl, ha2⟩
  have HA2 : Hid (Aft M tvl L w σ2 w2) := HA1.out.trans ha2
  have HS : Hid (NSt L M tvl w (fl2, σ3) [a] σ2 L.length (.slice (some ⟨w2.heap.size, 0, none⟩) 1 1) (w2.alloc (uobj a))) := ⟨E3.out, by omega, own_num w2 a _ HA2.out.kp.size, HA2.out.below ((Below.refl _ w2).alloc (Nat.le_refl _) _), by simp; omega⟩
  clear ha2 cN HA1 HA2
  go_wp2_with fail
  go_loopw [3] (fun v wr => ∃ (l : List Nat) (σk : St) (k : Nat), Hid (NSt L M tvl w (fl2, σ3) l σk k v wr)) (fun _ wr => L.length - rdPos wr (M + 1))
  case atStart => exact ⟨_, _, _, HS⟩
  case round =>
    clear HS
    obtain ⟨l, σk, k, HS⟩ := hrel
    have HPo : Hid (rdPos wr (M + 1) = σk.pos) := HS.out.aft.rd.posEq
    have cT := token_any HL.out wr HS.out.aft.rd
    have F0 := fld0 (tokAt L σk)
    have hll : l.length ≤ 5000 := by have := HS.out.few; omega
    cases hin : isNum L σk with
    | true =>
      have d : ((tokAt L σk).kind == 2) = true := by have := of_decide_eq_true hin; rw [this]; rfl
      have hno := next_of_num HL.out HS.out.aft.rd.ok hin
      have hk1 : ∃ k', k = k' + 1 := ⟨k - 1, by
        have h1 := HS.out.fuel
        have h2 : σk.pos + 1 < L.length := hno
        omega⟩
      obtain ⟨k', rfl⟩ := hk1
      have HI : Hid (isNum L σk = true) := hin
      have HN : Hid (numberM L σk = ((tokAt L σk).n, σk.next)) := by show _ = _; unfold numberM; rw [if_pos hin]
      have HNo : Hid (Ok L σk.next) := hno
      clear hin hno
      obtain ⟨t, et⟩ : ∃ t, tokAt L σk = t := ⟨_, rfl⟩
      rw [et] at cT F0 d HN
      have ET : Hid (tokAt L σk = t) := et
      clear et
      go_wp2_with fail
      refine cT.mono ?_
      rintro e w3 ⟨rfl, hb3⟩
      have cN := number_any5 HL.out w3 (HS.out.aft.rd.below hb3)
      rw [HN.out] at cN
      have HA3 : Hid (Aft M tvl L wr σk w3) := HS.out.aft.rd.aft hb3
      clear hb3 cT
      go_wp2_with fail
      refine cN.mono ?_
      rintro e w4 ⟨rfl, ha4⟩
      have HA4 : Hid (Aft M tvl L wr σk.next w4) := HA3.out.trans ha4
      have hown4 := HA4.out.kp.own (lo := w.heap.size) (by omega) HS.out.own
      have hws4 : w.heap.size ≤ w4.heap.size := Nat.le_trans HS.out.aft.kp.size HA4.out.kp.size
      clear ha4 cN HA3
      go_wp2_with (at_builtin; refine wpList_append_own_at _ rfl _ _ 22 rfl w.heap.size 26 i0 (.int .u16 0) 1 2 Tryz.underlying22 hi hz0 hz1 hz2 rfl (by decide) u3 _ _ rfl (hown4.alloc _) ⟨w4.heap.size, 0, none⟩ 1 1 (nums [t.n]) rfl rfl (cell_new1 _ _ _ rfl) (nums_one _) (by unfold maxLen; omega) (by omega) (by simp; omega) ?_; intro v5 w5 hown5 hgrow5 hnil5 hloc5)
      have HS5 : Hid (NSt L M tvl w (fl2, σ3) (l ++ [(tokAt L σk).n]) σk.next k' v5 w5) := HS.out.app HI.out hlt HA4.out (by rw [ET.out]; exact hown5) (by rw [ET.out]; exact hgrow5)
      clear hown5 hgrow5 hnil5 hloc5
      go_wp2
      go_roundw
      case rel => exact ⟨_, _, _, HS5⟩
      case measure =>
        rw [HPo.out, HS5.out.aft.rd.posEq]
        have h2 : σk.next.pos = σk.pos + 1 := rfl
        have h3 : σk.next.pos < L.length := HNo.out
        omega
    | false =>
      have d : ((tokAt L σk).kind == 2) = false := by have := of_decide_eq_false hin; simpa using this
      have hfin : (fl2, σ3) = (l, σk) := by rw [← numsM_stop L k l σk hin]; exact HS.out.fin.symm
      obtain ⟨rfl, rfl⟩ := Prod.mk.inj hfin
      clear hin hfin
      generalize tokAt L σ3 = t at *
      go_wp2_with fail
      refine cT.mono ?_
      rintro e w3 ⟨rfl, hb3⟩
      have HA3 : Hid (Aft M tvl L w σ3 w3) := HS.out.aft.below hb3
      have cE := needs_any HL.out [46] (by decide) w3 HA3.out.rd
      have HO3 : Hid (w3.ownsRow w.heap.size 26 1 u3 fl2.length (nums fl2)) := own_below HS.out.own hb3
      clear hb3 cT
      go_wp2_with fail
      refine cE.mono ?_
      rintro e w4 ⟨rfl, ha4⟩
      have HA4 : Hid (Aft M tvl L w (needsM L [46] σ3) w4) := HA3.out.trans ha4
      have HO4 : Hid (w4.ownsRow w.heap.size 26 1 u3 fl2.length (nums fl2)) := ha4.kp.own (by omega) HO3.out
      clear ha4 cE
      go_wp2
      go_ret
      exact ⟨u3, rfl, HO4.out, HA4.out⟩
end Go.Proofs.YtebpapmnkbehnaaGreatDoor
/- What the reader's sum answers: the model's; no conditions but that the reader stands. -/
set_option linter.unusedVariables false
set_option linter.unusedSimpArgs false
namespace Go.Proofs.YtebpapmnkbehnaaGreatDoor
open Go.RowKit Go.Joins

set_option maxRecDepth 100000 in
set_option maxHeartbeats 4000000 in
theorem sum_step {L : List Tk} {σ : St} {U : St → Pl × St} (hL : EndL L) (ho : Ok L σ) (hU : ∀ σ', Ok L σ' → σ.pos ≤ σ'.pos → PolC 66 L U σ') : PolC 47 L (listM L [43] 7 U) σ := by
  have HL : Hid (EndL L) := hL
  have HU : Hid (∀ σ', Ok L σ' → σ.pos ≤ σ'.pos → PolC 66 L U σ') := hU
  obtain ⟨hup, cS⟩ := hU σ ho (Nat.le_refl _)
  unfold PolC listM
  obtain ⟨T, σ1, e1⟩ : ∃ T σ1, U σ = (T, σ1) := ⟨_, _, rfl⟩
  rw [e1] at hup ⊢
  simp only [e1] at cS ⊢
  obtain ⟨fin, ef⟩ : ∃ fin, manyM L [43] U L.length [T] σ1 = fin := ⟨_, rfl⟩
  have hup2 := up_many hL (sign := [43]) (by decide) σ.pos (fun σ' h1 h2 => (hU σ' h1 h2).1) L.length [T] σ1 hup.2 hup.1
  rw [ef] at hup2 ⊢
  have EF : Hid (manyM L [43] U L.length [T] σ1 = fin) := ef
  refine ⟨hup.trans hup2, fun M tvl w h => ?_⟩
  have hlt := h.lt
  have HA0 : Hid (Aft M tvl L w σ (w.alloc nobj)) := h.aft ((Below.refl _ w).alloc (Nat.le_refl _) _)
  have hrow := heap_alloc_new w nobj
  replace cS := cS M tvl _ HA0.out.rd
  have HUP : Hid (Up L σ σ1) := hup
  clear h hL e1 hup hup2 ho hU ef
  obtain ⟨i0, hi, hz0, hz1, hz2⟩ := info_parts info29
  go_enter Tryz.func47, Tryz.ntmps47
  go_wp2_with fail
  refine cS.mono ?_
  rintro e w1 ⟨x, rfl, hp, ha⟩
  obtain ⟨-, -, -, sa, sc, hkv⟩ := hp.shape
  obtain ⟨xo, xf, xn, xk⟩ := x
  dsimp only at hkv
  subst hkv
  generalize T.kids.length = kn at *
  have hws : w.heap.size + 1 ≤ w1.heap.size := by have := ha.kp.size; simpa using this
  have HK : Hid (KSt L M tvl w fin [43] U σ.pos [T] [⟨xo, xf, xn, .slice sa kn sc⟩] σ1 L.length (.slice (some ⟨w1.heap.size, 0, none⟩) 1 1) (w1.alloc (pobj ⟨xo, xf, xn, .slice sa kn sc⟩))) := by
    have hb := (Below.refl _ w1).alloc (Nat.le_refl _) (pobj ⟨xo, xf, xn, .slice sa kn sc⟩)
    refine ⟨EF.out, by omega, HUP.out.1, own_one w1 _ _ hws, PolsAt.one ?_, (HA0.out.trans ha).below hb, (hb.block _ (by omega)).trans (ha.row (by omega) hrow), by simp, by simp⟩
    refine PolAt.keep hb.size (fun b h1 h2 => ⟨⟨?_, ?_⟩, hb.block b h2⟩) _ _ hp
    · have h1 : (w.alloc nobj).heap.size ≤ b := h1
      simpa using h1
    · simp [Value.ownBlock]; omega
  clear ha hp cS hrow HA0 EF HUP
  go_wp2_with fail
  go_loopw [3] (fun v wr => ∃ (acc : List Pl) (xs : List Nd) (σk : St) (k : Nat), Hid (KSt L M tvl w fin [43] U σ.pos acc xs σk k v wr)) (fun _ wr => L.length - rdPos wr (M + 1))
  case atStart => exact ⟨_, _, _, _, HK⟩
  case round =>
    clear HK
    obtain ⟨acc, xs, σk, k, HK⟩ := hrel
    have hpos := HK.out.aft.rd.posEq
    have HPo : Hid (rdPos wr (M + 1) = σk.pos) := hpos
    clear hpos
    have hxl : xs.length ≤ 5001 := by
      have h1 := HK.out.few
      have h2 : σk.pos < L.length := HK.out.aft.rd.ok
      have h3 := HL.out.few
      omega
    cases hi : isNext L [43] σk with
    | true =>
      have cT := takes_yes HL.out [43] (by decide) hi wr HK.out.aft.rd
      have hno := next_of_is HL.out HK.out.aft.rd.ok (by decide) hi
      obtain ⟨hup, cS⟩ := HU.out σk.next hno (by have := HK.out.up; show σ.pos ≤ σk.pos + 1; omega)
      have HI : Hid (isNext L [43] σk = true) := hi
      have HUp : Hid (Up L σk.next (U σk.next).2) := hup
      have hk1 : ∃ k', k = k' + 1 := ⟨k - 1, by
        have h1 := HK.out.fuel
        have h2 : σk.pos + 1 < L.length := hno
        omega⟩
      obtain ⟨k', rfl⟩ := hk1
      clear hi hup hno
      go_wp2_with fail
      refine cT.mono ?_
      rintro e w2 ⟨rfl, ha2⟩
      have HA2 : Hid (Aft M tvl L wr σk.next w2) := ha2
      replace cS := cS M tvl w2 ha2.rd
      clear ha2 cT
      go_wp2_with fail
      refine cS.mono ?_
      rintro e w3 ⟨x, rfl, hp, ha3⟩
      have hx1 := hp.one
      obtain ⟨-, -, -, sa2, sc2, hkv⟩ := hp.shape
      obtain ⟨xo2, xf2, xn2, xk2⟩ := x
      dsimp only at hkv hx1
      subst hkv
      have HA3 : Hid (Aft M tvl L w2 (U σk.next).2 w3) := ha3
      have HP3 : Hid (PolAt (fun b => w2.heap.size ≤ b) w3 (U σk.next).1 ⟨xo2, xf2, xn2, .slice sa2 (U σk.next).1.kids.length sc2⟩) := hp
      generalize (U σk.next).1.kids.length = kn2 at *
      have hown3 := ha3.kp.own (lo := w.heap.size + 1) (by omega) (HA2.out.kp.own (by omega) HK.out.own)
      have hws3 : w.heap.size + 1 ≤ w3.heap.size := by have := ha3.kp.size; have := HA2.out.kp.size; have := heap_lt HK.out.row; omega
      clear ha3 hp cS
      go_wp2_with (at_builtin; refine wpList_append_own_at _ rfl _ _ 27 rfl (w.heap.size + 1) 29 i0 (nv ⟨0, 0, 0, .slice none 0 0⟩) 4 48 Tryz.underlying27 hi hz0 hz1 hz2 rfl (by decide) u3 _ _ rfl (hown3.alloc _) ⟨w3.heap.size, 0, none⟩ 1 1 (enc4 ⟨xo2, xf2, xn2, .slice sa2 kn2 sc2⟩) rfl rfl (cell_new4 _ _ _ rfl) (enc4_one _ hx1) (by unfold maxLen; omega) (by omega) (by simp; omega) ?_; intro v4 w4 hown4 hgrow4 hnil4 hloc4)
      have HK4 := HK.out.app HI.out hlt HA2.out HA3.out HP3.out HUp.out hown4 hgrow4 hloc4
      have HK4 : Hid (KSt L M tvl w fin [43] U σ.pos (acc ++ [(U σk.next).1]) (xs ++ [⟨xo2, xf2, xn2, .slice sa2 kn2 sc2⟩]) (U σk.next).2 k' v4 w4) := HK4
      clear hown4 hgrow4 hnil4 hloc4
      go_wp2
      go_roundw
      case rel => exact ⟨_, _, _, _, HK4⟩
      case measure =>
        rw [HPo.out, HK4.out.aft.rd.posEq]
        have h1 := HUp.out.1
        have h2 : σk.next.pos = σk.pos + 1 := rfl
        have h3 : (U σk.next).2.pos < L.length := HUp.out.2
        omega
    | false =>
      have cT := takes_no HL.out [43] (by decide) hi wr HK.out.aft.rd
      have HF : Hid (fin = (acc, σk)) := by show _ = _; rw [← HK.out.fin, manyM_stop _ _ _ _ _ _ hi]
      clear hi
      go_wp2_with fail
      refine cT.mono ?_
      rintro e w2 ⟨rfl, ha2⟩
      have HA2 : Hid (Aft M tvl L w σk w2) := HK.out.aft.trans ha2
      have hown2 := ha2.kp.own (lo := w.heap.size + 1) (by omega) HK.out.own
      have hrow2 := ha2.row (by omega) HK.out.row
      have cJ := joined_any (P := fun b => w.heap.size + 1 ≤ b ∧ some b ≠ u3.ownBlock) (Q := fun b => w.heap.size + 1 ≤ b) (fun b h => h.1) (fun b h => h) 7 acc xs u3 HK.out.ne w2 hown2 (HK.out.pols.keep ha2.kp.size (fun b hb hl => ⟨hb, ha2.kp.block b hl (by have := hb.1; omega) (by have := hb.1; omega)⟩)) (by omega)
      clear ha2 cT
      go_wp2_with fail
      refine cJ.mono ?_
      rintro e w3 ⟨x, rfl, hp, hb3⟩
      obtain ⟨-, -, -, sa2, sc2, hkv⟩ := hp.shape
      obtain ⟨xo2, xf2, xn2, xk2⟩ := x
      dsimp only at hkv
      subst hkv
      generalize (joinedM 7 acc).kids.length = kn2 at *
      have HP3 : Hid (PolAt (fun b => w.heap.size + 1 ≤ b) w3 (joinedM 7 acc) ⟨xo2, xf2, xn2, .slice sa2 kn2 sc2⟩) := hp
      have HA3 : Hid (Aft M tvl L w σk w3) := HA2.out.below hb3
      have hrow3 := (hb3.block _ (heap_lt hrow2)).trans hrow2
      clear hp hb3 cJ hrow2
      obtain ⟨q0, q1, q2, q3⟩ := row4 hrow3
      have hl5 := heap_lt hrow3
      obtain ⟨f0, f1, f2, f3⟩ := frz4 hrow3
      go_wp2
      refine bodyPost_ret (v := nv ⟨xo2, xf2, xn2, .slice sa2 kn2 sc2⟩) ?_ rfl ⟨_, rfl, ?_, by rw [HF.out]; exact aft_set4 HA3.out hlt _ _ _ _⟩
      · obtain ⟨g0, g1, g2, g3⟩ := row4 (set4 (.int .i64 xo2) (.int .i64 xf2) (.int .u16 xn2) (.slice sa2 kn2 sc2) hrow3)
        simp [results, Tryz.results47, go_sem, g0, g1, g2, g3]
      · rw [HF.out]
        exact (pol_set4 HP3.out (by show ¬ w.heap.size + 1 ≤ w.heap.size; omega) _ _ _ _).mono (fun b hb _ => by have hb : w.heap.size + 1 ≤ b := hb; show w.heap.size ≤ b; omega)

theorem sum_any {L : List Tk} (hL : EndL L) (hSh : Short L) : ∀ (k : Nat) (σ : St), Ok L σ → L.length ≤ σ.pos + k → PolC 47 L (sumM L k) σ
  | 0, σ, ho, hk => absurd (show σ.pos < L.length from ho) (by omega)
  | k + 1, σ, ho, hk => by
    have ih := sum_any hL hSh k
    show PolC 47 L (listM L [43] 7 (seqM L (sumM L k))) σ
    refine sum_step hL ho fun σ' h1 h2 => ?_
    show PolC 66 L (listM L [59] 6 (unaryM L (sumM L k) (L.length + 1))) σ'
    refine seq_any hL h1 fun σ'' h3 h4 => ?_
    exact unary_any hL hSh σ''.pos (fun σ3 h5 h6 => ih σ3 h5 (by omega)) (L.length + 1) σ'' h3 (Nat.le_refl _) (by omega)
end Go.Proofs.YtebpapmnkbehnaaGreatDoor
