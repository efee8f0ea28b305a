/- What the reader's program answers, where pairs are put at a list's end; no conditions but that the reader stands. -/
import Derived.Test.YtebpapmnkbehnaaGreatDoorP13
set_option linter.unusedVariables false
set_option linter.unusedSimpArgs false
namespace Go.Proofs.YtebpapmnkbehnaaGreatDoor
open Go.RowKit Go.Joins

theorem frz6 {w : World} {g : Nat} {t : TypeId} {cs : Array Value} (hg : w.heap[g]? = some (.cells cs t)) (j : Nat) : w.frozen? ⟨g, j, none⟩ = false := frozen_of_row w g j _ _ hg
/-- What stands while names are read. -/
structure ESt (L : List Tk) (M : Nat) (tvl : Value) (w : World) (fin : St) (σ : St) (k : Nat) (wr : World) : Prop where
  fin : letsM L k σ = fin
  fuel : L.length ≤ σ.pos + k
  aft : Aft M tvl L w σ wr
  few : σ.lets.length + k ≤ L.length
theorem ESt.step {L : List Tk} {M : Nat} {tvl : Value} {w : World} {fin : St} {σ : St} {k : Nat} {wr w2 w3 : World} (h : ESt L M tvl w fin σ (k + 1) wr) (hi : isNext L [108, 101, 116] σ = true) (hup : Up L σ.next (letM L σ.next)) (h2 : Aft M tvl L wr σ.next w2) (h3 : Aft M tvl L w2 (letM L σ.next) w3) : ESt L M tvl w fin (letM L σ.next) k w3 := by
  have hf := h.fin
  rw [letsM_succ, if_pos hi] at hf
  have h4 := hup.1
  have h5 : σ.next.pos = σ.pos + 1 := rfl
  have h6 := h.fuel
  have h7 := h.few
  have h8 := let_lets L σ.next
  have h9 : σ.next.lets = σ.lets := rfl
  rw [h9] at h8
  exact ⟨hf, by omega, (h.aft.trans h2).trans h3, by omega⟩
theorem own_set {w : World} {lo e size n : Nat} {v : Value} {xs : List Value} (h : w.ownsRow lo e size v n xs) {a : Addr} (ha : a.block < lo) (u : Value) : (w.setCell a u).ownsRow lo e size v n xs := ownsRow_setCell_below h ha u

/-- What stands when all is read. -/
structure FSt (M : Nat) (tvl : Value) (L : List Tk) (w : World) (lo : Nat) (ini : List Nat) (T : Pl) (rs : List Rl) (iv : Value) (x : Nd) (rv : Value) (xk : List R3) (σ : St) (wF : World) : Prop where
  aft : Aft M tvl L w σ wF
  row : wF.heap[w.heap.size + 1]? = some (gobj iv x rv)
  own : wF.ownsRow lo 48 3 rv rs.length (flatR xk)
  rls : RulsP (fun b => lo ≤ b ∧ some b ≠ rv.ownBlock) wF xk rs
  res : wF.heap[w.heap.size]? = some gz
  oin : wF.ownsRow (w.heap.size + 2) 26 1 iv ini.length (nums ini)
  pol : PolAt (fun b => w.heap.size + 2 ≤ b ∧ b < lo) wF T x
theorem FSt.next {M : Nat} {tvl : Value} {L : List Tk} {w : World} {lo : Nat} {ini : List Nat} {T : Pl} {rs : List Rl} {iv : Value} {x : Nd} {rv : Value} {xk : List R3} {σ σ' : St} {wF wH : World} (h : FSt M tvl L w lo ini T rs iv x rv xk σ wF) (hlt : M + 1 < w.heap.size) (hlo : w.heap.size + 2 ≤ lo) (k : Aft M tvl L wF σ' wH) : FSt M tvl L w lo ini T rs iv x rv xk σ' wH :=
  ⟨h.aft.trans k, k.row (by omega) h.row, k.kp.own (by omega) h.own, h.rls.keep k.kp.size fun b hb hl => ⟨hb, k.kp.block b hl (by have := hb.1; omega) (by have := hb.1; omega)⟩, k.row (by omega) h.res, k.kp.own (by omega) h.oin, h.pol.kp k.kp fun b hb => by have := hb.1; omega⟩
/-- The program's cells are handed over. -/
abbrev set6 (W : World) (g : Nat) (iv : Value) (x : Nd) (rv : Value) : World := (((((W.setCell ⟨g, 0, none⟩ iv).setCell ⟨g, 1, none⟩ (.int .i64 x.op)).setCell ⟨g, 2, none⟩ (.int .i64 x.f)).setCell ⟨g, 3, none⟩ (.int .u16 x.n)).setCell ⟨g, 4, none⟩ x.kv).setCell ⟨g, 5, none⟩ rv
theorem FSt.fin {M : Nat} {tvl : Value} {L : List Tk} {w : World} {lo : Nat} {ini : List Nat} {T : Pl} {rs : List Rl} {iv : Value} {x : Nd} {rv : Value} {xk : List R3} {σ : St} {wF : World} (h : FSt M tvl L w lo ini T rs iv x rv xk σ wF) (hlt : M + 1 < w.heap.size) (hlo : w.heap.size + 2 ≤ lo) (p : Pg) (hp : p = ⟨ini, T, rs⟩) :
    (PgAt (fun b => M + 2 ≤ b) (set6 wF w.heap.size iv x rv) iv x rv p ∧ (set6 wF w.heap.size iv x rv).ownsRow (w.heap.size + 2) 26 1 iv p.init.length (nums p.init) ∧ Aft M tvl L w σ (set6 wF w.heap.size iv x rv)) ∧ (set6 wF w.heap.size iv x rv).heap[w.heap.size]? = some (gobj iv x rv) := by
  subst hp
  have hb : w.heap.size < w.heap.size + 2 := by omega
  have hb2 : w.heap.size < lo := by omega
  have hO := own_set (own_set (own_set (own_set (own_set (own_set h.oin (a := ⟨w.heap.size, 0, none⟩) hb iv) (a := ⟨w.heap.size, 1, none⟩) hb (.int .i64 x.op)) (a := ⟨w.heap.size, 2, none⟩) hb (.int .i64 x.f)) (a := ⟨w.heap.size, 3, none⟩) hb (.int .u16 x.n)) (a := ⟨w.heap.size, 4, none⟩) hb x.kv) (a := ⟨w.heap.size, 5, none⟩) hb rv
  have hR1 := own_set (own_set (own_set (own_set (own_set (own_set h.own (a := ⟨w.heap.size, 0, none⟩) hb2 iv) (a := ⟨w.heap.size, 1, none⟩) hb2 (.int .i64 x.op)) (a := ⟨w.heap.size, 2, none⟩) hb2 (.int .i64 x.f)) (a := ⟨w.heap.size, 3, none⟩) hb2 (.int .u16 x.n)) (a := ⟨w.heap.size, 4, none⟩) hb2 x.kv) (a := ⟨w.heap.size, 5, none⟩) hb2 rv
  have hsz : (set6 wF w.heap.size iv x rv).heap.size = wF.heap.size := by simp [World.setCell]
  have hbl : ∀ b, b ≠ w.heap.size → (set6 wF w.heap.size iv x rv).heap[b]? = wF.heap[b]? := by
    intro b hn
    show (World.setCell _ _ _).heap[b]? = _
    rw [Below.heap_setCell _ _ _ _ hn, Below.heap_setCell _ _ _ _ hn, Below.heap_setCell _ _ _ _ hn, Below.heap_setCell _ _ _ _ hn, Below.heap_setCell _ _ _ _ hn, Below.heap_setCell _ _ _ _ hn]
  have hR2 : RulsP (fun b => lo ≤ b ∧ some b ≠ rv.ownBlock) (set6 wF w.heap.size iv x rv) xk rs := h.rls.keep (by rw [hsz]; exact Nat.le_refl _) fun b hb hl => ⟨hb, hbl b (by have := hb.1; omega)⟩
  have hP : PolAt (fun b => M + 2 ≤ b) (set6 wF w.heap.size iv x rv) T x := PolAt.keep (by rw [hsz]; exact Nat.le_refl _) (fun b hb hl => ⟨by have := hb.1; show M + 2 ≤ b; omega, hbl b (by have := hb.1; omega)⟩) _ _ h.pol
  have hA : Aft M tvl L w σ (set6 wF w.heap.size iv x rv) := (((((h.aft.setNew hlt (Nat.le_refl _) _).setNew hlt (Nat.le_refl _) _).setNew hlt (Nat.le_refl _) _).setNew hlt (Nat.le_refl _) _).setNew hlt (Nat.le_refl _) _).setNew hlt (Nat.le_refl _) _
  refine ⟨⟨⟨own_shape hO, hP, rules_of_own hR1 hR2 (fun b hb => by have := hb.1; show M + 2 ≤ b; omega) (fun b hb => by show M + 2 ≤ b; omega)⟩, hO, hA⟩, ?_⟩
  have h0 := heap_setCell_same wF w.heap.size 0 _ 34 iv h.res
  have h1 := heap_setCell_same _ w.heap.size 1 _ 34 (.int .i64 x.op) h0
  have h2 := heap_setCell_same _ w.heap.size 2 _ 34 (.int .i64 x.f) h1
  have h3 := heap_setCell_same _ w.heap.size 3 _ 34 (.int .u16 x.n) h2
  have h4 := heap_setCell_same _ w.heap.size 4 _ 34 x.kv h3
  have h5 := heap_setCell_same _ w.heap.size 5 _ 34 rv h4
  simpa using h5

set_option maxRecDepth 100000 in
set_option maxHeartbeats 8000000 in
theorem program_any {M : Nat} {tvl : Value} {L : List Tk} {σ : St} (hL : EndL L) (hSh : Short L) (hmid : (programM L σ).2.mid = false) (hlets : σ.lets = []) (w : World) (h : Rd M tvl L σ w) :
    Calls Tryz.prog 24 #[rp M] w fun e w' => ∃ iv x rv, e = .returned (pgv iv x rv) ∧ PgAt (fun b => M + 2 ≤ b) w' iv x rv (programM L σ).1 ∧ w'.ownsRow (w.heap.size + 2) 26 1 iv (programM L σ).1.init.length (nums (programM L σ).1.init) ∧ Aft M tvl L w (programM L σ).2 w' := by
  have HL : Hid (EndL L) := hL
  have HSh : Hid (Short L) := hSh
  have hlt := h.lt
  have hf := hL.few
  obtain ⟨W, hW⟩ : ∃ W, (w.alloc gz).alloc gz = W := ⟨_, rfl⟩
  have hBW : Below w.heap.size w W := by rw [← hW]; exact ((Below.refl _ w).alloc (Nat.le_refl _) _).alloc (by simp) _
  have hWs : W.heap.size = w.heap.size + 2 := by rw [← hW]; simp
  have hG : W.heap[w.heap.size + 1]? = some gz := by rw [← hW]; simpa using heap_alloc_new (w.alloc gz) gz
  have hRs : W.heap[w.heap.size]? = some gz := by rw [← hW, Below.heap_alloc _ _ _ (by simp)]; exact heap_alloc_new w gz
  have HAW : Hid (Aft M tvl L w σ W) := h.aft hBW
  have HG0 : Hid (W.heap[w.heap.size + 1]? = some gz) := hG
  have HR0 : Hid (W.heap[w.heap.size]? = some gz) := hRs
  have hok : Ok L σ := h.ok
  -- the model's steps
  unfold programM at hmid ⊢
  obtain ⟨ini, σ1, e1⟩ : ∃ a b, startM L σ = (a, b) := ⟨_, _, rfl⟩
  have u1 := up_start hL hok
  have l1 := start_lets L σ
  have m1 := start_mid L σ
  rw [e1] at hmid u1 l1 m1 ⊢
  dsimp only at hmid u1 l1 m1 ⊢
  rw [hlets] at l1
  obtain ⟨σ2, e2⟩ : ∃ b, letsM L L.length σ1 = b := ⟨_, rfl⟩
  have u2 := up_lets hL L.length σ1 u1.2
  rw [e2] at hmid u2 ⊢
  obtain ⟨σ3, e3⟩ : ∃ b, needsM L [112, 111, 108, 105, 99, 121] σ2 = b := ⟨_, rfl⟩
  have u3 := up_needs hL (s := [112, 111, 108, 105, 99, 121]) (by decide) u2.2
  rw [e3] at hmid u3 ⊢
  have pS := sum_any hL hSh (L.length + 1) σ3 u3.2 (by omega)
  obtain ⟨u4, cS⟩ := pS
  obtain ⟨T, σ4, e4⟩ : ∃ a b, sumM L (L.length + 1) σ3 = (a, b) := ⟨_, _, rfl⟩
  simp only [e4] at hmid u4 cS ⊢
  obtain ⟨σ5, e5⟩ : ∃ b, needsM L [46] σ4 = b := ⟨_, rfl⟩
  have u5 := up_needs hL (s := [46]) (by decide) u4.2
  rw [e5] at hmid u5 ⊢
  obtain ⟨rs, σ6, e6⟩ : ∃ a b, rulesM L L.length [] σ5 = (a, b) := ⟨_, _, rfl⟩
  simp only [e6] at hmid ⊢
  have m6 : σ6.mid = false := by
    unfold endM at hmid
    split at hmid
    · exact hmid
    · exact hmid
  have cA := start_any hL W HAW.out.rd
  rw [e1] at cA
  have E2 : Hid (letsM L L.length σ1 = σ2) := e2
  have E3 : Hid (needsM L [112, 111, 108, 105, 99, 121] σ2 = σ3) := e3
  have E5 : Hid (needsM L [46] σ4 = σ5) := e5
  have E6 : Hid (rulesM L L.length [] σ5 = (rs, σ6)) := e6
  have HM6 : Hid (σ6.mid = false) := m6
  have HL1 : Hid (σ1.lets = []) := l1
  clear hmid m6 m1 u1 u2 u3 u4 u5 e1 e2 e3 e4 e5 e6 h hL hSh hok hBW hG hRs hlets l1
  obtain ⟨i0, hi, hz0, hz1, hz2⟩ := info_parts info51
  go_enter Tryz.func24, Tryz.ntmps24
  go_wp2_with fail
  refine cA.mono ?_
  rintro e w1 ⟨iv, rfl, hoi, ha1⟩
  obtain ⟨si, sci, rfl⟩ := own_shape hoi
  have HA1 : Hid (Aft M tvl L w σ1 w1) := HAW.out.trans ha1
  have hG1 := ha1.row (by omega) HG0.out
  have hR1 := ha1.row (by omega) HR0.out
  have HOi : Hid (w1.ownsRow (w.heap.size + 2) 26 1 (.slice si ini.length sci) ini.length (nums ini)) := by rw [← hWs]; exact hoi
  obtain ⟨q0, q1, q2, q3, q4, q5⟩ := row6 hG1
  have f0 := frz6 hG1 0
  have HG1 : Hid (w1.heap[w.heap.size + 1]? = some gz) := hG1
  have HR1 : Hid (w1.heap[w.heap.size]? = some gz) := hR1
  clear ha1 hoi hG1 hR1 cA HAW HG0 HR0
  -- the store of the numbers
  have HA2 : Hid (Aft M tvl L w σ1 (w1.setCell ⟨w.heap.size + 1, 0, none⟩ (.slice si ini.length sci))) := HA1.out.setNew hlt (by show w.heap.size ≤ w.heap.size + 1; omega) _
  have HG2 : Hid ((w1.setCell ⟨w.heap.size + 1, 0, none⟩ (.slice si ini.length sci)).heap[w.heap.size + 1]? = some (gobj (.slice si ini.length sci) nd0 (.slice none 0 0))) := by
    show _ = _
    have := heap_setCell_same w1 (w.heap.size + 1) 0 _ 34 (.slice si ini.length sci) HG1.out
    simpa using this
  have HR2 : Hid ((w1.setCell ⟨w.heap.size + 1, 0, none⟩ (.slice si ini.length sci)).heap[w.heap.size]? = some gz) := (Below.heap_setCell _ _ _ _ (by show w.heap.size ≠ w.heap.size + 1; omega)).trans HR1.out
  have HO2 : Hid ((w1.setCell ⟨w.heap.size + 1, 0, none⟩ (.slice si ini.length sci)).ownsRow (w.heap.size + 2) 26 1 (.slice si ini.length sci) ini.length (nums ini)) := own_set HOi.out (by show w.heap.size + 1 < _; omega) _
  go_wp2_with fail
  clear HA1 HG1 HR1 HOi q0 q1 q2 q3 q4 q5 f0
  generalize (w1.setCell ⟨w.heap.size + 1, 0, none⟩ (.slice si ini.length sci)) = wA at *
  have HE : Hid (ESt L M tvl wA σ2 σ1 L.length wA) := ⟨E2.out, by omega, HA2.out.rd.aft (Below.refl _ _), by rw [HL1.out]; simp⟩
  go_loopw [] (fun wr => ∃ (σk : St) (k : Nat), Hid (ESt L M tvl wA σ2 σk k wr)) (fun wr => L.length - rdPos wr (M + 1))
  case atStart => exact ⟨_, _, HE⟩
  case round =>
    clear HE
    obtain ⟨σk, k, HS⟩ := hrel
    have HPo : Hid (rdPos wr (M + 1) = σk.pos) := HS.out.aft.rd.posEq
    cases hin : isNext L [108, 101, 116] σk with
    | true =>
      have cT := takes_yes HL.out [108, 101, 116] (by decide) hin wr HS.out.aft.rd
      have hno := next_of_is HL.out HS.out.aft.rd.ok (by decide) hin
      have hk1 : ∃ k', k = k' + 1 := ⟨k - 1, by
        have h1 := HS.out.fuel
        have h2 : σk.pos + 1 < L.length := hno
        omega⟩
      obtain ⟨k', rfl⟩ := hk1
      have HI : Hid (isNext L [108, 101, 116] σk = true) := hin
      have HUp : Hid (Up L σk.next (letM L σk.next)) := up_let HL.out hno
      clear hin hno
      go_wp2_with fail
      refine cT.mono ?_
      rintro e w2 ⟨rfl, ha2⟩
      have HA2' : Hid (Aft M tvl L wr σk.next w2) := ha2
      have cN := let_any HL.out HSh.out (by have := HS.out.few; show σk.lets.length ≤ _; omega) w2 ha2.rd
      clear ha2 cT
      go_wp2_with fail
      refine cN.mono ?_
      rintro e w3 ⟨rfl, ha3⟩
      have HS3 : Hid (ESt L M tvl wA σ2 (letM L σk.next) k' w3) := HS.out.step HI.out HUp.out HA2'.out ha3
      clear ha3 cN
      go_wp2
      go_roundw
      case rel => exact ⟨_, _, HS3⟩
      case measure =>
        rw [HPo.out, HS3.out.aft.rd.posEq]
        have h1 := HUp.out.1
        have h2 : σk.next.pos = σk.pos + 1 := rfl
        have h3 : (letM L σk.next).pos < L.length := HUp.out.2
        omega
    | false =>
      have cT := takes_no HL.out [108, 101, 116] (by decide) hin wr HS.out.aft.rd
      have hfin : σ2 = σk := by rw [← letsM_stop L k σk hin]; exact HS.out.fin.symm
      subst hfin
      clear hin HPo
      go_wp2_with fail
      refine cT.mono ?_
      rintro e wB ⟨rfl, haB⟩
      have hAB := HS.out.aft.trans haB
      have HAB : Hid (Aft M tvl L w σ2 wB) := HA2.out.trans hAB
      have HGB : Hid (wB.heap[w.heap.size + 1]? = some (gobj (.slice si ini.length sci) nd0 (.slice none 0 0))) := hAB.row (by omega) HG2.out
      have HRB : Hid (wB.heap[w.heap.size]? = some gz) := hAB.row (by omega) HR2.out
      have HOB : Hid (wB.ownsRow (w.heap.size + 2) 26 1 (.slice si ini.length sci) ini.length (nums ini)) := hAB.kp.own (by omega) HO2.out
      have cP := needs_any HL.out [112, 111, 108, 105, 99, 121] (by decide) wB HAB.out.rd
      rw [E3.out] at cP
      clear haB hAB cT HS HA2 HG2 HR2 HO2
      go_wp2_with fail
      refine cP.mono ?_
      rintro e wC ⟨rfl, haC⟩
      have HAC : Hid (Aft M tvl L w σ3 wC) := HAB.out.trans haC
      have HGC : Hid (wC.heap[w.heap.size + 1]? = some (gobj (.slice si ini.length sci) nd0 (.slice none 0 0))) := haC.row (by omega) HGB.out
      have HRC : Hid (wC.heap[w.heap.size]? = some gz) := haC.row (by omega) HRB.out
      have HOC : Hid (wC.ownsRow (w.heap.size + 2) 26 1 (.slice si ini.length sci) ini.length (nums ini)) := haC.kp.own (by omega) HOB.out
      replace cS := cS M tvl wC HAC.out.rd
      clear haC cP HAB HGB HRB HOB
      go_wp2_with fail
      refine cS.mono ?_
      rintro e wD ⟨x, rfl, hpD, haD⟩
      obtain ⟨-, -, -, sx, scx, hkv⟩ := hpD.shape
      obtain ⟨xo, xf, xn, xk⟩ := x
      dsimp only at hkv
      subst hkv
      have HAD : Hid (Aft M tvl L w σ4 wD) := HAC.out.trans haD
      have hGD := haD.row (by omega) HGC.out
      have HRD : Hid (wD.heap[w.heap.size]? = some gz) := haD.row (by omega) HRC.out
      have HOD : Hid (wD.ownsRow (w.heap.size + 2) 26 1 (.slice si ini.length sci) ini.length (nums ini)) := haD.kp.own (by omega) HOC.out
      have hCs : w.heap.size + 2 ≤ wC.heap.size := by have := heap_lt HGC.out; omega
      have HPD : Hid (PolAt (fun b => w.heap.size + 2 ≤ b) wD T ⟨xo, xf, xn, .slice sx T.kids.length scx⟩) := hpD.mono fun b hb _ => by have hb : wC.heap.size ≤ b := hb; show w.heap.size + 2 ≤ b; omega
      obtain ⟨q0, q1, q2, q3, q4, q5⟩ := row6 hGD
      have f1 := frz6 hGD 1
      have f2 := frz6 hGD 2
      have f3 := frz6 hGD 3
      have f4 := frz6 hGD 4
      have HGD : Hid (wD.heap[w.heap.size + 1]? = some (gobj (.slice si ini.length sci) nd0 (.slice none 0 0))) := hGD
      clear haD hpD cS HAC HGC HRC HOC hGD hCs
      generalize T.kids.length = kn at *
      -- the store of the policy
      have HAE : Hid (Aft M tvl L w σ4 ((((wD.setCell ⟨w.heap.size + 1, 1, none⟩ (.int .i64 xo)).setCell ⟨w.heap.size + 1, 2, none⟩ (.int .i64 xf)).setCell ⟨w.heap.size + 1, 3, none⟩ (.int .u16 xn)).setCell ⟨w.heap.size + 1, 4, none⟩ (.slice sx kn scx))) :=
        (((HAD.out.setNew hlt (by show w.heap.size ≤ w.heap.size + 1; omega) _).setNew hlt (by show w.heap.size ≤ w.heap.size + 1; omega) _).setNew hlt (by show w.heap.size ≤ w.heap.size + 1; omega) _).setNew hlt (by show w.heap.size ≤ w.heap.size + 1; omega) _
      have HGE : Hid (((((wD.setCell ⟨w.heap.size + 1, 1, none⟩ (.int .i64 xo)).setCell ⟨w.heap.size + 1, 2, none⟩ (.int .i64 xf)).setCell ⟨w.heap.size + 1, 3, none⟩ (.int .u16 xn)).setCell ⟨w.heap.size + 1, 4, none⟩ (.slice sx kn scx)).heap[w.heap.size + 1]? = some (gobj (.slice si ini.length sci) ⟨xo, xf, xn, .slice sx kn scx⟩ (.slice none 0 0))) := by
        show _ = _
        have h1 := heap_setCell_same wD (w.heap.size + 1) 1 _ 34 (.int .i64 xo) HGD.out
        have h2 := heap_setCell_same _ (w.heap.size + 1) 2 _ 34 (.int .i64 xf) h1
        have h3 := heap_setCell_same _ (w.heap.size + 1) 3 _ 34 (.int .u16 xn) h2
        have h4 := heap_setCell_same _ (w.heap.size + 1) 4 _ 34 (.slice sx kn scx) h3
        simpa using h4
      have hsn : ∀ (W : World) (j : Nat) (u : Value), (W.setCell ⟨w.heap.size + 1, j, none⟩ u).heap[w.heap.size]? = W.heap[w.heap.size]? := fun W j u => Below.heap_setCell _ _ _ _ (by show w.heap.size ≠ w.heap.size + 1; omega)
      have HRE : Hid (((((wD.setCell ⟨w.heap.size + 1, 1, none⟩ (.int .i64 xo)).setCell ⟨w.heap.size + 1, 2, none⟩ (.int .i64 xf)).setCell ⟨w.heap.size + 1, 3, none⟩ (.int .u16 xn)).setCell ⟨w.heap.size + 1, 4, none⟩ (.slice sx kn scx)).heap[w.heap.size]? = some gz) := by
        show _ = _
        rw [hsn, hsn, hsn, hsn]; exact HRD.out
      have hb1 : w.heap.size + 1 < w.heap.size + 2 := by omega
      have HOE : Hid (((((wD.setCell ⟨w.heap.size + 1, 1, none⟩ (.int .i64 xo)).setCell ⟨w.heap.size + 1, 2, none⟩ (.int .i64 xf)).setCell ⟨w.heap.size + 1, 3, none⟩ (.int .u16 xn)).setCell ⟨w.heap.size + 1, 4, none⟩ (.slice sx kn scx)).ownsRow (w.heap.size + 2) 26 1 (.slice si ini.length sci) ini.length (nums ini)) :=
        own_set (own_set (own_set (own_set HOD.out hb1 _) hb1 _) hb1 _) hb1 _
      have hnP : ¬ (w.heap.size + 2 ≤ w.heap.size + 1) := by omega
      have HPE : Hid (PolAt (fun b => w.heap.size + 2 ≤ b) ((((wD.setCell ⟨w.heap.size + 1, 1, none⟩ (.int .i64 xo)).setCell ⟨w.heap.size + 1, 2, none⟩ (.int .i64 xf)).setCell ⟨w.heap.size + 1, 3, none⟩ (.int .u16 xn)).setCell ⟨w.heap.size + 1, 4, none⟩ (.slice sx kn scx)) T ⟨xo, xf, xn, .slice sx kn scx⟩) :=
        (((HPD.out.set hnP _).set hnP _).set hnP _).set hnP _
      have cP := needs_any HL.out [46] (by decide) _ HAE.out.rd
      rw [E5.out] at cP
      clear hsn hb1 hnP
      go_wp2_with fail
      clear HAD HGD HRD HOD HPD q0 q1 q2 q3 q4 q5 f1 f2 f3 f4
      generalize ((((wD.setCell ⟨w.heap.size + 1, 1, none⟩ (.int .i64 xo)).setCell ⟨w.heap.size + 1, 2, none⟩ (.int .i64 xf)).setCell ⟨w.heap.size + 1, 3, none⟩ (.int .u16 xn)).setCell ⟨w.heap.size + 1, 4, none⟩ (.slice sx kn scx)) = wE at *
      refine cP.mono ?_
      rintro e ws ⟨rfl, haS⟩
      have HAs : Hid (Aft M tvl L w σ5 ws) := HAE.out.trans haS
      have HGs : Hid (ws.heap[w.heap.size + 1]? = some (gobj (.slice si ini.length sci) ⟨xo, xf, xn, .slice sx kn scx⟩ (.slice none 0 0))) := haS.row (by omega) HGE.out
      have HRs : Hid (ws.heap[w.heap.size]? = some gz) := haS.row (by omega) HRE.out
      have HOs : Hid (ws.ownsRow (w.heap.size + 2) 26 1 (.slice si ini.length sci) ini.length (nums ini)) := haS.kp.own (by omega) HOE.out
      have HPs : Hid (PolAt (fun b => w.heap.size + 2 ≤ b ∧ b < ws.heap.size) ws T ⟨xo, xf, xn, .slice sx kn scx⟩) := (HPE.out.kp haS.kp (fun b hb => by have hb : w.heap.size + 2 ≤ b := hb; omega)).mono fun b hb hl => ⟨hb, hl⟩
      clear haS cP HAE HGE HRE HOE HPE
      have HGS : Hid (GSt L M tvl ws (w.heap.size + 1) (.slice si ini.length sci) ⟨xo, xf, xn, .slice sx kn scx⟩ (rs, σ6) [] [] σ5 L.length (.slice none 0 0) ws) :=
        ⟨E6.out, by omega, HAs.out.rd, rfl, rfl, rfl, Nat.le_refl _, fun _ _ _ _ _ => rfl, HGs.out, World.ownsRow_nil _ _ _ _, ⟨rfl, fun i h => by simp at h⟩, by simp⟩
      have hGs := heap_lt HGs.out
      go_wp2_with fail
      go_loopw [] (fun wr => ∃ (rk : List Rl) (xk : List R3) (σk : St) (k : Nat) (v : Value), Hid (GSt L M tvl ws (w.heap.size + 1) (.slice si ini.length sci) ⟨xo, xf, xn, .slice sx kn scx⟩ (rs, σ6) rk xk σk k v wr)) (fun wr => L.length - rdPos wr (M + 1))
      case atStart => exact ⟨_, _, _, _, _, HGS⟩
      case round =>
        clear HGS
        obtain ⟨rk, xk, σk, k, v, HS⟩ := hrel
        have HPo : Hid (rdPos wr (M + 1) = σk.pos) := HS.out.rd.posEq
        obtain ⟨sv, scv, rfl⟩ := own_shape HS.out.own
        cases hin : isNext L [111, 110] σk with
        | true =>
          have cT := takes_yes HL.out [111, 110] (by decide) hin wr HS.out.rd
          have hno := next_of_is HL.out HS.out.rd.ok (by decide) hin
          have hk1 : ∃ k', k = k' + 1 := ⟨k - 1, by
            have h1 := HS.out.fuel
            have h2 : σk.pos + 1 < L.length := hno
            omega⟩
          obtain ⟨k', rfl⟩ := hk1
          have HI : Hid (isNext L [111, 110] σk = true) := hin
          have HMk : Hid ((ruleM L σk.next).2.mid = false) := by
            have hf := HS.out.fin
            rw [rulesM_succ, if_pos hin] at hf
            have h1 := rules_mid L k' (rk ++ [(ruleM L σk.next).1]) (needsM L [46] (ruleM L σk.next).2) (by rw [hf]; exact HM6.out)
            rwa [needs_mid] at h1
          have hur := up_rule HL.out hno
          have HUp : Hid (Up L σk.next (needsM L [46] (ruleM L σk.next).2)) := hur.trans (up_needs HL.out (by decide) hur.2)
          have hrl : rk.length ≤ 5000 := by have := HS.out.few; omega
          clear hin hno hur
          go_wp2_with fail
          refine cT.mono ?_
          rintro e w2 ⟨rfl, ha2⟩
          have HD : Hid (Aft M tvl L wr σk.next w2.drew) := ha2.below ((Below.refl _ _).drew)
          have hG2 := ha2.row (by omega) HS.out.row
          have q5 := (row6 hG2).2.2.2.2.2
          have cR := rule_any HL.out HSh.out HMk.out w2.drew HD.out.rd
          have HG2' : Hid (w2.drew.heap[w.heap.size + 1]? = some _) := hG2
          have hs2 := HD.out.kp.size
          clear ha2 cT hG2
          go_wp2_with fail
          go_region_law (first
            | (refine step_append_lies _ (by rfl) _ _ _ (by rfl) ws.heap.size 48 i0 (.agg #[.slice none 0 0, .slice none 0 0, .slice none 0 0]) 3 72 Tryz.underlying24 hi hz0 hz1 hz2 rfl (by decide) (.slice sv rk.length scv) rk.length (flatR xk) (by rfl) (HO3.out.alloc _) ⟨w3.heap.size, 0, none⟩ 1 1 (enc3r ⟨.slice sa1 (ruleM L σk.next).1.when.length sc1, .slice sa2 (ruleM L σk.next).1.guard.length sc2, .slice sa3 (ruleM L σk.next).1.thn.length sc3⟩) (by rfl) rfl (cell_new3 w3 _ 48) (by intro u hu; simp [enc3r] at hu; rcases hu with rfl | rfl | rfl <;> rfl) (by decide) (by unfold maxLen; omega) (by omega) (by simp; omega) (w3.heap.size + 1) (by simp) ?_; intro g cap w5 hown5 hgrow5 hat5 hlt5; have hm := HS.out.mid (r := (ruleM L σk.next).1) (lo := w2.drew.heap.size + 2) (v5 := .slice (some ⟨g, 0, none⟩) (rk.length + 1) cap) (by omega) hGs HA3.out (by omega) HV3.out hown5 hgrow5 (by rcases hat5 with e | e; exact .inl e.symm; exact .inr (by simp [Value.ownBlock, e])); have f5 := frz6 hm.2.2.2.2.2.2.1 5; have t5 := (row6 hm.2.2.2.2.2.2.1).2.2.2.2.2; have HMm : Hid _ := hm; clear hm hown5 hgrow5 hat5 hlt5)
            | (go_simp; go_at_call 48; refine cR.mono ?_; rintro e w3 ⟨v1, v2, v3, rfl, hv3, ha3⟩; obtain ⟨sa1, sc1, rfl⟩ := own_shape hv3.o1; obtain ⟨sa2, sc2, rfl⟩ := own_shape hv3.o2; obtain ⟨sa3, sc3, rfl⟩ := own_shape hv3.o3; have HA3 : Hid (Aft M tvl L wr (ruleM L σk.next).2 w3) := HD.out.trans ha3; have HV3 : Hid _ := hv3; have s5 := (row6 (ha3.row (by omega) HG2'.out)).2.2.2.2.2; have hgt3 := heap_lt (ha3.row (by omega) HG2'.out); have HO3 : Hid (w3.ownsRow ws.heap.size 48 3 (.slice sv rk.length scv) rk.length (flatR xk)) := HA3.out.kp.own (by omega) HS.out.own; have hs3 : ws.heap.size ≤ w3.heap.size := Nat.le_trans HS.out.size HA3.out.kp.size; clear ha3 hv3))
          all_goals
            have cE := needs_any HL.out [46] (by decide) _ HMm.out.1
            go_wp2_with fail
            refine cE.mono ?_
            rintro e w6 ⟨rfl, ha6⟩
            have HS6 : Hid (GSt L M tvl ws (w.heap.size + 1) (.slice si ini.length sci) ⟨xo, xf, xn, .slice sx kn scx⟩ (rs, σ6) (rk ++ [(ruleM L σk.next).1]) (xk ++ [⟨.slice sa1 (ruleM L σk.next).1.when.length sc1, .slice sa2 (ruleM L σk.next).1.guard.length sc2, .slice sa3 (ruleM L σk.next).1.thn.length sc3⟩]) (needsM L [46] (ruleM L σk.next).2) k' (.slice (some ⟨g, 0, none⟩) (rk.length + 1) cap) w6) :=
              HS.out.app HI.out (by omega) hGs HUp.out HMm.out.2.1 HMm.out.2.2.1 HMm.out.2.2.2.1 HMm.out.2.2.2.2.1 HMm.out.2.2.2.2.2.1 HMm.out.2.2.2.2.2.2.2.1 HMm.out.2.2.2.2.2.2.2.2.1 HMm.out.2.2.2.2.2.2.2.2.2 ha6
            clear ha6 cE
            go_wp2
            go_roundw
            case rel => exact ⟨_, _, _, _, _, HS6⟩
            case measure =>
              rw [HPo.out, HS6.out.rd.posEq]
              have h1 := HUp.out.1
              have h2 : σk.next.pos = σk.pos + 1 := rfl
              have h3 : (needsM L [46] (ruleM L σk.next).2).pos < L.length := HUp.out.2
              omega
        | false =>
          have cT := takes_no HL.out [111, 110] (by decide) hin wr HS.out.rd
          have hfin : (rs, σ6) = (rk, σk) := by rw [← rulesM_stop L k rk σk hin]; exact HS.out.fin.symm
          obtain ⟨rfl, rfl⟩ := Prod.mk.inj hfin
          clear hin hfin HPo
          go_wp2_with fail
          refine cT.mono ?_
          rintro e wF ⟨rfl, haF⟩
          have hSr := haF.row (by omega) HS.out.row
          have hSo := haF.kp.own (lo := ws.heap.size) (by omega) HS.out.own
          have hSl := HS.out.rls.keep (Q := fun b => ws.heap.size ≤ b ∧ some b ≠ (Value.slice sv rs.length scv).ownBlock) haF.kp.size fun b hb hl => ⟨hb, haF.kp.block b hl (by have := hb.1; omega) (by have := hb.1; omega)⟩
          have hbk : ∀ b, b < ws.heap.size → b ≠ M → b ≠ M + 1 → b ≠ w.heap.size + 1 → wF.heap[b]? = ws.heap[b]? := fun b hb h1 h2 h3 => (haF.kp.block b (by have := HS.out.size; omega) h1 h2).trans (HS.out.block b hb h1 h2 h3)
          have hAw : Aft M tvl L w σ6 wF := ⟨haF.rd, by rw [haF.kp.os, HS.out.os]; exact HAs.out.kp.os, by rw [haF.kp.tape, HS.out.tape]; exact HAs.out.kp.tape, by rw [haF.kp.output, HS.out.output]; exact HAs.out.kp.output, Nat.le_trans HAs.out.kp.size (Nat.le_trans HS.out.size haF.kp.size), fun b hb h1 h2 => (hbk b (by have := HAs.out.kp.size; omega) h1 h2 (by omega)).trans (HAs.out.kp.block b hb h1 h2)⟩
          have hRF : wF.heap[w.heap.size]? = some gz := (hbk _ (by have := heap_lt HRs.out; omega) (by omega) (by omega) (by omega)).trans HRs.out
          have hOF : wF.ownsRow (w.heap.size + 2) 26 1 (.slice si ini.length sci) ini.length (nums ini) := own_keep HOs.out fun b hb _ hl => hbk b hl (by omega) (by omega) (by omega)
          have hPF : PolAt (fun b => w.heap.size + 2 ≤ b ∧ b < ws.heap.size) wF T ⟨xo, xf, xn, .slice sx kn scx⟩ := PolAt.keep (Nat.le_trans HS.out.size haF.kp.size) (fun b hb hl => ⟨hb, hbk b hl (by have := hb.1; omega) (by have := hb.1; omega) (by have := hb.1; omega)⟩) _ _ HPs.out
          have cK := token_any HL.out wF haF.rd
          have F0 := fld0 (tokAt L σ6)
          have HF : Hid (FSt M tvl L w ws.heap.size ini T rs (.slice si ini.length sci) ⟨xo, xf, xn, .slice sx kn scx⟩ (.slice sv rs.length scv) xk σ6 wF) := ⟨hAw, hSr, hSo, hSl, hRF, hOF, hPF⟩
          clear haF cT HS hSr hSo hSl hbk hAw hRF hOF hPF HPs HOs HRs HGs HAs
          by_cases hk0 : (tokAt L σ6).kind = 0
          · have d : ((tokAt L σ6).kind != 0) = false := by rw [hk0]; rfl
            have HEn : Hid (endM L σ6 = σ6) := by show _ = _; unfold endM; rw [if_pos hk0]
            clear hk0
            generalize tokAt L σ6 = t at *
            go_wp2_with fail
            refine cK.mono ?_
            rintro e wH ⟨rfl, hbH⟩
            have HFF : Hid (FSt M tvl L w ws.heap.size ini T rs (.slice si ini.length sci) ⟨xo, xf, xn, .slice sx kn scx⟩ (.slice sv rs.length scv) xk (endM L σ6) wH) := by rw [HEn.out]; exact HF.out.next hlt (by omega) (HF.out.aft.rd.aft hbH)
            obtain ⟨q0, q1, q2, q3, q4, q5⟩ := row6 HFF.out.row
            obtain ⟨t0, t1, t2, t3, t4, t5⟩ := row6 HFF.out.res
            have f0 := frz6 HFF.out.res 0
            have f1 := frz6 HFF.out.res 1
            have f2 := frz6 HFF.out.res 2
            have f3 := frz6 HFF.out.res 3
            have f4 := frz6 HFF.out.res 4
            have f5 := frz6 HFF.out.res 5
            have hgq := heap_lt HFF.out.row
            have HFin : Hid _ := HFF.out.fin hlt (by omega) ⟨ini, T, rs⟩ rfl
            go_wp2
            refine bodyPost_ret (v := pgv (.slice si ini.length sci) ⟨xo, xf, xn, .slice sx kn scx⟩ (.slice sv rs.length scv)) ?_ rfl ⟨_, _, _, rfl, HFin.out.1⟩
            obtain ⟨g0, g1, g2, g3, g4, g5⟩ := row6 HFin.out.2
            simp [results, Tryz.results24, go_sem, g0, g1, g2, g3, g4, g5]
          · have d : ((tokAt L σ6).kind != 0) = true := by simpa using hk0
            have HEn : Hid (endM L σ6 = failM L σ6) := by show _ = _; unfold endM; rw [if_neg hk0]
            clear hk0
            generalize tokAt L σ6 = t at *
            go_wp2_with fail
            refine cK.mono ?_
            rintro e wH ⟨rfl, hbH⟩
            have HFH : Hid (FSt M tvl L w ws.heap.size ini T rs (.slice si ini.length sci) ⟨xo, xf, xn, .slice sx kn scx⟩ (.slice sv rs.length scv) xk σ6 wH) := HF.out.next hlt (by omega) (HF.out.aft.rd.aft hbH)
            have cX := fail_any HL.out wH HFH.out.aft.rd
            clear hbH cK HF
            go_wp2_with fail
            refine cX.mono ?_
            rintro e wJ ⟨rfl, haJ⟩
            have HFF : Hid (FSt M tvl L w ws.heap.size ini T rs (.slice si ini.length sci) ⟨xo, xf, xn, .slice sx kn scx⟩ (.slice sv rs.length scv) xk (endM L σ6) wJ) := by rw [HEn.out]; exact HFH.out.next hlt (by omega) haJ
            obtain ⟨q0, q1, q2, q3, q4, q5⟩ := row6 HFF.out.row
            obtain ⟨t0, t1, t2, t3, t4, t5⟩ := row6 HFF.out.res
            have f0 := frz6 HFF.out.res 0
            have f1 := frz6 HFF.out.res 1
            have f2 := frz6 HFF.out.res 2
            have f3 := frz6 HFF.out.res 3
            have f4 := frz6 HFF.out.res 4
            have f5 := frz6 HFF.out.res 5
            have hgq := heap_lt HFF.out.row
            have HFin : Hid _ := HFF.out.fin hlt (by omega) ⟨ini, T, rs⟩ rfl
            go_wp2
            refine bodyPost_ret (v := pgv (.slice si ini.length sci) ⟨xo, xf, xn, .slice sx kn scx⟩ (.slice sv rs.length scv)) ?_ rfl ⟨_, _, _, rfl, HFin.out.1⟩
            obtain ⟨g0, g1, g2, g3, g4, g5⟩ := row6 HFin.out.2
            simp [results, Tryz.results24, go_sem, g0, g1, g2, g3, g4, g5]
end Go.Proofs.YtebpapmnkbehnaaGreatDoor
