/- What the reader's let and fault answer; no conditions but that the reader stands. -/
import Derived.Test.YtebpapmnkbehnaaGreatDoorP4
set_option linter.unusedVariables false
set_option linter.unusedSimpArgs false
namespace Go.Proofs.YtebpapmnkbehnaaGreatDoor
open Go.RowKit Go.Joins Go.Maps

/-- A name is put into the map. -/
theorem Aft.letPut {M : Nat} {tvl : Value} {L : List Tk} {σ : St} {w w1 w2 : World} (h : Aft M tvl L w σ w1) (hk : Kp M w1 w2) (hr : w2.heap[M + 1]? = w1.heap[M + 1]?) (s : List UInt8) (v : Nat) (hl : LetsAt w2 M ((s, v) :: σ.lets)) : Aft M tvl L w { σ with lets := (s, v) :: σ.lets } w2 := by
  have hn := h.rd.nlow
  have hlt := h.rd.lt
  refine ⟨⟨hr.trans h.rd.row, hl, tks_same h.rd.toks hk.size fun b o e => ?_, h.rd.far, names_same h.rd.names (hk.block 2 (by omega) (by omega) (by omega)), h.rd.nlow, h.rd.ok⟩, h.kp.trans hk⟩
  have := h.rd.far b o e
  exact hk.block b (by omega) (by omega) (by omega)
theorem kp_turned {M : Nat} {w w' : World} (h : w.mapTurned w' M) (hM : M + 1 < w.heap.size) : Kp M w w' ∧ w'.heap[M + 1]? = w.heap[M + 1]? := by
  have g := h.grown
  exact ⟨⟨g.os, g.tape, g.output, g.size, fun k hk h1 _ => g.block k hk (by simp; omega)⟩, g.block (M + 1) hM (by simp)⟩

set_option maxRecDepth 100000 in
set_option maxHeartbeats 1000000 in
theorem let_any {M : Nat} {tvl : Value} {L : List Tk} {σ : St} (hL : EndL L) (hS : Short L) (hfew : σ.lets.length ≤ 10000) (w : World) (h : Rd M tvl L σ w) :
    Calls Tryz.prog 45 #[rp M] w fun e w' => e = .returned (.tuple #[]) ∧ Aft M tvl L w (letM L σ) w' := by
  have HL : Hid (EndL L) := hL
  have cN := name_any hL w h
  have hsl := hS.name σ
  have hl1 : (nameM L σ).2.lets = σ.lets := by unfold nameM; split <;> rfl
  have hl2 : ∀ s σ, (needsM L s σ).lets = σ.lets := by intro s σ; unfold needsM; split <;> rfl
  have hl3 : ∀ σ, (numberM L σ).2.lets = σ.lets := by intro σ; unfold numberM; split <;> rfl
  have hv5 := fun σ => hS.num σ
  have hlets : (needsM L [46] (numberM L (needsM L [61] (nameM L σ).2)).2).lets.length ≤ 10000 := by rw [hl2, hl3, hl2, hl1]; exact hfew
  unfold letM
  obtain ⟨s, σ1, e1⟩ : ∃ a σ1, nameM L σ = (a, σ1) := ⟨_, _, rfl⟩
  rw [e1] at cN hsl hlets ⊢
  dsimp only at cN hsl hlets ⊢
  obtain ⟨σ2, e2⟩ : ∃ σ2, needsM L [61] σ1 = σ2 := ⟨_, rfl⟩
  rw [e2] at hlets ⊢
  replace hv5 := hv5 σ2
  obtain ⟨v, σ3, e3⟩ : ∃ v σ3, numberM L σ2 = (v, σ3) := ⟨_, _, rfl⟩
  rw [e3] at hlets hv5 ⊢
  dsimp only at hlets hv5 ⊢
  obtain ⟨σ4, e4⟩ : ∃ σ4, needsM L [46] σ3 = σ4 := ⟨_, rfl⟩
  rw [e4] at hlets ⊢
  have E2 : Hid (needsM L [61] σ1 = σ2) := e2
  have E3 : Hid (numberM L σ2 = (v, σ3)) := e3
  have E4 : Hid (needsM L [46] σ3 = σ4) := e4
  have hwv : (Lit.int .u16 (v : Int)).wf = true := WalkArith.wf_u16 (by omega)
  have hkey := key_of s hsl
  have hmx : σ4.lets.length < maxLen := by unfold maxLen; omega
  clear h hL hS e1 e2 e3 e4 hl1 hl2 hl3 hfew
  cases hq : look σ4.lets s with
  | none =>
    have HV : Hid (({ σ4 with mis := σ4.mis || (Option.none : Option Nat).isSome, lets := (s, v) :: σ4.lets } : St) = { σ4 with lets := (s, v) :: σ4.lets }) := by show _ = _; simp
    go_enter Tryz.func45, Tryz.ntmps45
    go_wp2_with fail
    refine cN.mono ?_
    rintro e w1 ⟨rfl, ha⟩
    have HA1 : Hid (Aft M tvl L w σ1 w1) := ha
    have cE := needs_any HL.out [61] (by decide) w1 ha.rd
    rw [E2.out] at cE
    clear ha cN
    go_wp2_with fail
    refine cE.mono ?_
    rintro e w2 ⟨rfl, ha⟩
    have HA2 : Hid (Aft M tvl L w σ2 w2) := HA1.out.trans ha
    have cV := number_any5 HL.out w2 ha.rd
    rw [E3.out] at cV
    clear ha cE HA1
    go_wp2_with fail
    refine cV.mono ?_
    rintro e w3 ⟨rfl, ha⟩
    have HA3 : Hid (Aft M tvl L w σ3 w3) := HA2.out.trans ha
    have cE := needs_any HL.out [46] (by decide) w3 ha.rd
    rw [E4.out] at cE
    clear ha cV HA2
    go_wp2_with fail
    refine cE.mono ?_
    rintro e w4 ⟨rfl, ha⟩
    have HA4 : Hid (Aft M tvl L w σ4 w4) := HA3.out.trans ha
    have q2 := ha.rd.cells.2.2.1
    have hlk := ha.rd.lets.find s hsl
    rw [hq] at hlk
    obtain ⟨D, hown, h3⟩ := ha.rd.lets
    have H3 : Hid _ := h3
    clear ha cE HA3 h3
    go_wp2_with (first
      | (at_mapUpdate; refine wpList_mapUpdate_in _ rfl _ _ _ 69 rfl 9 26 law9 Tryz.underlying69 _ M _ D rfl hown hmx _ _ _ rfl rfl hkey _ [] (plainElem_int Tryz.underlying26 hwv) ?_; intro w5 hown5 hturn5)
      | go_in)
    go_end0
    refine ⟨rfl, ?_⟩
    exact HA4.out.letPut (kp_turned hturn5 HA4.out.rd.lt).1 (kp_turned hturn5 HA4.out.rd.lt).2 s v (LetsAt.put (w := w4) D H3.out hown.isMap s v hown5)
  | some u =>
    have HV : Hid (({ σ4 with mis := σ4.mis || (Option.some u).isSome, lets := (s, v) :: σ4.lets } : St) = { σ4.misd true with lets := (s, v) :: (σ4.misd true).lets }) := by show _ = _; unfold St.misd; simp
    go_enter Tryz.func45, Tryz.ntmps45
    go_wp2_with fail
    refine cN.mono ?_
    rintro e w1 ⟨rfl, ha⟩
    have HA1 : Hid (Aft M tvl L w σ1 w1) := ha
    have cE := needs_any HL.out [61] (by decide) w1 ha.rd
    rw [E2.out] at cE
    clear ha cN
    go_wp2_with fail
    refine cE.mono ?_
    rintro e w2 ⟨rfl, ha⟩
    have HA2 : Hid (Aft M tvl L w σ2 w2) := HA1.out.trans ha
    have cV := number_any5 HL.out w2 ha.rd
    rw [E3.out] at cV
    clear ha cE HA1
    go_wp2_with fail
    refine cV.mono ?_
    rintro e w3 ⟨rfl, ha⟩
    have HA3 : Hid (Aft M tvl L w σ3 w3) := HA2.out.trans ha
    have cE := needs_any HL.out [46] (by decide) w3 ha.rd
    rw [E4.out] at cE
    clear ha cV HA2
    go_wp2_with fail
    refine cE.mono ?_
    rintro e w4 ⟨rfl, ha⟩
    have HA4 : Hid (Aft M tvl L w (σ4.misd true) (w4.setCell ⟨M + 1, 4, none⟩ (.bool true))) := mised (HA3.out.trans ha)
    have q2 := ha.rd.cells.2.2.1
    have q4 := ha.rd.cells.2.2.2.2.1
    have f4 := ha.rd.free 4
    have hlk := ha.rd.lets.find s hsl
    rw [hq] at hlk
    obtain ⟨D, hown, h3⟩ := HA4.out.rd.lets
    have H3 : Hid _ := h3
    clear ha cE HA3 h3
    go_wp2_with (first
      | (at_mapUpdate; refine wpList_mapUpdate_in _ rfl _ _ _ 69 rfl 9 26 law9 Tryz.underlying69 _ M _ D rfl hown hmx _ _ _ rfl rfl hkey _ [] (plainElem_int Tryz.underlying26 hwv) ?_; intro w5 hown5 hturn5)
      | go_in)
    go_end0
    refine ⟨rfl, ?_⟩
    have := HA4.out.letPut (kp_turned hturn5 HA4.out.rd.lt).1 (kp_turned hturn5 HA4.out.rd.lt).2 s v (LetsAt.put (w := w4) D H3.out hown.isMap s v hown5)
    simpa [St.misd] using this

set_option maxRecDepth 100000 in
set_option maxHeartbeats 1000000 in
theorem fault_any {M : Nat} {tvl : Value} {L : List Tk} {σ : St} (w : World) (h : Rd M tvl L σ w) :
    Calls Tryz.prog 25 #[rp M] w fun e w' => e = .returned (.int .i64 (faultM σ : Int)) ∧ w' = w := by
  obtain ⟨c0, c1, c2, c3, c4, c5⟩ := h.cells
  clear h c0 c1 c2
  unfold faultM
  cases hb : σ.bad with
  | true =>
    rw [hb] at c3
    go_enter Tryz.func25, Tryz.ntmps25
    go_wp2
    go_ret
    exact ⟨rfl, rfl⟩
  | false =>
    rw [hb] at c3
    cases hm : σ.mis with
    | true =>
      rw [hm] at c4
      go_enter Tryz.func25, Tryz.ntmps25
      go_wp2
      go_ret
      exact ⟨rfl, rfl⟩
    | false =>
      rw [hm] at c4
      cases hd : σ.dbl with
      | true =>
        rw [hd] at c5
        go_enter Tryz.func25, Tryz.ntmps25
        go_wp2
        go_ret
        exact ⟨rfl, rfl⟩
      | false =>
        rw [hd] at c5
        go_enter Tryz.func25, Tryz.ntmps25
        go_wp2
        go_ret
        exact ⟨rfl, rfl⟩
end Go.Proofs.YtebpapmnkbehnaaGreatDoor
/- What joined and the reader's atom answer; no conditions but that the reader stands. -/
set_option linter.unusedVariables false
set_option linter.unusedSimpArgs false
namespace Go.Proofs.YtebpapmnkbehnaaGreatDoor
open Go.RowKit Go.Joins

theorem row4 {w : World} {g : Nat} {t : TypeId} {x0 x1 x2 x3 : Value} (hg : w.heap[g]? = some (.cells #[x0, x1, x2, x3] t)) :
    w.cell? ⟨g, 0, none⟩ = some x0 ∧ w.cell? ⟨g, 1, none⟩ = some x1 ∧ w.cell? ⟨g, 2, none⟩ = some x2 ∧ w.cell? ⟨g, 3, none⟩ = some x3 := by
  have c := fun j => cell_of_row w g j _ _ _ hg
  exact ⟨by simpa using c 0, by simpa using c 1, by simpa using c 2, by simpa using c 3⟩
theorem set4 {w : World} {g : Nat} {t : TypeId} {x0 x1 x2 x3 : Value} (y0 y1 y2 y3 : Value) (hg : w.heap[g]? = some (.cells #[x0, x1, x2, x3] t)) :
    ((((w.setCell ⟨g, 0, none⟩ y0).setCell ⟨g, 1, none⟩ y1).setCell ⟨g, 2, none⟩ y2).setCell ⟨g, 3, none⟩ y3).heap[g]? = some (.cells #[y0, y1, y2, y3] t) := by
  have h0 := heap_setCell_same w g 0 _ t y0 hg
  have h1 := heap_setCell_same _ g 1 _ t y1 h0
  have h2 := heap_setCell_same _ g 2 _ t y2 h1
  have h3 := heap_setCell_same _ g 3 _ t y3 h2
  simpa using h3
theorem frz4 {w : World} {g : Nat} {t : TypeId} {cs : Array Value} (hg : w.heap[g]? = some (.cells cs t)) : w.frozen? ⟨g, 0, none⟩ = false ∧ w.frozen? ⟨g, 1, none⟩ = false ∧ w.frozen? ⟨g, 2, none⟩ = false ∧ w.frozen? ⟨g, 3, none⟩ = false := by
  have f := fun j => frozen_of_row w g j _ _ hg
  exact ⟨f 0, f 1, f 2, f 3⟩
/-- A policy's cells, nothing in them. -/
abbrev nobj : Obj := .cells #[.int .i64 0, .int .i64 0, .int .u16 0, .slice none 0 0] 29
/-- A policy's cells. -/
abbrev pobj (x : Nd) : Obj := .cells #[.int .i64 x.op, .int .i64 x.f, .int .u16 x.n, x.kv] 29
theorem own_shape {w : World} {lo e size n : Nat} {v : Value} {xs : List Value} (h : w.ownsRow lo e size v n xs) : ∃ sa sc, v = .slice sa n sc := by
  rcases h.2 with ⟨hv, hn⟩ | ⟨g, cap, cur, hv, -⟩
  · exact ⟨none, 0, by rw [hn]; exact hv⟩
  · exact ⟨_, _, hv⟩

set_option maxRecDepth 100000 in
set_option maxHeartbeats 1000000 in
theorem joined_any {lo : Nat} {P Q : Nat → Prop} (hPQ : ∀ b, P b → Q b) (hQ : ∀ b, lo ≤ b → Q b) (op : Int) (ps : List Pl) (xs : List Nd) (v : Value) (hne : xs ≠ []) (w : World) (ho : w.ownsRow lo 29 4 v xs.length (flat4 xs)) (hp : PolsAt P w ps xs) (hl : xs.length ≤ 10000) :
    Calls Tryz.prog 67 #[.int .i64 op, v] w fun e w' => ∃ x, e = .returned (nv x) ∧ PolAt Q w' (joinedM op ps) x ∧ Below w.heap.size w w' := by
  have hl2 := hp.1
  by_cases h1 : xs.length = 1
  · obtain ⟨x, rfl⟩ := List.length_eq_one_iff.1 h1
    obtain ⟨p, rfl⟩ := List.length_eq_one_iff.1 (hl2.trans h1)
    have HP : Hid (PolAt Q w p x) := (hp.2 0 (by simp) (by simp)).mono fun b h1 _ => hPQ b h1
    rcases ho.2 with ⟨hv, hn⟩ | ⟨g, cap, cur, rfl, hB, hgg, hcap, hmax, hsz, htk⟩
    · simp at hn
    · obtain ⟨a0, a1, a2, a3⟩ := own_at4 hgg rfl htk 0 (by simp)
      have hg := heap_lt hgg
      have hx1 := HP.out.one
      simp at a0 a1 a2 a3
      clear hp hl2 h1 hgg htk hne ho hl hsz hmax hPQ hQ
      have hkv := HP.out.shape.2.2.2
      obtain ⟨sa, sc, hkv⟩ := hkv
      obtain ⟨xo, xf, xn, xk⟩ := x
      dsimp only at a0 a1 a2 a3 hx1 hkv
      subst hkv
      go_enter Tryz.func67, Tryz.ntmps67
      go_wp2
      refine bodyPost_ret (v := nv ⟨xo, xf, xn, .slice sa p.kids.length sc⟩) (by simp [results, Tryz.results67, go_sem]) rfl ⟨_, rfl, HP.out.below ?_, ?_⟩
      all_goals exact (Below.refl _ w).alloc (Nat.le_refl _) _
  · have HP : Hid (PolAt Q w (joinedM op ps) ⟨op, 0, 0, v⟩) := by
      have : joinedM op ps = .mk op 0 0 ps := by
        unfold joinedM
        split
        · rename_i e; simp at hl2; omega
        · rfl
      rw [this]
      exact pol_of_own op 0 0 ho hp (fun b h1 _ => hPQ b h1) hQ
    obtain ⟨sa, sc, rfl⟩ := own_shape ho
    have d : ((xs.length : Int) == 1) = false := by simp; omega
    clear hp hl2 h1 hne ho hPQ hQ
    generalize xs.length = n at *
    go_enter Tryz.func67, Tryz.ntmps67
    go_wp2
    refine bodyPost_ret (v := nv ⟨op, 0, 0, .slice sa n sc⟩) (by simp [results, Tryz.results67, go_sem]) rfl ⟨_, rfl, HP.out.below ?_, ?_⟩
    all_goals exact (Below.refl _ w).alloc (Nat.le_refl _) _
end Go.Proofs.YtebpapmnkbehnaaGreatDoor
