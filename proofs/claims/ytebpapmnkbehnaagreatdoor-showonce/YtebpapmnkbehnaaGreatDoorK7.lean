/- What isPolFormed answers; policies of up to 100000 nodes. -/
import Derived.Test.YtebpapmnkbehnaaGreatDoorK6
import Derived.Test.YtebpapmnkbehnaaGreatDoorA6
import Derived.Test.YtebpapmnkbehnaaGreatDoorK5
set_option linter.unusedVariables false
set_option linter.unusedSimpArgs false
namespace Go.Proofs.YtebpapmnkbehnaaGreatDoor
open Go.RowKit Go.Joins

theorem formP_mk (parts op f n : Int) (kids : List Pl) : formP parts (.mk op f n kids) = (nodeB parts op f n kids && formP.formL parts kids) := by rw [formP]
set_option maxRecDepth 100000 in
set_option maxHeartbeats 4000000 in
theorem form_any {P : Nat → Prop} (parts : Int) : ∀ (m : Nat) (T : Pl) (x : Nd) (w : World), sizeP T ≤ m → m ≤ 100000 → PolAt P w T x → Calls Tryz.prog 71 #[nv x, .int .i64 parts] w fun e w' => e = .returned (.bool (formP parts T)) ∧ Below w.heap.size w w'
  | 0, T, x, w, h, _, _ => absurd (size_pos T) (by omega)
  | m + 1, .mk op f n kids, x, w, hs, hm, hp => by
    have ih := fun T x w h => form_any (P := P) parts m T x w h (by omega)
    rw [sizeP_mk] at hs
    have cN := node_any parts op f n kids x (w.alloc (pobj x)) (by omega) (hp.below ((Below.refl _ w).alloc (Nat.le_refl _) _))
    obtain ⟨sa, sc, rfl, hk⟩ := hp.open
    rw [formP_mk]
    have hl := len_le kids
    have HK : Hid _ := hk
    have IH : Hid _ := ih
    clear hk ih hp
    cases hn : nodeB parts op f n kids with
    | false =>
      rw [hn] at cN
      rw [Bool.false_and]
      clear hn HK IH
      go_enter Tryz.func71, Tryz.ntmps71
      go_wp2_with fail
      refine cN.mono ?_
      rintro e w1 ⟨rfl, hb1⟩
      go_wp2
      go_ret
      exact ⟨rfl, ((Below.refl _ w).alloc (Nat.le_refl _) _).trans (hb1.mono (by simp))⟩
    | true =>
      rw [hn] at cN
      rw [Bool.true_and]
      clear hn
      go_enter Tryz.func71, Tryz.ntmps71
      go_wp2_with fail
      refine cN.mono ?_
      rintro e w1 ⟨rfl, hb1⟩
      have HB0 : Hid (Below w.heap.size w w1) := ((Below.refl _ w).alloc (Nat.le_refl _) _).trans (hb1.mono (by simp))
      have hrow1 := row_kept hb1
      obtain ⟨r0, r1, r2, r3⟩ := row4 hrow1
      clear hb1 cN hrow1 r0 r1 r2
      go_wp2
      go_loopw [14] (fun i wr => ∃ k : Nat, k ≤ kids.length ∧ i = .int .i64 (k : Int) ∧ Hid (formP.formL parts (kids.take k) = true) ∧ Hid (Below w.heap.size w wr)) (fun i _ => kids.length - (intOf i).toNat)
      case atStart => exact ⟨0, Nat.zero_le _, rfl, by show _ = _; simp [formP.formL], HB0⟩
      case round =>
        obtain ⟨k, hkl, rfl, HT, HB⟩ := hrel
        by_cases hlt : k < kids.length
        · obtain ⟨b, off, sa2, n2, sc2, y0, y1, y2, rfl, hb, ha, hp⟩ := HK.out k hlt
          obtain ⟨a0, a1, a2, a3⟩ := ha.same (HB.out.block b hb)
          have hwr := HB.out.size
          have hsz := size_get kids k hlt
          have htk := formL_take parts kids k hlt
          rw [HT.out, Bool.true_and] at htk
          have cS := IH.out kids[k] ⟨y0, y1, y2, .slice sa2 n2 sc2⟩ (wr.alloc (pobj ⟨y0, y1, y2, .slice sa2 n2 sc2⟩)) (by omega) ((hp.below HB.out).below ((Below.refl _ _).alloc (Nat.le_refl _) _))
          have HP : Hid (formP parts kids[k] = false → formP.formL parts kids = false) := formL_false parts kids k hlt
          clear hp ha hsz
          cases hpk : formP parts kids[k] with
          | true =>
            rw [hpk] at cS htk
            have HT2 : Hid (formP.formL parts (kids.take (k + 1)) = true) := htk
            clear hpk htk
            go_wp2_with fail
            refine cS.mono ?_
            rintro e w2 ⟨rfl, hb2⟩
            have HB1 : Hid (Below w.heap.size w w2) := (HB.out.alloc hwr _).trans (hb2.mono (by simp; omega))
            clear hb2 cS
            go_wp2
            go_roundw
            case rel => exact ⟨k + 1, by omega, by go_num, HT2, HB1⟩
            case measure => simp [intOf]; omega
          | false =>
            rw [hpk] at cS
            have HP2 : Hid (formP.formL parts kids = false) := HP.out hpk
            clear hpk htk
            go_wp2_with fail
            refine cS.mono ?_
            rintro e w2 ⟨rfl, hb2⟩
            have HB1 : Hid (Below w.heap.size w w2) := (HB.out.alloc hwr _).trans (hb2.mono (by simp; omega))
            clear hb2 cS
            go_wp2
            go_ret
            exact ⟨by rw [HP2.out]; rfl, HB1.out⟩
        · obtain rfl : k = kids.length := by omega
          have HT2 : Hid (formP.formL parts kids = true) := by have := HT.out; rwa [List.take_length] at this
          go_wp2
          go_ret
          exact ⟨by rw [HT2.out]; rfl, HB.out⟩
end Go.Proofs.YtebpapmnkbehnaaGreatDoor
/- What isLong, isFormed and Check answer; policies of up to 100000 nodes, lists of up to 100000. -/
set_option linter.unusedVariables false
set_option linter.unusedSimpArgs false
namespace Go.Proofs.YtebpapmnkbehnaaGreatDoor
open Go.RowKit Go.Joins

/-- Rules lie behind a slice, in blocks of P. -/
def RulesAt (P : Nat → Prop) (w : World) (v : Value) (rs : List Rl) : Prop :=
  ∃ sa sc, v = .slice sa rs.length sc ∧ ∀ k (hk : k < rs.length), ∃ b off v1 v2 v3, sa = some ⟨b, off, none⟩ ∧ P b ∧ b < w.heap.size ∧ (w.cell? ⟨b, off + k * 3, none⟩ = some v1 ∧ w.cell? ⟨b, off + k * 3 + 1, none⟩ = some v2 ∧ w.cell? ⟨b, off + k * 3 + 2, none⟩ = some v3) ∧ RulPv P w v1 v2 v3 rs[k]
theorem RulesAt.keep {P Q : Nat → Prop} {w w' : World} {v : Value} {rs : List Rl} (h : RulesAt P w v rs) (hs : w.heap.size ≤ w'.heap.size) (hk : ∀ b, P b → b < w.heap.size → Q b ∧ w'.heap[b]? = w.heap[b]?) : RulesAt Q w' v rs := by
  obtain ⟨sa, sc, e, hc⟩ := h
  refine ⟨sa, sc, e, fun k hkk => ?_⟩
  obtain ⟨b, off, v1, v2, v3, e1, hp, hlt, ⟨a0, a1, a2⟩, hr⟩ := hc k hkk
  have q : ∀ o, w'.cell? ⟨b, o, none⟩ = w.cell? ⟨b, o, none⟩ := fun o => World.cell?_of_block (w := w) (w' := w') (hk b hp hlt).2
  exact ⟨b, off, v1, v2, v3, e1, (hk b hp hlt).1, Nat.lt_of_lt_of_le hlt hs, ⟨by rw [q]; exact a0, by rw [q]; exact a1, by rw [q]; exact a2⟩, hr.keep hs hk⟩
theorem RulesAt.below {P : Nat → Prop} {w w' : World} {v : Value} {rs : List Rl} (h : RulesAt P w v rs) (hb : Below w.heap.size w w') : RulesAt P w' v rs := h.keep hb.size fun b h1 h2 => ⟨h1, hb.block b h2⟩
/-- A program as a value: its numbers, its policy, its rules. -/
abbrev pgv (i : Value) (x : Nd) (r : Value) : Value := .agg #[i, .int .i64 x.op, .int .i64 x.f, .int .u16 x.n, x.kv, r]
abbrev gobj (i : Value) (x : Nd) (r : Value) : Obj := .cells #[i, .int .i64 x.op, .int .i64 x.f, .int .u16 x.n, x.kv, r] 34
/-- A program lies there. -/
structure PgAt (P : Nat → Prop) (w : World) (iv : Value) (x : Nd) (rv : Value) (p : Pg) : Prop where
  ini : ∃ sa sc, iv = .slice sa p.init.length sc
  pol : PolAt P w p.pol x
  rul : RulesAt P w rv p.rules
theorem PgAt.below {P : Nat → Prop} {w w' : World} {iv : Value} {x : Nd} {rv : Value} {p : Pg} (h : PgAt P w iv x rv p) (hb : Below w.heap.size w w') : PgAt P w' iv x rv p := ⟨h.ini, h.pol.below hb, h.rul.below hb⟩
theorem PgAt.keep {P Q : Nat → Prop} {w w' : World} {iv : Value} {x : Nd} {rv : Value} {p : Pg} (h : PgAt P w iv x rv p) (hs : w.heap.size ≤ w'.heap.size) (hk : ∀ b, P b → b < w.heap.size → Q b ∧ w'.heap[b]? = w.heap[b]?) : PgAt Q w' iv x rv p := ⟨h.ini, PolAt.keep hs hk _ _ h.pol, h.rul.keep hs hk⟩
/-- It is not too great. -/
structure PgShort (p : Pg) : Prop where
  i : p.init.length ≤ 100000
  s : sizeP p.pol ≤ 100000
  r : p.rules.length ≤ 100000
  l : ∀ r ∈ p.rules, RlShort r
theorem nat0 (k : Nat) : (((k : Int) == 0) = true ∧ decide (k = 0) = true) ∨ (((k : Int) == 0) = false ∧ decide (k = 0) = false) := nat_int0 k
theorem nat4 (k : Nat) : (decide ((4 : Int) < (k : Int)) = true ∧ decide (4 < k) = true) ∨ (decide ((4 : Int) < (k : Int)) = false ∧ decide (4 < k) = false) := by
  by_cases h : 4 < k
  · exact .inl ⟨by simp; omega, by simp [h]⟩
  · exact .inr ⟨by simp; omega, by simp [h]⟩
theorem nat24 (k : Nat) : (decide ((24 : Int) < (k : Int)) = true ∧ decide (24 < k) = true) ∨ (decide ((24 : Int) < (k : Int)) = false ∧ decide (24 < k) = false) := by
  by_cases h : 24 < k
  · exact .inl ⟨by simp; omega, by simp [h]⟩
  · exact .inr ⟨by simp; omega, by simp [h]⟩

set_option maxRecDepth 100000 in
set_option maxHeartbeats 4000000 in
theorem long_any {P : Nat → Prop} (p : Pg) (iv : Value) (x : Nd) (rv : Value) (hs : PgShort p) (w : World) (h : PgAt P w iv x rv p) : Calls Tryz.prog 51 #[pgv iv x rv] w fun e w' => e = .returned (.bool (longB p)) ∧ Below w.heap.size w w' := by
  have hb0 := (Below.refl _ w).alloc (Nat.le_refl _) (gobj iv x rv)
  have hp0 := h.pol.below hb0
  have cR := room_any 100000 p.pol x 300 20 _ hs.s (by omega) (by omega) (by omega) (by omega) (by omega) hp0
  have hbd := room_bd p.pol 300 20 (by omega)
  have hrn := room_neg p.pol
  obtain ⟨sa, sc, rfl⟩ := h.ini
  obtain ⟨sr, scr, rfl, -⟩ := h.rul
  obtain ⟨-, -, -, sk, skc, hkv⟩ := h.pol.shape
  obtain ⟨xo, xf, xn, xk⟩ := x
  dsimp only at hkv
  subst hkv
  have hi := hs.i
  have hr := hs.r
  have e : longB p = (decide (p.init.length = 0) || decide (4 < p.init.length) || decide (24 < p.rules.length) || (decide (300 < sizeP p.pol) || decide (20 < depthP p.pol))) := by unfold longB; simp only [Bool.or_assoc]
  rw [e, ← hrn]
  have h0 := nat0 p.init.length
  have h4 := nat4 p.init.length
  have h24 := nat24 p.rules.length
  clear e hrn hp0 h hs
  generalize roomP p.pol 300 20 = z at *
  generalize p.pol.kids.length = kn at *
  generalize p.init.length = n at *
  generalize p.rules.length = rn at *
  rcases h0 with ⟨k1, k2⟩ | ⟨k1, k2⟩
  · rw [k2]
    simp only [Bool.true_or]
    clear k2 h4 h24 cR
    go_enter Tryz.func51, Tryz.ntmps51
    go_wp2
    go_ret
    exact ⟨rfl, hb0⟩
  · rw [k2, Bool.false_or]
    clear k2
    rcases h4 with ⟨k3, k4⟩ | ⟨k3, k4⟩
    · rw [k4]
      simp only [Bool.true_or]
      clear k4 h24 cR
      go_enter Tryz.func51, Tryz.ntmps51
      go_wp2
      go_ret
      exact ⟨rfl, hb0⟩
    · rw [k4, Bool.false_or]
      clear k4
      rcases h24 with ⟨k5, k6⟩ | ⟨k5, k6⟩
      · rw [k6]
        simp only [Bool.true_or]
        clear k6 cR
        go_enter Tryz.func51, Tryz.ntmps51
        go_wp2
        go_ret
        exact ⟨rfl, hb0⟩
      · rw [k6, Bool.false_or]
        clear k6
        have HB : Hid _ := hb0
        clear hb0
        go_enter Tryz.func51, Tryz.ntmps51
        go_wp2_with fail
        refine cR.mono ?_
        rintro e w1 ⟨rfl, hb1⟩
        have HB1 : Hid (Below w.heap.size w w1) := HB.out.trans (hb1.mono HB.out.size)
        clear hb1 cR HB
        go_wp2
        go_ret
        exact ⟨rfl, HB1.out⟩
end Go.Proofs.YtebpapmnkbehnaaGreatDoor
