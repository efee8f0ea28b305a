/- How a program's rules lie in memory while they are read; no conditions. -/
import Derived.Test.YtebpapmnkbehnaaGreatDoorP12
import Derived.Test.YtebpapmnkbehnaaGreatDoorQ6
import Derived.Test.YtebpapmnkbehnaaGreatDoorK7
import Derived.Deep.AppendLies
import Derived.Deep.RegionLaw
set_option linter.unusedVariables false
set_option linter.unusedSimpArgs false
namespace Go.Proofs.YtebpapmnkbehnaaGreatDoor
open Go.RowKit Go.Joins

/-- A rule's three slices. -/
structure R3 where
  a : Value
  b : Value
  c : Value
def enc3r (x : R3) : List Value := [x.a, x.b, x.c]
def flatR (L : List R3) : List Value := L.flatMap enc3r
theorem flatR_append (a b : List R3) : flatR (a ++ b) = flatR a ++ flatR b := by simp [flatR]
theorem flatR_one (x : R3) : flatR [x] = enc3r x := by simp [flatR]
theorem flatR_get : ∀ (L : List R3) (i : Nat) (h : i < L.length) (j : Nat), j < 3 → (flatR L)[i * 3 + j]? = (enc3r L[i])[j]?
  | x :: r, 0, _, j, hj => by
    simp only [flatR, List.flatMap_cons]
    rw [List.getElem?_append_left (by rw [show (enc3r x).length = 3 from rfl]; omega)]
    simp
  | x :: r, i + 1, h, j, hj => by
    have := flatR_get r i (by simpa using h) j hj
    simp only [flatR, List.flatMap_cons] at this ⊢
    rw [List.getElem?_append_right (by rw [show (enc3r x).length = 3 from rfl]; omega), show (enc3r x).length = 3 from rfl, show (i + 1) * 3 + j - 3 = i * 3 + j by omega, this]
    rfl
abbrev RulP (P : Nat → Prop) (w : World) (x : R3) (r : Rl) : Prop := RulPv P w x.a x.b x.c r
theorem rulP_one {P : Nat → Prop} {w : World} {x : R3} {r : Rl} (h : RulP P w x r) : ∀ u ∈ enc3r x, u.oneCell' = true := by
  obtain ⟨s1, c1, e1, _⟩ := h.p1
  obtain ⟨s2, c2, e2, _⟩ := h.p2
  obtain ⟨s3, c3, e3, _⟩ := h.p3
  intro u hu
  simp [enc3r, e1, e2, e3] at hu
  rcases hu with rfl | rfl | rfl <;> rfl
def RulsP (P : Nat → Prop) (w : World) (xs : List R3) (rs : List Rl) : Prop := rs.length = xs.length ∧ ∀ i (h : i < rs.length) (h' : i < xs.length), RulP P w xs[i] rs[i]
theorem RulsP.keep {P Q : Nat → Prop} {w w' : World} {xs : List R3} {rs : List Rl} (h : RulsP P w xs rs) (hs : w.heap.size ≤ w'.heap.size) (hk : ∀ b, P b → b < w.heap.size → Q b ∧ w'.heap[b]? = w.heap[b]?) : RulsP Q w' xs rs := ⟨h.1, fun i a b => (h.2 i a b).keep hs hk⟩
theorem RulsP.snoc {P : Nat → Prop} {w : World} {xs : List R3} {rs : List Rl} {x : R3} {r : Rl} (h : RulsP P w xs rs) (hp : RulP P w x r) : RulsP P w (xs ++ [x]) (rs ++ [r]) := by
  refine ⟨by simp [h.1], fun i a b => ?_⟩
  by_cases hi : i < rs.length
  · rw [List.getElem_append_left hi, List.getElem_append_left (by rw [← h.1]; exact hi)]; exact h.2 i hi (by rw [← h.1]; exact hi)
  · have e : i = rs.length := by simp at a; omega
    subst e
    have h1 := h.1
    simp [h1, hp]
theorem rules_of_own {P Q : Nat → Prop} {lo : Nat} {w : World} {v : Value} {xs : List R3} {rs : List Rl} (ho : w.ownsRow lo 48 3 v rs.length (flatR xs)) (hp : RulsP P w xs rs) (hPQ : ∀ b, P b → Q b) (hQ : ∀ b, lo ≤ b → Q b) : RulesAt Q w v rs := by
  rcases ho.2 with ⟨hv, hn⟩ | ⟨g, cap, cur, hv, hB, hgg, hcap, hmax, hsz, htk⟩
  · have : rs = [] := List.length_eq_zero_iff.1 hn
    subst this
    exact ⟨none, 0, hv, fun k hk => by simp at hk⟩
  · refine ⟨_, cap, hv, fun k hk => ?_⟩
    have hk' : k < xs.length := by rw [← hp.1]; exact hk
    have c : ∀ j, j < 3 → w.cell? ⟨g, 0 + k * 3 + j, none⟩ = (enc3r xs[k])[j]? := by
      intro j hj
      rw [cell_of_row _ _ _ _ _ _ hgg]
      have hlt : k * 3 + j < rs.length * 3 := by omega
      have := flatR_get xs k hk' j hj
      rw [← htk, List.getElem?_take_of_lt hlt, Array.getElem?_toList] at this
      rw [show 0 + k * 3 + j = k * 3 + j by omega]
      exact this
    have h := (hp.2 k hk hk').keep (Q := Q) (Nat.le_refl _) fun b hb _ => ⟨hPQ b hb, rfl⟩
    exact ⟨g, 0, xs[k].a, xs[k].b, xs[k].c, rfl, hQ g hB, heap_lt hgg, ⟨c 0 (by decide), c 1 (by decide), c 2 (by decide)⟩, h⟩
theorem rulP_of_v {lo : Nat} {w : World} {r : Rl} {v1 v2 v3 : Value} (h : RlV lo w r v1 v2 v3) : RulP (fun b => lo ≤ b) w ⟨v1, v2, v3⟩ r := ⟨prsP_of_own h.o1, prsP_of_own h.o2, prsP_of_own h.o3⟩

theorem rulesM_succ (L : List Tk) (k : Nat) (l : List Rl) (σ : St) : rulesM L (k + 1) l σ = if isNext L [111, 110] σ then rulesM L k (l ++ [(ruleM L σ.next).1]) (needsM L [46] (ruleM L σ.next).2) else (l, σ) := rfl
theorem rulesM_stop (L : List Tk) (k : Nat) (l : List Rl) (σ : St) (h : isNext L [111, 110] σ = false) : rulesM L k l σ = (l, σ) := by
  cases k with
  | zero => rfl
  | succ k => rw [rulesM_succ, if_neg (by rw [h]; decide)]
theorem rules_mid (L : List Tk) : ∀ (k : Nat) (l : List Rl) (σ : St), (rulesM L k l σ).2.mid = false → σ.mid = false
  | 0, l, σ, h => h
  | k + 1, l, σ, h => by
    rw [rulesM_succ] at h
    split at h
    · have := rules_mid L k _ _ h
      rw [needs_mid] at this
      exact rule_mid (L := L) (σ := σ.next) this
    · exact h
/-- What stands while rules are read. -/
structure GSt (L : List Tk) (M : Nat) (tvl : Value) (ws : World) (G : Nat) (iv : Value) (x : Nd) (fin : List Rl × St) (rs : List Rl) (xs : List R3) (σ : St) (k : Nat) (v : Value) (wr : World) : Prop where
  fin : rulesM L k rs σ = fin
  fuel : L.length ≤ σ.pos + k
  rd : Rd M tvl L σ wr
  os : wr.os = ws.os
  tape : wr.tape = ws.tape
  output : wr.output = ws.output
  size : ws.heap.size ≤ wr.heap.size
  block : ∀ b, b < ws.heap.size → b ≠ M → b ≠ M + 1 → b ≠ G → wr.heap[b]? = ws.heap[b]?
  row : wr.heap[G]? = some (gobj iv x v)
  own : wr.ownsRow ws.heap.size 48 3 v rs.length (flatR xs)
  rls : RulsP (fun b => ws.heap.size ≤ b ∧ some b ≠ v.ownBlock) wr xs rs
  few : rs.length + k ≤ L.length
/-- Behind the append and the store. -/
theorem GSt.mid {L : List Tk} {M : Nat} {tvl : Value} {ws : World} {G : Nat} {iv : Value} {x : Nd} {fin : List Rl × St} {rs : List Rl} {xs : List R3} {σ : St} {k : Nat} {v v5 : Value} {wr w3 w5 : World} {r : Rl} {σ' : St} {y : R3} {lo : Nat}
    (h : GSt L M tvl ws G iv x fin rs xs σ k v wr) (hG : M + 2 ≤ G) (hGs : G < ws.heap.size) (h3 : Aft M tvl L wr σ' w3) (hlo : wr.heap.size ≤ lo) (hv : RlV lo w3 r y.a y.b y.c)
    (ho : w5.ownsRow ws.heap.size 48 3 v5 (rs.length + 1) (flatR xs ++ enc3r y)) (hgr : (w3.alloc (robj3 y.a y.b y.c)).grownBy w5 v.ownBlock) (hloc : v5.ownBlock = v.ownBlock ∨ v5.ownBlock = some (w3.alloc (robj3 y.a y.b y.c)).heap.size) :
    Rd M tvl L σ' (w5.setCell ⟨G, 5, none⟩ v5) ∧ (w5.setCell ⟨G, 5, none⟩ v5).os = ws.os ∧ (w5.setCell ⟨G, 5, none⟩ v5).tape = ws.tape ∧ (w5.setCell ⟨G, 5, none⟩ v5).output = ws.output ∧ ws.heap.size ≤ (w5.setCell ⟨G, 5, none⟩ v5).heap.size ∧
      (∀ b, b < ws.heap.size → b ≠ M → b ≠ M + 1 → b ≠ G → (w5.setCell ⟨G, 5, none⟩ v5).heap[b]? = ws.heap[b]?) ∧ w5.heap[G]? = some (gobj iv x v) ∧ (w5.setCell ⟨G, 5, none⟩ v5).heap[G]? = some (gobj iv x v5) ∧
      (w5.setCell ⟨G, 5, none⟩ v5).ownsRow ws.heap.size 48 3 v5 (rs.length + 1) (flatR (xs ++ [y])) ∧ RulsP (fun b => ws.heap.size ≤ b ∧ some b ≠ v5.ownBlock) (w5.setCell ⟨G, 5, none⟩ v5) (xs ++ [y]) (rs ++ [r]) := by
  have s1 := h.size
  have s3 := h3.kp.size
  have sa : (w3.alloc (robj3 y.a y.b y.c)).heap.size = w3.heap.size + 1 := by simp
  have hsz5 : w3.heap.size ≤ w5.heap.size := Nat.le_trans (by omega) hgr.size
  have hvlt : ∀ j, v.ownBlock = some j → ws.heap.size ≤ j ∧ j < wr.heap.size := fun j hj => h.own.lt j hj
  have kb : ∀ b, b < w3.heap.size → some b ≠ v.ownBlock → w5.heap[b]? = w3.heap[b]? := fun b hb hn => (hgr.block b (by omega) hn).trans (Below.heap_alloc _ _ _ hb)
  have ks : ∀ b, b < ws.heap.size → some b ≠ v.ownBlock := fun b hb e => by have := (hvlt b e.symm).1; omega
  have hnew : ∀ b, b < w3.heap.size → some b ≠ v.ownBlock → some b ≠ v5.ownBlock := by
    intro b hb hn
    rcases hloc with e | e
    · rw [e]; exact hn
    · rw [e, sa]; simp; omega
  have hset : ∀ b, b ≠ G → (w5.setCell ⟨G, 5, none⟩ v5).heap[b]? = w5.heap[b]? := fun b hb => Below.heap_setCell _ _ _ _ hb
  have hG5 : w5.heap[G]? = some (gobj iv x v) := (kb G (by omega) (ks G hGs)).trans (h3.row hG h.row)
  have hM3 := h3.rd.lt
  have hGw := heap_lt h.row
  refine ⟨?_, ?_, ?_, ?_, ?_, ?_, hG5, ?_, ?_, ?_⟩
  · exact h3.rd.low ⟨by show w5.os = _; rw [hgr.os]; rfl, by show w5.tape = _; rw [hgr.tape]; rfl, by show w5.output = _; rw [hgr.output]; rfl, by simpa [World.setCell] using hsz5, fun b hb => by rw [hset b (by omega)]; exact kb b (by omega) (ks b (by omega))⟩
  · show w5.os = _; rw [hgr.os]; exact h3.kp.os.trans h.os
  · show w5.tape = _; rw [hgr.tape]; exact h3.kp.tape.trans h.tape
  · show w5.output = _; rw [hgr.output]; exact h3.kp.output.trans h.output
  · have : ws.heap.size ≤ w5.heap.size := by omega
    simpa [World.setCell] using this
  · intro b hb h1 h2 hg
    rw [hset b hg, kb b (by omega) (ks b hb), h3.kp.block b (by omega) h1 h2]
    exact h.block b hb h1 h2 hg
  · have := heap_setCell_same w5 G 5 _ 34 v5 hG5
    simpa using this
  · rw [flatR_append, flatR_one]
    exact ownsRow_setCell_below ho hGs _
  · have hk5 : ∀ b, ws.heap.size ≤ b → b < w3.heap.size → some b ≠ v.ownBlock → (w5.setCell ⟨G, 5, none⟩ v5).heap[b]? = w3.heap[b]? := fun b hb hl hn => by rw [hset b (by omega)]; exact kb b hl hn
    have hsz6 : w3.heap.size ≤ (w5.setCell ⟨G, 5, none⟩ v5).heap.size := by simpa [World.setCell] using hsz5
    refine RulsP.snoc ?_ ?_
    · refine h.rls.keep (by omega) fun b hb hlt => ?_
      obtain ⟨hb1, hb2⟩ := hb
      refine ⟨⟨hb1, hnew b (by omega) hb2⟩, ?_⟩
      rw [hk5 b hb1 (by omega) hb2, h3.kp.block b (by omega) (by omega) (by omega)]
    · refine (rulP_of_v hv).keep hsz6 fun b hb hlt => ?_
      have hb' : lo ≤ b := hb
      have hne : some b ≠ v.ownBlock := fun e => by have := (hvlt b e.symm).2; omega
      exact ⟨⟨by omega, hnew b hlt hne⟩, hk5 b (by omega) hlt hne⟩
/-- One rule more. -/
theorem GSt.app {L : List Tk} {M : Nat} {tvl : Value} {ws : World} {G : Nat} {iv : Value} {x : Nd} {fin : List Rl × St} {rs : List Rl} {xs : List R3} {σ : St} {k : Nat} {v v5 : Value} {wr W w6 : World} {y : R3}
    (h : GSt L M tvl ws G iv x fin rs xs σ (k + 1) v wr) (hi : isNext L [111, 110] σ = true) (hG : M + 2 ≤ G) (hGs : G < ws.heap.size) (hup : Up L σ.next (needsM L [46] (ruleM L σ.next).2))
    (ho : W.os = ws.os) (ht : W.tape = ws.tape) (hou : W.output = ws.output) (hsz : ws.heap.size ≤ W.heap.size) (hbl : ∀ b, b < ws.heap.size → b ≠ M → b ≠ M + 1 → b ≠ G → W.heap[b]? = ws.heap[b]?) (hrow : W.heap[G]? = some (gobj iv x v5))
    (hown : W.ownsRow ws.heap.size 48 3 v5 (rs.length + 1) (flatR (xs ++ [y]))) (hrl : RulsP (fun b => ws.heap.size ≤ b ∧ some b ≠ v5.ownBlock) W (xs ++ [y]) (rs ++ [(ruleM L σ.next).1])) (h6 : Aft M tvl L W (needsM L [46] (ruleM L σ.next).2) w6) :
    GSt L M tvl ws G iv x fin (rs ++ [(ruleM L σ.next).1]) (xs ++ [y]) (needsM L [46] (ruleM L σ.next).2) k v5 w6 := by
  have hf := h.fin
  rw [rulesM_succ, if_pos hi] at hf
  have hfu := h.fuel
  have hfe := h.few
  have hpos : σ.next.pos = σ.pos + 1 := rfl
  have hu := hup.1
  refine ⟨hf, by omega, h6.rd, h6.kp.os.trans ho, h6.kp.tape.trans ht, h6.kp.output.trans hou, Nat.le_trans hsz h6.kp.size, fun b hb h1 h2 hg => (h6.kp.block b (by omega) h1 h2).trans (hbl b hb h1 h2 hg), h6.row hG hrow, by rw [List.length_append]; exact h6.kp.own (by omega) hown, hrl.keep h6.kp.size fun b hb hl => ⟨hb, h6.kp.block b hl (by have := hb.1; omega) (by have := hb.1; omega)⟩, by rw [List.length_append, List.length_singleton]; omega⟩
end Go.Proofs.YtebpapmnkbehnaaGreatDoor
/- What the reader's program answers, where pairs are put at a list's end; no conditions but that the reader stands. -/
set_option linter.unusedVariables false
set_option linter.unusedSimpArgs false
namespace Go.Proofs.YtebpapmnkbehnaaGreatDoor
open Go.RowKit Go.Joins

theorem info51 : (Tryz.prog.info? 48).map (fun i => (i.zero, i.size, i.bytes)) = some (some (.agg #[.slice none 0 0, .slice none 0 0, .slice none 0 0]), 3, 72) := by kernel_rfl
abbrev nd0 : Nd := ⟨0, 0, 0, .slice none 0 0⟩
abbrev gz : Obj := gobj (.slice none 0 0) nd0 (.slice none 0 0)
/-! ### Lets -/
theorem up_let {L : List Tk} (hL : EndL L) {σ : St} (h : Ok L σ) : Up L σ (letM L σ) := by
  unfold letM
  have h1 := up_name hL h
  have h2 := h1.trans (up_needs hL (s := [61]) (by decide) h1.2)
  have h3 := h2.trans (up_number hL h2.2)
  have h4 := h3.trans (up_needs hL (s := [46]) (by decide) h3.2)
  exact h4
theorem let_mid (L : List Tk) (σ : St) : (letM L σ).mid = σ.mid := by
  unfold letM
  show (needsM L [46] (numberM L (needsM L [61] (nameM L σ).2)).2).mid = σ.mid
  rw [needs_mid, number_mid, needs_mid, name_mid]
theorem needs_lets (L : List Tk) (s : List UInt8) (σ : St) : (needsM L s σ).lets = σ.lets := by unfold needsM; split <;> rfl
theorem number_lets (L : List Tk) (σ : St) : (numberM L σ).2.lets = σ.lets := by unfold numberM; split <;> rfl
theorem name_lets (L : List Tk) (σ : St) : (nameM L σ).2.lets = σ.lets := by unfold nameM; split <;> rfl
theorem let_lets (L : List Tk) (σ : St) : (letM L σ).lets.length = σ.lets.length + 1 := by
  have e : (needsM L [46] (numberM L (needsM L [61] (nameM L σ).2)).2).lets = σ.lets := by rw [needs_lets, number_lets, needs_lets, name_lets]
  show (_ :: (needsM L [46] (numberM L (needsM L [61] (nameM L σ).2)).2).lets).length = _
  rw [e, List.length_cons]
theorem start_lets (L : List Tk) (σ : St) : (startM L σ).2.lets = σ.lets := by
  have hn : ∀ (k : Nat) (l : List Nat) (σ : St), (numsM L k l σ).2.lets = σ.lets := by
    intro k
    induction k with
    | zero => intro l σ; rfl
    | succ k ih =>
      intro l σ
      rw [numsM_succ]
      split
      · rw [ih]; rfl
      · rfl
  unfold startM
  show (needsM L [46] (numsM L L.length [_] _).2).lets = _
  rw [needs_lets, hn, number_lets, needs_lets]
theorem start_mid (L : List Tk) (σ : St) : (startM L σ).2.mid = σ.mid := by
  have hn : ∀ (k : Nat) (l : List Nat) (σ : St), (numsM L k l σ).2.mid = σ.mid := by
    intro k
    induction k with
    | zero => intro l σ; rfl
    | succ k ih =>
      intro l σ
      rw [numsM_succ]
      split
      · rw [ih]; rfl
      · rfl
  unfold startM
  show (needsM L [46] (numsM L L.length [_] _).2).mid = _
  rw [needs_mid, hn, number_mid, needs_mid]
theorem up_start {L : List Tk} (hL : EndL L) {σ : St} (h : Ok L σ) : Up L σ (startM L σ).2 := by
  have h1 := up_needs hL (s := [105, 110, 105, 116]) (by decide) h
  have h2 := h1.trans (up_number hL h1.2)
  have h3 := h2.trans (up_nums hL L.length [(numberM L (needsM L [105, 110, 105, 116] σ)).1] _ h2.2)
  exact h3.trans (up_needs hL (s := [46]) (by decide) h3.2)
theorem letsM_succ (L : List Tk) (k : Nat) (σ : St) : letsM L (k + 1) σ = if isNext L [108, 101, 116] σ then letsM L k (letM L σ.next) else σ := rfl
theorem letsM_stop (L : List Tk) (k : Nat) (σ : St) (h : isNext L [108, 101, 116] σ = false) : letsM L k σ = σ := by
  cases k with
  | zero => rfl
  | succ k => rw [letsM_succ, if_neg (by rw [h]; decide)]
theorem lets_mid (L : List Tk) : ∀ (k : Nat) (σ : St), (letsM L k σ).mid = σ.mid
  | 0, σ => rfl
  | k + 1, σ => by
    rw [letsM_succ]
    split
    · rw [lets_mid L k, let_mid]; rfl
    · rfl
theorem up_lets {L : List Tk} (hL : EndL L) : ∀ (k : Nat) (σ : St), Ok L σ → Up L σ (letsM L k σ)
  | 0, σ, h => ⟨Nat.le_refl _, h⟩
  | k + 1, σ, h => by
    rw [letsM_succ]
    split
    · have h1 := next_of_is (s := [108, 101, 116]) hL h (by decide) ‹_›
      have h2 := (up_next h1).trans (up_let hL h1)
      exact h2.trans (up_lets hL k _ h2.2)
    · exact ⟨Nat.le_refl _, h⟩
end Go.Proofs.YtebpapmnkbehnaaGreatDoor
