/- What the reader's when and then answer, where pairs are put at a list's end; no conditions but that the reader stands. -/
import Derived.Test.YtebpapmnkbehnaaGreatDoorQ8
set_option linter.unusedVariables false
set_option linter.unusedSimpArgs false
namespace Go.Proofs.YtebpapmnkbehnaaGreatDoor
open Go.RowKit Go.Joins

/-! ### Rules as lists -/
/-- Lists that rise, of so many pairs. -/
structure RlOk (r : Rl) (n : Nat) : Prop where
  r1 : Rises r.when
  r2 : Rises r.guard
  r3 : Rises r.thn
  l1 : r.when.length ≤ n
  l2 : r.guard.length ≤ n
  l3 : r.thn.length ≤ n
theorem rises_snoc {l : List Pr} {c : Pr} (h : Rises l) (ha : allLt l c.1 = true) : Rises (l ++ [c]) := by
  intro i j hi hj hij
  by_cases hj2 : j < l.length
  · rw [List.getElem_append_left (by omega), List.getElem_append_left hj2]
    exact h i j (by omega) hj2 hij
  · have hj3 : j = l.length := by simp at hj; omega
    subst hj3
    rw [List.getElem_append_left hij]
    have := List.all_eq_true.1 ha l[i] (List.getElem_mem hij)
    simpa using this
theorem rises_iff (l : List Pr) : Rises l ↔ l.Pairwise (fun a b => a.1 < b.1) := by
  unfold Rises
  rw [List.pairwise_iff_getElem]
theorem ins_cons (x : Pr) (r : List Pr) (c : Pr) : ins (x :: r) c = if x.1 < c.1 then x :: ins r c else c :: x :: r := by
  unfold ins
  rw [List.takeWhile_cons, List.dropWhile_cons]
  by_cases h : x.1 < c.1 <;> simp [h]
theorem mem_ins (l : List Pr) (c y : Pr) : y ∈ ins l c ↔ y = c ∨ y ∈ l := by
  induction l with
  | nil => simp [ins]
  | cons x r ih =>
    rw [ins_cons]
    split
    · rw [List.mem_cons, ih, List.mem_cons]
      constructor
      · rintro (h | h | h)
        · exact .inr (.inl h)
        · exact .inl h
        · exact .inr (.inr h)
      · rintro (h | h | h)
        · exact .inr (.inl h)
        · exact .inl h
        · exact .inr (.inr h)
    · rw [List.mem_cons]
theorem ins_len (l : List Pr) (c : Pr) : (ins l c).length = l.length + 1 := by
  induction l with
  | nil => rfl
  | cons x r ih =>
    rw [ins_cons]
    split
    · rw [List.length_cons, ih, List.length_cons]
    · rfl
theorem rises_ins {l : List Pr} {c : Pr} (h : Rises l) (hf : hasF l c.1 = false) : Rises (ins l c) := by
  rw [rises_iff] at h ⊢
  induction l with
  | nil => simp [ins]
  | cons x r ih =>
    rw [List.pairwise_cons] at h
    have hx : x.1 ≠ c.1 := fun e => by simp [hasF, e] at hf
    have hr : hasF r c.1 = false := by
      unfold hasF at hf ⊢
      rw [List.any_cons, Bool.or_eq_false_iff] at hf
      exact hf.2
    rw [ins_cons]
    split
    · rename_i hlt
      rw [List.pairwise_cons]
      refine ⟨fun y hy => ?_, ih h.2 hr⟩
      rcases (mem_ins r c y).1 hy with rfl | hy
      · exact hlt
      · exact h.1 y hy
    · rename_i hlt
      rw [List.pairwise_cons, List.pairwise_cons]
      refine ⟨fun y hy => ?_, h.1, h.2⟩
      rcases List.mem_cons.1 hy with rfl | hy
      · omega
      · have := h.1 y hy; omega
theorem with_ok {l : List Pr} {c : Pr} {σ : St} (h : Rises l) (hm : (withM l c σ).2.mid = false) : Rises (withM l c σ).1 ∧ (withM l c σ).1.length ≤ l.length + 1 := by
  unfold withM
  split
  · exact ⟨h, by simp⟩
  · rename_i hf
    exact ⟨rises_ins h (by simpa using hf), by rw [ins_len]; exact Nat.le_refl _⟩

/-! ### Rules in memory -/
/-- Three lists, each in a row of its own. -/
structure RlV (lo : Nat) (w : World) (r : Rl) (v1 v2 v3 : Value) : Prop where
  o1 : w.ownsRow lo 64 2 v1 r.when.length (flat2 r.when)
  o2 : w.ownsRow lo 64 2 v2 r.guard.length (flat2 r.guard)
  o3 : w.ownsRow lo 64 2 v3 r.thn.length (flat2 r.thn)
  d12 : ∀ b, v1.ownBlock = some b → v2.ownBlock ≠ some b
  d13 : ∀ b, v1.ownBlock = some b → v3.ownBlock ≠ some b
  d23 : ∀ b, v2.ownBlock = some b → v3.ownBlock ≠ some b
theorem own_keep {w w' : World} {lo e size n : Nat} {v : Value} {xs : List Value} (h : w.ownsRow lo e size v n xs) (hk : ∀ b, lo ≤ b → v.ownBlock = some b → b < w.heap.size → w'.heap[b]? = w.heap[b]?) : w'.ownsRow lo e size v n xs := by
  refine ⟨h.1, ?_⟩
  rcases h.2 with hn | ⟨g, cap, cur, rfl, hg, hgg, rest⟩
  · exact .inl hn
  · exact .inr ⟨g, cap, cur, rfl, hg, by rw [hk g hg rfl (heap_lt hgg)]; exact hgg, rest⟩
theorem RlV.kp {M lo : Nat} {w w' : World} {r : Rl} {v1 v2 v3 : Value} (h : RlV lo w r v1 v2 v3) (hk : Kp M w w') (hlo : M + 2 ≤ lo) : RlV lo w' r v1 v2 v3 :=
  ⟨hk.own hlo h.o1, hk.own hlo h.o2, hk.own hlo h.o3, h.d12, h.d13, h.d23⟩
/-- What is known behind a step of the reader that may turn the rule in block G. -/
structure AftR (M : Nat) (tvl : Value) (L : List Tk) (G : Nat) (w : World) (σ' : St) (r' : Rl) (w' : World) : Prop where
  rd : Rd M tvl L σ' w'
  os : w'.os = w.os
  tape : w'.tape = w.tape
  output : w'.output = w.output
  size : w.heap.size ≤ w'.heap.size
  block : ∀ k, k < G → k ≠ M → k ≠ M + 1 → w'.heap[k]? = w.heap[k]?
  rl : ∃ v1 v2 v3, w'.heap[G]? = some (.cells #[v1, v2, v3] 48) ∧ RlV (G + 1) w' r' v1 v2 v3
theorem AftR.aft {M : Nat} {tvl : Value} {L : List Tk} {G : Nat} {w w1 w2 : World} {σ σ' : St} {r : Rl} (h : AftR M tvl L G w σ r w1) (k : Aft M tvl L w1 σ' w2) (hG : M + 2 ≤ G) (hGw : G < w1.heap.size) : AftR M tvl L G w σ' r w2 := by
  obtain ⟨v1, v2, v3, hr, hv⟩ := h.rl
  refine ⟨k.rd, k.kp.os.trans h.os, k.kp.tape.trans h.tape, k.kp.output.trans h.output, Nat.le_trans h.size k.kp.size, fun b hb h1 h2 => (k.kp.block b (by omega) h1 h2).trans (h.block b hb h1 h2), v1, v2, v3, k.kp.row hG hr, hv.kp k.kp (by omega)⟩
theorem AftR.trans {M : Nat} {tvl : Value} {L : List Tk} {G : Nat} {w w1 w2 : World} {σ σ' : St} {r r' : Rl} (h : AftR M tvl L G w σ r w1) (k : AftR M tvl L G w1 σ' r' w2) : AftR M tvl L G w σ' r' w2 :=
  ⟨k.rd, k.os.trans h.os, k.tape.trans h.tape, k.output.trans h.output, Nat.le_trans h.size k.size, fun b hb h1 h2 => (k.block b hb h1 h2).trans (h.block b hb h1 h2), k.rl⟩
theorem disj_new {v v' u : Value} {B : Nat} (hloc : v'.ownBlock = v.ownBlock ∨ ∃ b, B ≤ b ∧ v'.ownBlock = some b) (hd : ∀ b, v.ownBlock = some b → u.ownBlock ≠ some b) (hu : ∀ b, u.ownBlock = some b → b < B) : ∀ b, v'.ownBlock = some b → u.ownBlock ≠ some b := by
  intro b hb hub
  rcases hloc with e | ⟨b', h1, e⟩
  · rw [e] at hb; exact hd b hb hub
  · rw [e] at hb
    obtain rfl := Option.some.inj hb
    have := hu _ hub
    omega
/-- One list has become another: the first, the second, the third. -/
theorem RlV.put1 {M : Nat} {tvl : Value} {L : List Tk} {lo : Nat} {w w' : World} {r : Rl} {v1 v2 v3 v' : Value} {σ' : St} {l' : List Pr} (h : RlV lo w r v1 v2 v3) (hlo : M + 2 ≤ lo) (ho : w'.ownsRow lo 64 2 v' l'.length (flat2 l')) (ha : Aft2 M tvl L w σ' v1 v' w') : RlV lo w' { r with when := l' } v' v2 v3 :=
  ⟨ho, own_keep h.o2 fun b hb hv hl => ha.block b hl (by omega) (by omega) (fun e => h.d12 b e.symm hv), own_keep h.o3 fun b hb hv hl => ha.block b hl (by omega) (by omega) (fun e => h.d13 b e.symm hv),
    disj_new ha.loc h.d12 (fun b hb => (h.o2.lt b hb).2), disj_new ha.loc h.d13 (fun b hb => (h.o3.lt b hb).2), h.d23⟩
theorem RlV.put2 {M : Nat} {tvl : Value} {L : List Tk} {lo : Nat} {w w' : World} {r : Rl} {v1 v2 v3 v' : Value} {σ' : St} {l' : List Pr} (h : RlV lo w r v1 v2 v3) (hlo : M + 2 ≤ lo) (ho : w'.ownsRow lo 64 2 v' l'.length (flat2 l')) (ha : Aft2 M tvl L w σ' v2 v' w') : RlV lo w' { r with guard := l' } v1 v' v3 :=
  ⟨own_keep h.o1 fun b hb hv hl => ha.block b hl (by omega) (by omega) (fun e => h.d12 b hv e.symm), ho, own_keep h.o3 fun b hb hv hl => ha.block b hl (by omega) (by omega) (fun e => h.d23 b e.symm hv),
    fun b h1 h2 => disj_new ha.loc (fun b a c => h.d12 b c a) (fun b hb => (h.o1.lt b hb).2) b h2 h1, h.d13, disj_new ha.loc h.d23 (fun b hb => (h.o3.lt b hb).2)⟩
theorem RlV.put3 {M : Nat} {tvl : Value} {L : List Tk} {lo : Nat} {w w' : World} {r : Rl} {v1 v2 v3 v' : Value} {σ' : St} {l' : List Pr} (h : RlV lo w r v1 v2 v3) (hlo : M + 2 ≤ lo) (ho : w'.ownsRow lo 64 2 v' l'.length (flat2 l')) (ha : Aft2 M tvl L w σ' v3 v' w') : RlV lo w' { r with thn := l' } v1 v2 v' :=
  ⟨own_keep h.o1 fun b hb hv hl => ha.block b hl (by omega) (by omega) (fun e => h.d13 b hv e.symm), own_keep h.o2 fun b hb hv hl => ha.block b hl (by omega) (by omega) (fun e => h.d23 b hv e.symm), ho,
    h.d12, fun b h1 h2 => disj_new ha.loc (fun b a c => h.d13 b c a) (fun b hb => (h.o1.lt b hb).2) b h2 h1, fun b h1 h2 => disj_new ha.loc (fun b a c => h.d23 b c a) (fun b hb => (h.o2.lt b hb).2) b h2 h1⟩
theorem RlV.set {lo : Nat} {w : World} {r : Rl} {v1 v2 v3 : Value} (h : RlV lo w r v1 v2 v3) {a : Addr} (ha : a.block < lo) (u : Value) : RlV lo (w.setCell a u) r v1 v2 v3 :=
  ⟨ownsRow_setCell_below h.o1 ha u, ownsRow_setCell_below h.o2 ha u, ownsRow_setCell_below h.o3 ha u, h.d12, h.d13, h.d23⟩
/-- Behind 'with', and the store of what it answers. -/
theorem aft2_store {M : Nat} {tvl : Value} {L : List Tk} {G : Nat} {w w' : World} {σ' : St} {r' : Rl} {v v' y1 y2 y3 x1 x2 x3 : Value} (ha : Aft2 M tvl L w σ' v v' w') (hG : M + 2 ≤ G) (hGw : G < w.heap.size) (hv : ∀ b, v.ownBlock = some b → G + 1 ≤ b) (j : Nat) (u : Value)
    (hr : w'.heap[G]? = some (.cells #[x1, x2, x3] 48)) (hj : (#[x1, x2, x3] : Array Value).setIfInBounds j u = #[y1, y2, y3]) (hl : RlV (G + 1) w' r' y1 y2 y3) : AftR M tvl L G w σ' r' (w'.setCell ⟨G, j, none⟩ u) := by
  have hs := heap_setCell_same w' G j _ 48 u hr
  rw [hj] at hs
  refine ⟨ha.rd.low ((Below.refl _ _).setCell hG u), ha.os, ha.tape, ha.output, ?_, fun k hk h1 h2 => ?_, y1, y2, y3, hs, hl.set (by show G < G + 1; omega) u⟩
  · have := ha.size
    simpa [World.setCell] using this
  · rw [Below.heap_setCell _ _ _ _ (by show k ≠ G; omega)]
    exact ha.block k (by omega) h1 h2 (fun e => by have := hv k e.symm; omega)
theorem Rd.drew {M : Nat} {tvl : Value} {L : List Tk} {σ : St} {w : World} (h : Rd M tvl L σ w) : Rd M tvl L σ w.drew := h.below ((Below.refl _ _).drew)

theorem then_end {M : Nat} {tvl : Value} {L : List Tk} {G : Nat} {w0 w1 w2 w3 : World} {σ1 σ2 σ3 : St} {r : Rl} {v1 v2 v3 v4 : Value} {c : Pr} {l3 : List Pr} (h1 : AftR M tvl L G w0 σ1 r w1) (h2 : Aft M tvl L w1 σ2 w2) (hG : M + 2 ≤ G) (hGw : G < w1.heap.size) (hV : RlV (G + 1) w1 r v1 v2 v3) (hrow : w2.heap[G]? = some (.cells #[v1, v2, v3] 48))
    (hw : withM r.thn c σ2 = (l3, σ3)) (ho : w3.ownsRow (G + 1) 64 2 v4 (withM r.thn c σ2).1.length (flat2 (withM r.thn c σ2).1)) (ha : Aft2 M tvl L w2 (withM r.thn c σ2).2 v3 v4 w3) : AftR M tvl L G w0 σ3 { r with thn := l3 } (w3.setCell ⟨G, 2, none⟩ v4) ∧ w3.heap[G]? = some (.cells #[v1, v2, v3] 48) := by
  rw [hw] at ho ha
  dsimp only at ho ha
  have hV2 := hV.kp h2.kp (by omega)
  have hlt := heap_lt hrow
  have hr3 : w3.heap[G]? = some (.cells #[v1, v2, v3] 48) := (ha.block G hlt (by omega) (by omega) (fun e => by have := (hV2.o3.lt G e.symm).1; omega)).trans hrow
  exact ⟨(h1.aft h2 hG hGw).trans (aft2_store ha hG hlt (fun b hb => (hV2.o3.lt b hb).1) 2 v4 hr3 rfl (hV2.put3 (by omega) ho ha)), hr3⟩
theorem guard_end {M : Nat} {tvl : Value} {L : List Tk} {G : Nat} {w0 w1 w2 w3 : World} {σ1 σ2 σ3 : St} {r : Rl} {v1 v2 v3 v4 : Value} {c : Pr} {l3 : List Pr} (h1 : AftR M tvl L G w0 σ1 r w1) (h2 : Aft M tvl L w1 σ2 w2) (hG : M + 2 ≤ G) (hGw : G < w1.heap.size) (hV : RlV (G + 1) w1 r v1 v2 v3) (hrow : w2.heap[G]? = some (.cells #[v1, v2, v3] 48))
    (hw : withM r.guard c σ2 = (l3, σ3)) (ho : w3.ownsRow (G + 1) 64 2 v4 (withM r.guard c σ2).1.length (flat2 (withM r.guard c σ2).1)) (ha : Aft2 M tvl L w2 (withM r.guard c σ2).2 v2 v4 w3) : AftR M tvl L G w0 σ3 { r with guard := l3 } (w3.setCell ⟨G, 1, none⟩ v4) ∧ w3.heap[G]? = some (.cells #[v1, v2, v3] 48) := by
  rw [hw] at ho ha
  dsimp only at ho ha
  have hV2 := hV.kp h2.kp (by omega)
  have hlt := heap_lt hrow
  have hr3 : w3.heap[G]? = some (.cells #[v1, v2, v3] 48) := (ha.block G hlt (by omega) (by omega) (fun e => by have := (hV2.o2.lt G e.symm).1; omega)).trans hrow
  exact ⟨(h1.aft h2 hG hGw).trans (aft2_store ha hG hlt (fun b hb => (hV2.o2.lt b hb).1) 1 v4 hr3 rfl (hV2.put2 (by omega) ho ha)), hr3⟩
theorem when_end {M : Nat} {tvl : Value} {L : List Tk} {G : Nat} {w0 w1 w2 w3 : World} {σ1 σ2 σ3 : St} {r : Rl} {v1 v2 v3 v4 : Value} {c : Pr} {l3 : List Pr} (h1 : AftR M tvl L G w0 σ1 r w1) (h2 : Aft M tvl L w1 σ2 w2) (hG : M + 2 ≤ G) (hGw : G < w1.heap.size) (hV : RlV (G + 1) w1 r v1 v2 v3) (hrow : w2.heap[G]? = some (.cells #[v1, v2, v3] 48))
    (hw : withM r.when c σ2 = (l3, σ3)) (ho : w3.ownsRow (G + 1) 64 2 v4 (withM r.when c σ2).1.length (flat2 (withM r.when c σ2).1)) (ha : Aft2 M tvl L w2 (withM r.when c σ2).2 v1 v4 w3) : AftR M tvl L G w0 σ3 { r with when := l3 } (w3.setCell ⟨G, 0, none⟩ v4) ∧ w3.heap[G]? = some (.cells #[v1, v2, v3] 48) := by
  rw [hw] at ho ha
  dsimp only at ho ha
  have hV2 := hV.kp h2.kp (by omega)
  have hlt := heap_lt hrow
  have hr3 : w3.heap[G]? = some (.cells #[v1, v2, v3] 48) := (ha.block G hlt (by omega) (by omega) (fun e => by have := (hV2.o1.lt G e.symm).1; omega)).trans hrow
  exact ⟨(h1.aft h2 hG hGw).trans (aft2_store ha hG hlt (fun b hb => (hV2.o1.lt b hb).1) 0 v4 hr3 rfl (hV2.put1 (by omega) ho ha)), hr3⟩

/-- The rule's pointer. -/
abbrev gp (G : Nat) : Value := .pointer (some ⟨G, 0, none⟩)
set_option maxRecDepth 100000 in
set_option maxHeartbeats 4000000 in
theorem then_any {M : Nat} {tvl : Value} {L : List Tk} {σ : St} {r : Rl} {G : Nat} (hL : EndL L) (hSh : Short L) (hG : M + 2 ≤ G) (hr : RlOk r 9000) (hmid : (thenM L r σ).2.mid = false) (w0 w : World) (h : AftR M tvl L G w0 σ r w) (hGw : G < w.heap.size) :
    Calls Tryz.prog 69 #[rp M, gp G] w fun e w' => e = .returned (.tuple #[]) ∧ AftR M tvl L G w0 (thenM L r σ).2 (thenM L r σ).1 w' := by
  have HL : Hid (EndL L) := hL
  have HSh : Hid (Short L) := hSh
  have HA0 : Hid (AftR M tvl L G w0 σ r w) := h
  have HRk : Hid (RlOk r 9000) := hr
  have cN := needs_any hL [64] (by decide) w h.rd
  unfold thenM at hmid ⊢
  obtain ⟨σ1, e1⟩ : ∃ σ1, needsM L [64] σ = σ1 := ⟨_, rfl⟩
  rw [e1] at hmid cN ⊢
  obtain ⟨c, σ2, e2⟩ : ∃ c σ2, partM L [58, 61] σ1 = (c, σ2) := ⟨_, _, rfl⟩
  simp only [e2] at hmid ⊢
  have E2 : Hid (partM L [58, 61] σ1 = (c, σ2)) := e2
  obtain ⟨l3, σ3, e3⟩ : ∃ l3 σ3, withM r.thn c σ2 = (l3, σ3) := ⟨_, _, rfl⟩
  have HMid : Hid ((withM r.thn c σ2).2.mid = false) := hmid
  rw [e3]
  dsimp only
  have E3 : Hid (withM r.thn c σ2 = (l3, σ3)) := e3
  clear hmid hL hSh e1 e2 e3 h hr
  go_enter Tryz.func69, Tryz.ntmps69
  go_wp2_with fail
  refine cN.mono ?_
  rintro e w1 ⟨rfl, ha⟩
  have HA1 : Hid (AftR M tvl L G w0 σ1 r w1) := HA0.out.aft ha hG hGw
  obtain ⟨v1, v2, v3, hrow, hv⟩ := HA1.out.rl
  have hs1 := ha.kp.size
  obtain ⟨⟨q0, q1, q2⟩, -⟩ := row3 hrow
  have cP := part_any HL.out HSh.out [58, 61] (by decide) w1.drew HA1.out.rd.drew
  rw [E2.out] at cP
  have HD : Hid (Aft M tvl L w1 σ1 w1.drew) := HA1.out.rd.aft ((Below.refl _ _).drew)
  have HV : Hid (RlV (G + 1) w1 r v1 v2 v3) := hv
  have HRow : Hid (w1.heap[G]? = some (.cells #[v1, v2, v3] 48)) := hrow
  clear ha cN hv hrow HA0
  go_wp2_with fail
  go_region_with (first
    | (go_at_call 86; refine cP.mono ?_; rintro e w2 ⟨rfl, ha⟩; have HA2 : Hid (Aft M tvl L w1 σ2 w2) := HD.out.trans ha; have hrow2 := (HA2.out.row hG HRow.out); have s2 := (row3 hrow2).1.2.2; have hs2 := ha.kp.size; clear ha)
    | (go_at_call 85; refine (with_any r.thn c v3 (G + 1) (by omega) (by have := HRk.out.l3; omega) HRk.out.r3 HMid.out w2 HA2.out.rd ((HV.out.kp HA2.out.kp (by omega)).o3) (by have := heap_lt hrow2; omega)).mono ?_; rintro e w3 ⟨v4, rfl, ho4, ha4⟩; obtain ⟨sa4, sc4, rfl⟩ := own_shape ho4; have HE := then_end HA1.out HA2.out hG (heap_lt HRow.out) HV.out hrow2 E3.out ho4 ha4; have f2 := frozen_of_row w3 G 2 _ _ HE.2; have t2 := (row3 HE.2).1.2.2; have HF : Hid (AftR M tvl L G w0 σ3 { r with thn := l3 } (w3.setCell ⟨G, 2, none⟩ (.slice sa4 (withM r.thn c σ2).1.length sc4))) := HE.1; clear HE ho4 ha4))
  all_goals
    go_wp2
    go_end0
    exact ⟨rfl, HF.out⟩
end Go.Proofs.YtebpapmnkbehnaaGreatDoor
/- What the reader's when answers, where pairs are put at a list's end; no conditions but that the reader stands. -/
set_option linter.unusedVariables false
set_option linter.unusedSimpArgs false
namespace Go.Proofs.YtebpapmnkbehnaaGreatDoor
open Go.RowKit Go.Joins

set_option maxRecDepth 100000 in
set_option maxHeartbeats 4000000 in
theorem when_any {M : Nat} {tvl : Value} {L : List Tk} {σ : St} {r : Rl} {G : Nat} (hL : EndL L) (hSh : Short L) (hG : M + 2 ≤ G) (hr : RlOk r 9000) (hmid : (whenM L r σ).2.mid = false) (w0 w : World) (h : AftR M tvl L G w0 σ r w) (hGw : G < w.heap.size) :
    Calls Tryz.prog 68 #[rp M, gp G] w fun e w' => e = .returned (.tuple #[]) ∧ AftR M tvl L G w0 (whenM L r σ).2 (whenM L r σ).1 w' := by
  have HL : Hid (EndL L) := hL
  have HSh : Hid (Short L) := hSh
  have HA0 : Hid (AftR M tvl L G w0 σ r w) := h
  have HRk : Hid (RlOk r 9000) := hr
  unfold whenM at hmid ⊢
  cases hi : isNext L [64] σ with
  | true =>
    rw [if_pos hi] at hmid
    rw [if_pos rfl]
    have cT := takes_yes hL [64] (by decide) hi w h.rd
    obtain ⟨c, σ2, e2⟩ : ∃ c σ2, partM L [61] σ.next = (c, σ2) := ⟨_, _, rfl⟩
    simp only [e2] at hmid ⊢
    have E2 : Hid (partM L [61] σ.next = (c, σ2)) := e2
    obtain ⟨l3, σ3, e3⟩ : ∃ l3 σ3, withM r.guard c σ2 = (l3, σ3) := ⟨_, _, rfl⟩
    have HMid : Hid ((withM r.guard c σ2).2.mid = false) := hmid
    rw [e3]
    dsimp only
    have E3 : Hid (withM r.guard c σ2 = (l3, σ3)) := e3
    clear hmid hL hSh e2 e3 h hr hi
    go_enter Tryz.func68, Tryz.ntmps68
    go_wp2_with fail
    refine cT.mono ?_
    rintro e w1 ⟨rfl, ha⟩
    have HA1 : Hid (AftR M tvl L G w0 σ.next r w1) := HA0.out.aft ha hG hGw
    obtain ⟨v1, v2, v3, hrow, hv⟩ := HA1.out.rl
    have hs1 := ha.kp.size
    obtain ⟨⟨q0, q1, q2⟩, -⟩ := row3 hrow
    have cP := part_any HL.out HSh.out [61] (by decide) w1.drew HA1.out.rd.drew
    rw [E2.out] at cP
    have HD : Hid (Aft M tvl L w1 σ.next w1.drew) := HA1.out.rd.aft ((Below.refl _ _).drew)
    have HV : Hid (RlV (G + 1) w1 r v1 v2 v3) := hv
    have HRow : Hid (w1.heap[G]? = some (.cells #[v1, v2, v3] 48)) := hrow
    clear ha cT hv hrow HA0
    go_wp2_with fail
    go_region_with (first
      | (go_at_call 86; refine cP.mono ?_; rintro e w2 ⟨rfl, ha⟩; have HA2 : Hid (Aft M tvl L w1 σ2 w2) := HD.out.trans ha; have hrow2 := (HA2.out.row hG HRow.out); have s2 := (row3 hrow2).1.2.1; have hs2 := ha.kp.size; clear ha)
      | (go_at_call 85; refine (with_any r.guard c v2 (G + 1) (by omega) (by have := HRk.out.l2; omega) HRk.out.r2 HMid.out w2 HA2.out.rd ((HV.out.kp HA2.out.kp (by omega)).o2) (by have := heap_lt hrow2; omega)).mono ?_; rintro e w3 ⟨v4, rfl, ho4, ha4⟩; obtain ⟨sa4, sc4, rfl⟩ := own_shape ho4; have HE := guard_end HA1.out HA2.out hG (heap_lt HRow.out) HV.out hrow2 E3.out ho4 ha4; have f2 := frozen_of_row w3 G 1 _ _ HE.2; have t2 := (row3 HE.2).1.2.1; have HF : Hid (AftR M tvl L G w0 σ3 { r with guard := l3 } (w3.setCell ⟨G, 1, none⟩ (.slice sa4 (withM r.guard c σ2).1.length sc4))) := HE.1; clear HE ho4 ha4))
    all_goals
      go_wp2
      exact bodyPost_ret (v := .tuple #[]) (by simp [results, Tryz.results68, go_sem]) rfl ⟨rfl, HF.out⟩
  | false =>
    rw [if_neg (by rw [hi]; decide)] at hmid
    rw [if_neg (by decide)]
    have cT := takes_no hL [64] (by decide) hi w h.rd
    obtain ⟨f, σ1, e1⟩ : ∃ f σ1, fieldM L σ = (f, σ1) := ⟨_, _, rfl⟩
    simp only [e1] at hmid ⊢
    have E1 : Hid (fieldM L σ = (f, σ1)) := e1
    obtain ⟨σ2, e2⟩ : ∃ σ2, needsM L [61] σ1 = σ2 := ⟨_, rfl⟩
    simp only [e2] at hmid ⊢
    have E2 : Hid (needsM L [61] σ1 = σ2) := e2
    obtain ⟨v, σ4, e4⟩ : ∃ v σ4, valueM L σ2 = (v, σ4) := ⟨_, _, rfl⟩
    simp only [e4] at hmid ⊢
    have E4 : Hid (valueM L σ2 = (v, σ4)) := e4
    obtain ⟨l3, σ3, e3⟩ : ∃ l3 σ3, withM r.when (f, v) σ4 = (l3, σ3) := ⟨_, _, rfl⟩
    have HMid : Hid ((withM r.when (f, v) σ4).2.mid = false) := hmid
    rw [e3]
    dsimp only
    have E3 : Hid (withM r.when (f, v) σ4 = (l3, σ3)) := e3
    clear hmid hL hSh e1 e2 e3 e4 h hr hi
    go_enter Tryz.func68, Tryz.ntmps68
    go_wp2_with fail
    refine cT.mono ?_
    rintro e w1 ⟨rfl, ha⟩
    have HA1 : Hid (AftR M tvl L G w0 σ r w1) := HA0.out.aft ha hG hGw
    have hs1 := ha.kp.size
    have cF := field_any5 HL.out w1 ha.rd
    rw [E1.out] at cF
    clear ha cT HA0
    go_wp2_with fail
    refine cF.mono ?_
    rintro e w2 ⟨rfl, ha⟩
    have HA2 : Hid (AftR M tvl L G w0 σ1 r w2) := HA1.out.aft ha hG (by omega)
    have hs2 := ha.kp.size
    have cE := needs_any HL.out [61] (by decide) w2 ha.rd
    rw [E2.out] at cE
    clear ha cF HA1
    go_wp2_with fail
    refine cE.mono ?_
    rintro e w3 ⟨rfl, ha⟩
    have HA3 : Hid (AftR M tvl L G w0 σ2 r w3) := HA2.out.aft ha hG (by omega)
    have hs3 := ha.kp.size
    clear ha cE HA2
    obtain ⟨v1, v2, v3, hrow, hv⟩ := HA3.out.rl
    obtain ⟨⟨q0, q1, q2⟩, -⟩ := row3 hrow
    have cP := value_any HL.out HSh.out w3.drew HA3.out.rd.drew
    rw [E4.out] at cP
    have HD : Hid (Aft M tvl L w3 σ2 w3.drew) := HA3.out.rd.aft ((Below.refl _ _).drew)
    have HV : Hid (RlV (G + 1) w3 r v1 v2 v3) := hv
    have HRow : Hid (w3.heap[G]? = some (.cells #[v1, v2, v3] 48)) := hrow
    clear hv hrow
    go_wp2_with fail
    go_region_with (first
      | (go_at_call 88; refine cP.mono ?_; rintro e w4 ⟨rfl, ha⟩; have HA4 : Hid (Aft M tvl L w3 σ4 w4) := HD.out.trans ha; have hrow2 := (HA4.out.row hG HRow.out); have s2 := (row3 hrow2).1.1; have hs4 := ha.kp.size; clear ha)
      | (go_at_call 85; refine (with_any r.when (f, v) v1 (G + 1) (by omega) (by have := HRk.out.l1; omega) HRk.out.r1 HMid.out w4 HA4.out.rd ((HV.out.kp HA4.out.kp (by omega)).o1) (by have := heap_lt hrow2; omega)).mono ?_; rintro e w5 ⟨v4, rfl, ho4, ha4⟩; obtain ⟨sa4, sc4, rfl⟩ := own_shape ho4; have HE := when_end HA3.out HA4.out hG (heap_lt HRow.out) HV.out hrow2 E3.out ho4 ha4; have f2 := frozen_of_row w5 G 0 _ _ HE.2; have t2 := (row3 HE.2).1.1; have HF : Hid (AftR M tvl L G w0 σ3 { r with when := l3 } (w5.setCell ⟨G, 0, none⟩ (.slice sa4 (withM r.when (f, v) σ4).1.length sc4))) := HE.1; clear HE ho4 ha4))
    all_goals
      go_wp2
      go_end0
      exact ⟨rfl, HF.out⟩
end Go.Proofs.YtebpapmnkbehnaaGreatDoor
