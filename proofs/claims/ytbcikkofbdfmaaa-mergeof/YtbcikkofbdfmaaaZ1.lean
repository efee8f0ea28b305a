/- What hangs on some blocks alone; slices.Clone of pairs, of up to 8. -/
import Derived.Test.YtbcikkofbdfmaaaY6
set_option linter.unusedVariables false
set_option linter.unusedSimpArgs false
namespace Go.Proofs.Ytbcikkofbdfmaaa
open Go.RowKit Go.Joins Go.Sort

/-- Two worlds agree on some of the first's blocks. -/
def Agree (S : Nat → Prop) (W W' : World) : Prop := W.heap.size ≤ W'.heap.size ∧ ∀ b, b < W.heap.size → S b → W'.heap[b]? = W.heap[b]?
/-- What holds wherever those blocks are as they are. -/
def In (S : Nat → Prop) (W : World) (P : World → Prop) : Prop := ∀ W', Agree S W W' → P W'
theorem Agree.refl (S : Nat → Prop) (W : World) : Agree S W W := ⟨Nat.le_refl _, fun _ _ _ => rfl⟩
theorem Agree.trans {S : Nat → Prop} {W W' W'' : World} (h : Agree S W W') (h' : Agree S W' W'') : Agree S W W'' :=
  ⟨Nat.le_trans h.1 h'.1, fun b hb hs => (h'.2 b (Nat.lt_of_lt_of_le hb h.1) hs).trans (h.2 b hb hs)⟩
theorem Agree.mono {S S' : Nat → Prop} {W W' : World} (h : Agree S W W') (hs : ∀ b, b < W.heap.size → S' b → S b) : Agree S' W W' := ⟨h.1, fun b hb e => h.2 b hb (hs b hb e)⟩
theorem Agree.below {S : Nat → Prop} {W W' : World} (h : Below W.heap.size W W') : Agree S W W' := ⟨h.size, fun b hb _ => h.block b hb⟩
theorem Agree.set {S : Nat → Prop} (W : World) (g o : Nat) (v : Value) (hg : ¬ S g) : Agree S W (W.setCell ⟨g, o, none⟩ v) :=
  ⟨by simp, fun b hb hs => heap_setCell_other _ _ _ _ (fun e => hg (by have e2 : b = g := e; rw [← e2]; exact hs))⟩
theorem Agree.grown {S : Nat → Prop} {W W' : World} {r : Option Nat} (h : W.grownBy W' r) (hr : ∀ b, r = some b → ¬ S b) : Agree S W W' :=
  ⟨h.size, fun b hb hs => h.block b hb fun e => hr b e.symm hs⟩
theorem In.now {S : Nat → Prop} {W : World} {P : World → Prop} (h : In S W P) : P W := h W (Agree.refl _ _)
theorem In.step {S : Nat → Prop} {W W' : World} {P : World → Prop} (h : In S W P) (a : Agree S W W') : In S W' P := fun W'' h' => h W'' (a.trans h')
theorem In.mono {S S' : Nat → Prop} {W : World} {P : World → Prop} (h : In S W P) (hs : ∀ b, b < W.heap.size → S b → S' b) : In S' W P := fun W' a => h W' (a.mono hs)
theorem Agree.cell {S : Nat → Prop} {W W' : World} (a : Agree S W W') {b o : Nat} (hb : b < W.heap.size) (hs : S b) : W'.cell? ⟨b, o, none⟩ = W.cell? ⟨b, o, none⟩ := World.cell?_of_block (a.2 b hb hs)
theorem own_agree {w w' : World} {B e size n : Nat} {v : Value} {xs : List Value} (h : w.ownsRow B e size v n xs) (a : Agree (B ≤ ·) w w') : w'.ownsRow B e size v n xs := by
  refine ⟨h.1, ?_⟩
  rcases h.2 with hn | ⟨g, cap, cur, rfl, hg, hgg, rest⟩
  · exact .inl hn
  · exact .inr ⟨g, cap, cur, rfl, hg, by rw [a.2 g (heap_lt hgg) hg]; exact hgg, rest⟩
/-- Pairs, one cell behind the other. -/
def flat2 (L : Prs) : List Value := L.flatMap fun c => [Value.int .i64 c.1, Value.int .u16 c.2]
theorem flat2_len : ∀ L : Prs, (flat2 L).length = L.length * 2
  | [] => rfl
  | c :: L => by
    show ([Value.int .i64 c.1, Value.int .u16 c.2] ++ flat2 L).length = _
    rw [List.length_append, flat2_len L, List.length_cons]
    simp; omega
theorem flat2_get : ∀ (L : Prs) (k : Nat) (h : k < L.length), (flat2 L)[k * 2]? = some (.int .i64 L[k].1) ∧ (flat2 L)[k * 2 + 1]? = some (.int .u16 L[k].2)
  | c :: L, 0, _ => ⟨rfl, rfl⟩
  | c :: L, k + 1, h => by
    have := flat2_get L k (Nat.lt_of_succ_lt_succ h)
    show ([Value.int .i64 c.1, Value.int .u16 c.2] ++ flat2 L)[(k + 1) * 2]? = _ ∧ ([Value.int .i64 c.1, Value.int .u16 c.2] ++ flat2 L)[(k + 1) * 2 + 1]? = _
    rw [List.getElem?_append_right (by simp; omega), List.getElem?_append_right (by simp; omega)]
    rw [show (k + 1) * 2 - [Value.int .i64 c.1, Value.int .u16 c.2].length = k * 2 by simp; omega, show (k + 1) * 2 + 1 - [Value.int .i64 c.1, Value.int .u16 c.2].length = k * 2 + 1 by simp; omega]
    simpa using this
theorem flat2_one (L : Prs) : ∀ u ∈ flat2 L, u.oneCell' = true := by
  intro u hu
  obtain ⟨c, _, hc⟩ := List.mem_flatMap.1 hu
  simp at hc
  rcases hc with rfl | rfl <;> rfl
theorem pairs_of_own {w : World} {B : Nat} {v : Value} {L : Prs} (h : w.ownsRow B 50 2 v L.length (flat2 L)) : PairsAny w v L := by
  rcases h.2 with ⟨rfl, hn⟩ | ⟨g, cap, cur, rfl, hB, hgg, hcap, hmax, hsz, htk⟩
  · refine .inr ⟨List.eq_nil_of_length_eq_zero hn, none, 0, rfl⟩
  · refine .inl ⟨g, 0, cap, rfl, heap_lt hgg, by unfold maxLen at hmax; omega, fun k hk => ?_⟩
    have key : ∀ j u, (flat2 L)[j]? = some u → w.cell? ⟨g, j, none⟩ = some u := fun j u hj => by
      rw [← htk, List.getElem?_take] at hj
      split at hj
      · rw [cell_of_row _ _ _ _ _ _ hgg]; simpa using hj
      · cases hj
    rw [Nat.zero_add]
    exact ⟨key _ _ (flat2_get L k hk).1, key _ _ (flat2_get L k hk).2⟩
theorem own_pairs {w : World} {B : Nat} {v : Value} {L : Prs} (h : w.ownsRow B 50 2 v L.length (flat2 L)) : In (B ≤ ·) w (fun W => PairsAny W v L) := fun W a => pairs_of_own (own_agree h a)
theorem info50i : (Try.prog.info? 50).map (fun i => (i.zero, i.size, i.bytes)) = some (some (.agg #[.int .i64 0, .int .u16 0]), 2, 16) := by kernel_rfl
theorem pairs_cells {w : World} {b off : Nat} {L : Prs} (hc : ∀ k (hk : k < L.length), w.cell? ⟨b, off + k * 2, none⟩ = some (.int .i64 L[k].1) ∧ w.cell? ⟨b, off + k * 2 + 1, none⟩ = some (.int .u16 L[k].2)) :
    ∀ j u, (flat2 L)[j]? = some u → w.cell? ((⟨b, off, none⟩ : Addr).add j) = some u := by
  intro j u hj
  rw [show (⟨b, off, none⟩ : Addr).add j = ⟨b, off + j, none⟩ by unfold Addr.add; split <;> simp_all]
  have hl := flat2_len L
  have hjl : j < L.length * 2 := by
    rcases Nat.lt_or_ge j (flat2 L).length with h | h
    · omega
    · rw [List.getElem?_eq_none h] at hj; cases hj
  have hk : j / 2 < L.length := by omega
  obtain ⟨g0, g1⟩ := flat2_get L (j / 2) hk
  obtain ⟨c0, c1⟩ := hc (j / 2) hk
  rcases Nat.mod_two_eq_zero_or_one j with e | e
  · rw [show j / 2 * 2 = j by omega] at g0 c0
    rw [c0, ← g0, hj]
  · rw [show j / 2 * 2 + 1 = j by omega] at g1
    rw [show off + j / 2 * 2 + 1 = off + j by omega] at c1
    rw [c1, ← g1, hj]

set_option maxRecDepth 100000 in
set_option maxHeartbeats 4000000 in
theorem clone35_at (b off cap : Nat) (L : Prs) (w : World) (hlen : L.length ≤ 1000) (hc : ∀ j u, (flat2 L)[j]? = some u → w.cell? ((⟨b, off, none⟩ : Addr).add j) = some u) :
    Calls Try.prog 35 #[.slice (some ⟨b, off, none⟩) L.length cap] w fun e w' => ∃ v', e = .returned v' ∧ w'.ownsRow w.heap.size 50 2 v' L.length (flat2 L) ∧ Below w.heap.size w w' := by
  obtain ⟨i0, hi, hz0, hz1, hz2⟩ := info_parts info50i
  have q46 : ∀ (w : World) (a : Option Addr) (n c n' c' : Nat), (binOp .eql 51 (.slice a n c) (.slice none n' c')).run Try.prog w = .ok (.bool a.isNone) w := fun w a n c n' c' => Lib.run_eql_slice_nil w _ _ a n c n' c' Try.underlying51
  have hlf := flat2_len L
  have hone := flat2_one L
  generalize flat2 L = news at *
  have HC : Hid (∀ j u, news[j]? = some u → w.cell? ((⟨b, off, none⟩ : Addr).add j) = some u) := hc
  clear hc
  go_enter Try.func35, Try.ntmps35
  go_wp2_with (at_builtin; refine wpList_append_own _ rfl _ _ 51 rfl w.heap.size 50 i0 (.agg #[.int .i64 0, .int .u16 0]) 2 16 Try.underlying51 hi hz0 hz1 hz2 rfl (by decide) _ _ _ rfl (World.ownsRow_made w #[] 0 (Nat.le_refl _) (Nat.zero_le _) (by simp)) ⟨b, off, none⟩ L.length cap news rfl ?qc1 ?qc2 ?qc3 ?qc4 ?qc5 ?qc6 ?_)
  case qc1 => exact hlf
  case qc2 =>
    intro j u hj
    exact Lib.cell?_alloc_some _ (HC.out j u hj)
  case qc3 => exact hone
  case qc4 => unfold maxLen; omega
  case qc5 => omega
  case qc6 => simp
  intro v' w1 hown hgrow hnil
  go_wp2
  go_ret
  refine ⟨v', rfl, by simpa using hown, ?_⟩
  exact ((Below.refl _ w).alloc (Nat.le_refl _) _).grown hgrow (by simp) (by intro k hk; simp [Value.ownBlock] at hk; omega)
theorem clone35_nil (n c : Nat) (w : World) : Calls Try.prog 35 #[.slice none n c] w fun e w' => e = .returned (.slice none 0 0) ∧ w' = w := by
  have q46 : ∀ (w : World) (a : Option Addr) (n c n' c' : Nat), (binOp .eql 51 (.slice a n c) (.slice none n' c')).run Try.prog w = .ok (.bool a.isNone) w := fun w a n c n' c' => Lib.run_eql_slice_nil w _ _ a n c n' c' Try.underlying51
  go_enter Try.func35, Try.ntmps35
  go_wp2
  go_ret
  exact ⟨rfl, rfl⟩
end Go.Proofs.Ytbcikkofbdfmaaa
