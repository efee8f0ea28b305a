/- What stands while the law's Pile goes on, and what each of its steps makes of it; no conditions. -/
import Derived.Test.YtipiepcbgjceaaaP1
import Derived.Test.YtipiepcbgjceaaaK1
import Derived.Test.YtipiepcbgjceaaaK0
set_option linter.unusedVariables false
set_option linter.unusedSimpArgs false
namespace Go.Proofs.Ytipiepcbgjceaaa
open Go.RowKit Go.Joins

/-- A step of the law's. -/
structure Sp where
  what : Int
  f : Int
  n : Nat
  k : Nat
def enc4s (s : Sp) : List Value := [.int .i64 s.what, .int .i64 s.f, .int .u16 (s.n : Int), .int .u8 (s.k : Int)]
/-- Steps lie behind a slice. -/
def Sps (w : World) (v : Value) (L : List Sp) : Prop :=
  ∃ sa sc, v = .slice sa L.length sc ∧ ∀ k (hk : k < L.length), ∃ b off, sa = some ⟨b, off, none⟩ ∧ b < w.heap.size ∧ ∀ j, j < 4 → w.cell? ⟨b, off + k * 4 + j, none⟩ = (enc4s L[k])[j]?
theorem sizeL_one (p : Pl) : sizeP.sizeL [p] = sizeP p := by simp [sizeP.sizeL]
/-- The ones on top become one's kids. -/
theorem size_top (op : Int) (T : List Pl) (m : Nat) : sizeP.sizeL (T.take m ++ [.mk op 0 0 (T.drop m)]) = sizeP.sizeL T + 1 := by
  have h := sizeL_app (T.take m) (T.drop m)
  rw [List.take_append_drop] at h
  rw [sizeL_app, sizeL_one, sizeP_mk, h]
  omega
theorem size_leaf (T : List Pl) (op f n : Int) : sizeP.sizeL (T ++ [.mk op f n []]) = sizeP.sizeL T + 1 := by
  have h0 : sizeP.sizeL [] = 0 := by simp [sizeP.sizeL]
  rw [sizeL_app, sizeL_one, sizeP_mk, h0]
theorem own_take {w : World} {base : Nat} {e : TypeId} {size g cap n : Nat} {xs : List Value} (m : Nat) (hm : m ≤ n)
    (h : w.ownsRow base e size (.slice (some ⟨g, 0, none⟩) n cap) n xs) : w.ownsRow base e size (.slice (some ⟨g, 0, none⟩) m cap) m (xs.take (m * size)) := by
  obtain ⟨hx, h2⟩ := h
  have hle : m * size ≤ n * size := Nat.mul_le_mul_right _ hm
  rcases h2 with ⟨h0, _⟩ | ⟨g', cap', cur, hv, hg, hh, hn, hcap, hsz, htake⟩
  · cases h0
  · cases hv
    refine ⟨by rw [List.length_take]; omega, .inr ⟨g, cap, cur, rfl, hg, hh, by omega, hcap, hsz, ?_⟩⟩
    rw [← htake, List.take_take, Nat.min_eq_left hle]
theorem own_four {w : World} {base : Nat} {e : TypeId} {g cap n : Nat} {xs : List Value} (h : w.ownsRow base e 4 (.slice (some ⟨g, 0, none⟩) n cap) n xs) (o : Nat) (u0 u1 u2 u3 : Value) :
    ((((w.setCell ⟨g, o, none⟩ u0).setCell ⟨g, o + 1, none⟩ u1).setCell ⟨g, o + 2, none⟩ u2).setCell ⟨g, o + 3, none⟩ u3).ownsRow base e 4 (.slice (some ⟨g, 0, none⟩) n cap) n ((((xs.set o u0).set (o + 1) u1).set (o + 2) u2).set (o + 3) u3) :=
  ((((h.stored o u0).1.stored (o + 1) u1).1.stored (o + 2) u2).1.stored (o + 3) u3).1
theorem set_four (a b : List Value) (y0 y1 y2 y3 u0 u1 u2 u3 : Value) : ((((a ++ y0 :: y1 :: y2 :: y3 :: b).set a.length u0).set (a.length + 1) u1).set (a.length + 2) u2).set (a.length + 3) u3 = a ++ u0 :: u1 :: u2 :: u3 :: b := by
  induction a with
  | nil => rfl
  | cons x r ih => simp [Nat.add_right_comm, Nat.add_assoc] at ih ⊢
structure PSt (w : World) (lo : Nat) (T : List Pl) (v : Value) (xs : List Nd) (wr : World) : Prop where
  own : wr.ownsRow lo 30 4 v xs.length (flat4 xs)
  pols : PolsAt (fun b => lo ≤ b ∧ some b ≠ v.ownBlock) wr T xs
  bel : Below w.heap.size w wr
  low : w.heap.size < lo
  siz : lo ≤ wr.heap.size
  res : wr.heap[w.heap.size]? = some (pobj ⟨0, 0, 0, .slice none 0 0⟩)
theorem flat4_len (xs : List Nd) : (flat4 xs).length = xs.length * 4 := by
  induction xs with
  | nil => rfl
  | cons x r ih => simp only [flat4, List.flatMap_cons, List.length_append, List.length_cons] at ih ⊢; rw [ih]; simp [enc4]; omega
theorem flat4_take : ∀ (m : Nat) (xs : List Nd), flat4 (xs.take m) = (flat4 xs).take (m * 4)
  | 0, xs => by simp [flat4]
  | m + 1, [] => by simp [flat4]
  | m + 1, x :: r => by
    have ih := flat4_take m r
    simp only [flat4, List.take_succ_cons, List.flatMap_cons] at ih ⊢
    rw [ih, List.take_append]
    have h1 : (enc4 x).length = 4 := rfl
    rw [List.take_of_length_le (l := enc4 x) (by omega), h1, show (m + 1) * 4 - 4 = m * 4 by omega]
theorem flat4_drop (m : Nat) (xs : List Nd) : flat4 (xs.drop m) = (flat4 xs).drop (m * 4) := by
  have h := flat4_append (xs.take m) (xs.drop m)
  rw [List.take_append_drop, flat4_take] at h
  exact (List.append_cancel_left (h.symm.trans (List.take_append_drop (m * 4) (flat4 xs)).symm))
theorem PSt.vlt {w : World} {lo : Nat} {T : List Pl} {v : Value} {xs : List Nd} {wr : World} (h : PSt w lo T v xs wr) (b : Nat) (hb : wr.heap.size ≤ b) : lo ≤ b ∧ some b ≠ v.ownBlock :=
  ⟨Nat.le_trans h.siz hb, fun e => by have := (h.own.lt b e.symm).2; omega⟩
theorem PSt.len {w : World} {lo : Nat} {T : List Pl} {v : Value} {xs : List Nd} {wr : World} (h : PSt w lo T v xs wr) : T.length = xs.length := h.pols.1
theorem PSt.below {w : World} {lo : Nat} {T : List Pl} {v : Value} {xs : List Nd} {wr w' : World} (h : PSt w lo T v xs wr) (hb : Below wr.heap.size wr w') : PSt w lo T v xs w' := by
  have hs := h.siz
  have hl := h.low
  exact ⟨own_below h.own hb, h.pols.keep hb.size fun b h1 h2 => ⟨h1, hb.block b h2⟩, h.bel.trans (hb.mono h.bel.size), h.low, Nat.le_trans h.siz hb.size, (hb.block _ (by omega)).trans h.res⟩
theorem PSt.app {w : World} {lo : Nat} {T : List Pl} {v : Value} {xs : List Nd} {wr wa : World} (h : PSt w lo T v xs wr) (hba : Below wr.heap.size wr wa) {t : Pl} {x : Nd} {v' : Value} {w4 : World} {n : Nat} (hn : xs.length = n) (hp : PolAt (fun b => lo ≤ b ∧ some b ≠ v.ownBlock) wr t x)
    (ho : w4.ownsRow lo 30 4 v' (n + 1) (flat4 xs ++ enc4 x)) (hgr : wa.grownBy w4 v.ownBlock) (hloc : v'.ownBlock = v.ownBlock ∨ v'.ownBlock = some wa.heap.size) : PSt w lo (T ++ [t]) v' (xs ++ [x]) w4 := by
  have sa := hba.size
  have hs := h.siz
  have hl := h.low
  have kb : ∀ b, b < wr.heap.size → some b ≠ v.ownBlock → w4.heap[b]? = wr.heap[b]? := fun b hb hn => (hgr.block b (by omega) hn).trans (hba.block b hb)
  have hnb : ∀ b, b < lo → some b ≠ v.ownBlock := fun b hb e => by have := (h.own.lt b e.symm).1; omega
  have hsz : wr.heap.size ≤ w4.heap.size := Nat.le_trans (by omega) hgr.size
  have hk : ∀ b, (lo ≤ b ∧ some b ≠ v.ownBlock) → b < wr.heap.size → (lo ≤ b ∧ some b ≠ v'.ownBlock) ∧ w4.heap[b]? = wr.heap[b]? := fun b hb hlt => by
    refine ⟨⟨hb.1, ?_⟩, kb b hlt hb.2⟩
    rcases hloc with e | e
    · rw [e]; exact hb.2
    · rw [e]; intro e2; have := Option.some.inj e2; omega
  refine ⟨?_, (h.pols.keep hsz hk).snoc (PolAt.keep hsz hk _ _ hp), ?_, h.low, by omega, ?_⟩
  · rw [flat4_append, flat4_one, List.length_append, hn]; exact ho
  · exact h.bel.trans ⟨hgr.os.trans hba.os, hgr.tape.trans hba.tape, hgr.output.trans hba.output, hsz, fun b hb => kb b (by have := h.bel.size; omega) (hnb b (by omega))⟩
  · rw [kb _ (by omega) (hnb _ hl)]; exact h.res
theorem PSt.take {w : World} {lo : Nat} {T : List Pl} {g cap n : Nat} {xs : List Nd} {wr : World} (m : Nat) (hm : m ≤ n) (hn : xs.length = n) (h : PSt w lo T (.slice (some ⟨g, 0, none⟩) n cap) xs wr) : PSt w lo (T.take m) (.slice (some ⟨g, 0, none⟩) m cap) (xs.take m) wr := by
  have h1 := h.len
  refine ⟨?_, ⟨by simp [h1], fun i a b => ?_⟩, h.bel, h.low, h.siz, h.res⟩
  · have := h.own
    rw [hn] at this
    have := own_take m hm this
    rw [flat4_take, List.length_take, hn, Nat.min_eq_left hm]; exact this
  · rw [List.getElem_take, List.getElem_take]
    exact h.pols.2 i (by simp at a; omega) (by simp at b; omega)
theorem PSt.kids {w : World} {lo : Nat} {T : List Pl} {v : Value} {xs : List Nd} {wr w5 : World} (op : Int) (m : Nat) (h : PSt w lo T v xs wr) (hb : Below wr.heap.size wr w5) {kv : Value} (ho : w5.ownsRow wr.heap.size 30 4 kv (xs.drop m).length (flat4 (xs.drop m))) : PolAt (fun b => lo ≤ b ∧ some b ≠ v.ownBlock) w5 (.mk op 0 0 (T.drop m)) ⟨op, 0, 0, kv⟩ := by
  have h5 := h.below hb
  have h1 := h.len
  refine pol_of_own (P := fun b => lo ≤ b ∧ some b ≠ v.ownBlock) op 0 0 ho ⟨by simp [h1], fun i a b => ?_⟩ (fun _ h _ => h) (fun b hb => h.vlt b hb)
  rw [List.getElem_drop, List.getElem_drop]
  exact h5.pols.2 _ (by simp at a; omega) (by simp at b; omega)
theorem PSt.at {w : World} {lo : Nat} {T : List Pl} {g cap : Nat} {xs : List Nd} {wr : World} (h : PSt w lo T (.slice (some ⟨g, 0, none⟩) xs.length cap) xs wr) (m : Nat) (hm : m < xs.length) :
    wr.cell? ⟨g, m * 4, none⟩ = some (.int .i64 xs[m].op) ∧ wr.cell? ⟨g, m * 4 + 1, none⟩ = some (.int .i64 xs[m].f) ∧ wr.cell? ⟨g, m * 4 + 2, none⟩ = some (.int .u16 xs[m].n) ∧ wr.cell? ⟨g, m * 4 + 3, none⟩ = some xs[m].kv := by
  have c := fun j (hj : j < 4) => (h.own.cellAt (m * 4 + j) (by omega)).trans (flat4_get xs m hm j hj)
  exact ⟨c 0 (by decide), c 1 (by decide), c 2 (by decide), c 3 (by decide)⟩
theorem PSt.frz {w : World} {lo : Nat} {T : List Pl} {g cap : Nat} {xs : List Nd} {wr : World} (h : PSt w lo T (.slice (some ⟨g, 0, none⟩) xs.length cap) xs wr) (o : Nat) :
    wr.frozen? ⟨g, o, none⟩ = false ∧ wr.frozen? ⟨g, o + 1, none⟩ = false ∧ wr.frozen? ⟨g, o + 2, none⟩ = false ∧ wr.frozen? ⟨g, o + 3, none⟩ = false :=
  ⟨h.own.frozenAt o, h.own.frozenAt (o + 1), h.own.frozenAt (o + 2), h.own.frozenAt (o + 3)⟩
theorem PolsAt.set4 {P : Nat → Prop} {w : World} {T : List Pl} {xs : List Nd} (h : PolsAt P w T xs) {g : Nat} (hg : ¬ P g) (o : Nat) (y0 y1 y2 y3 : Value) (o1 o2 : Obj) :
    PolsAt P (((((((w.setCell ⟨g, o, none⟩ y0).setCell ⟨g, o + 1, none⟩ y1).setCell ⟨g, o + 2, none⟩ y2).setCell ⟨g, o + 3, none⟩ y3)).alloc o1).alloc o2) T xs := by
  refine h.keep (by simp [World.setCell]; omega) fun b hb hl => ⟨hb, ?_⟩
  have hn : b ≠ g := fun e => hg (e ▸ hb)
  rw [Below.heap_alloc _ _ _ (by simp [World.setCell]; omega), Below.heap_alloc _ _ _ (by simp [World.setCell]; omega), Below.heap_setCell _ _ _ _ hn, Below.heap_setCell _ _ _ _ hn, Below.heap_setCell _ _ _ _ hn, Below.heap_setCell _ _ _ _ hn]
theorem drop_last {α : Type} (l : List α) (m : Nat) (h : l.length = m + 1) : l.drop m = [l[m]] := by
  rw [List.drop_eq_getElem_cons (by omega), List.drop_of_length_le (by omega)]
/-- One Not more, in the cells of what was on top. -/
theorem PSt.not {w : World} {lo : Nat} {T : List Pl} {g cap : Nat} {xs : List Nd} {wr : World} (h : PSt w lo T (.slice (some ⟨g, 0, none⟩) xs.length cap) xs wr) (m : Nat) (hm : xs.length = m + 1) (o1 : Obj) {x : Nd} (hx : xs[m] = x) :
    PSt w lo (T.take m ++ [.mk 4 0 0 (T.drop m)]) (.slice (some ⟨g, 0, none⟩) xs.length cap) (xs.take m ++ [⟨4, 0, 0, .slice (some ⟨wr.heap.size + 1, 0, none⟩) 1 1⟩])
      (((((((wr.setCell ⟨g, m * 4, none⟩ (.int .i64 4)).setCell ⟨g, m * 4 + 1, none⟩ (.int .i64 0)).setCell ⟨g, m * 4 + 2, none⟩ (.int .u16 0)).setCell ⟨g, m * 4 + 3, none⟩ (.slice (some ⟨wr.heap.size + 1, 0, none⟩) 1 1))).alloc o1).alloc (pobj x)) := by
  subst hx
  have hT := h.len
  have hgl := h.own.lt g rfl
  have hs := h.siz
  have hlo := h.low
  have hb := h.bel.size
  have hP := h.pols.set4 (g := g) (fun e => e.2 rfl) (m * 4) (.int .i64 4) (.int .i64 0) (.int .u16 0) (.slice (some ⟨wr.heap.size + 1, 0, none⟩) 1 1) o1 (pobj xs[m])
  have hO := ((own_four h.own (m * 4) (.int .i64 4) (.int .i64 0) (.int .u16 0) (.slice (some ⟨wr.heap.size + 1, 0, none⟩) 1 1)).alloc o1).alloc (pobj xs[m])
  have hgw : w.heap.size ≤ g := by omega
  have hBW := ((((((h.bel.setCell (p := ⟨g, m * 4, none⟩) hgw (.int .i64 4)).setCell (p := ⟨g, m * 4 + 1, none⟩) hgw (.int .i64 0)).setCell (p := ⟨g, m * 4 + 2, none⟩) hgw (.int .u16 0)).setCell (p := ⟨g, m * 4 + 3, none⟩) hgw (.slice (some ⟨wr.heap.size + 1, 0, none⟩) 1 1))).alloc (by simpa [World.setCell] using hb) o1).alloc (by simp [World.setCell]; omega) (pobj xs[m])
  generalize hW : (((((((wr.setCell ⟨g, m * 4, none⟩ (.int .i64 4)).setCell ⟨g, m * 4 + 1, none⟩ (.int .i64 0)).setCell ⟨g, m * 4 + 2, none⟩ (.int .u16 0)).setCell ⟨g, m * 4 + 3, none⟩ (.slice (some ⟨wr.heap.size + 1, 0, none⟩) 1 1))).alloc o1).alloc (pobj xs[m])) = W at *
  have hsz : W.heap.size = wr.heap.size + 2 := by rw [← hW]; simp [World.setCell]
  have hnew : W.heap[wr.heap.size + 1]? = some (pobj xs[m]) := by
    rw [← hW]
    have := heap_alloc_new (((((wr.setCell ⟨g, m * 4, none⟩ (.int .i64 4)).setCell ⟨g, m * 4 + 1, none⟩ (.int .i64 0)).setCell ⟨g, m * 4 + 2, none⟩ (.int .u16 0)).setCell ⟨g, m * 4 + 3, none⟩ (.slice (some ⟨wr.heap.size + 1, 0, none⟩) 1 1)).alloc o1) (pobj xs[m])
    simpa [World.setCell] using this
  have hold : ∀ b, b < wr.heap.size → b ≠ g → W.heap[b]? = wr.heap[b]? := by
    intro b hbl hn
    rw [← hW, Below.heap_alloc _ _ _ (by simp [World.setCell]; omega), Below.heap_alloc _ _ _ (by simp [World.setCell]; omega), Below.heap_setCell _ _ _ _ hn, Below.heap_setCell _ _ _ _ hn, Below.heap_setCell _ _ _ _ hn, Below.heap_setCell _ _ _ _ hn]
  clear hW
  refine ⟨?_, ?_, ?_, hlo, by omega, ?_⟩
  · have e : xs = xs.take m ++ [xs[m]] := by rw [← drop_last xs m hm, List.take_append_drop]
    have hf : flat4 xs = flat4 (xs.take m) ++ enc4 xs[m] := by rw [← flat4_one, ← flat4_append, ← e]
    have hl : (flat4 (xs.take m)).length = m * 4 := by rw [flat4_len, List.length_take]; omega
    rw [hf] at hO
    have := set_four (flat4 (xs.take m)) [] (.int .i64 xs[m].op) (.int .i64 xs[m].f) (.int .u16 xs[m].n) xs[m].kv (.int .i64 4) (.int .i64 0) (.int .u16 0) (.slice (some ⟨wr.heap.size + 1, 0, none⟩) 1 1)
    rw [hl] at this
    unfold enc4 at hO
    rw [this] at hO
    rw [flat4_append, flat4_one, List.length_append, List.length_take, List.length_singleton, Nat.min_eq_left (by omega), ← hm]
    exact hO
  · refine PolsAt.snoc ⟨by simp [hT], fun i a b => ?_⟩ ?_
    · rw [List.getElem_take, List.getElem_take]
      exact hP.2 i (by simp at a; omega) (by simp at b; omega)
    · rw [drop_last T m (by omega)]
      unfold PolAt
      refine ⟨rfl, rfl, rfl, some ⟨wr.heap.size + 1, 0, none⟩, 1, rfl, fun _ => ⟨wr.heap.size + 1, 0, rfl, ⟨by omega, ?_⟩, by omega, ?_⟩⟩
      · show some (wr.heap.size + 1) ≠ some g
        intro e; have := Option.some.inj e; omega
      · unfold PolAt.KidsAt
        refine ⟨⟨xs[m], ?_, hP.2 m (by omega) (by omega)⟩, by unfold PolAt.KidsAt; trivial⟩
        obtain ⟨r0, r1, r2, r3⟩ := row4 hnew
        exact ⟨r0, r1, r2, r3⟩
  · exact hBW
  · rw [hold _ (by omega) (by omega)]; exact h.res
theorem add_flat (b off n : Nat) : (⟨b, off, none⟩ : Addr).add n = ⟨b, off + n, none⟩ := by
  unfold Addr.add; split <;> simp_all
theorem size29 : (sizeOf 30 : Sem Nat).run Try.prog = fun w => .ok 4 w := by funext w; kernel_rfl
theorem slice_lo (g N cap M : Nat) (hM : M ≤ N) (hc : N ≤ cap) : ∃ ad, (∀ W, (Instr.slice 28 (.slice (some ⟨g, 0, none⟩) N cap) (some (.int .i64 (M : Int))) none none).run Try.prog W = .ok (.slice (some ad) (N - M) (cap - M)) W) ∧ (N - M = 0 ∨ ad = ⟨g, M * 4, none⟩) := by
  by_cases h : cap = M
  · refine ⟨⟨g, 0, none⟩, fun W => ?_, .inl (by omega)⟩
    have h2 : (M : Int) ≤ (N : Int) := by omega
    simp [Instr.slice, Instr.sliceBounds, Instr.sliceBound, asIntOf, run_underlying Try.underlying28, go_sem, size29, h2, h]
    omega
  · refine ⟨⟨g, M * 4, none⟩, fun W => ?_, .inr rfl⟩
    have h2 : (M : Int) ≤ (N : Int) := by omega
    simp [Instr.slice, Instr.sliceBounds, Instr.sliceBound, asIntOf, run_underlying Try.underlying28, go_sem, size29, h2, h, hM, add_flat]
theorem slice_hi (g N cap M : Nat) (hc : M ≤ cap) (W : World) : (Instr.slice 28 (.slice (some ⟨g, 0, none⟩) N cap) none (some (.int .i64 (M : Int))) none).run Try.prog W = .ok (.slice (some ⟨g, 0, none⟩) M cap) W := by
  have h2 : (M : Int) ≤ (cap : Int) := by omega
  by_cases h : cap = 0
  · simp [Instr.slice, Instr.sliceBounds, Instr.sliceBound, asIntOf, run_underlying Try.underlying28, go_sem, size29, h2, h]; omega
  · simp [Instr.slice, Instr.sliceBounds, Instr.sliceBound, asIntOf, run_underlying Try.underlying28, go_sem, size29, h2, h, hc, add_flat]
theorem own_cap {w : World} {lo e size g n cap : Nat} {xs : List Value} (h : w.ownsRow lo e size (.slice (some ⟨g, 0, none⟩) n cap) n xs) : n ≤ cap ∧ cap ≤ maxLen := by
  rcases h.2 with ⟨hv, h0⟩ | ⟨g', cap', cur, hv, -, -, h1, h2, -⟩
  · cases hv
  · simp only [Value.slice.injEq, true_and] at hv
    obtain ⟨-, rfl⟩ := hv
    exact ⟨h1, h2⟩
/-- The ones on top, as they lie. -/
theorem PSt.news {w : World} {lo : Nat} {T : List Pl} {g cap n : Nat} {xs : List Nd} {wr : World} (hn : xs.length = n) (h : PSt w lo T (.slice (some ⟨g, 0, none⟩) n cap) xs wr) (M : Nat) {ad : Addr} (ha : n - M = 0 ∨ ad = ⟨g, M * 4, none⟩) :
    (flat4 (xs.drop M)).length = (n - M) * 4 ∧ (∀ j u, (flat4 (xs.drop M))[j]? = some u → wr.cell? (ad.add j) = some u) ∧ ∀ u ∈ flat4 (xs.drop M), u.oneCell' = true := by
  have hl : (flat4 (xs.drop M)).length = (n - M) * 4 := by rw [flat4_len, List.length_drop, hn]
  have hown := h.own
  rw [hn] at hown
  refine ⟨hl, fun j u hj => ?_, fun u hu => ?_⟩
  · have hjl : j < (n - M) * 4 := by rw [← hl]; exact (List.getElem?_eq_some_iff.1 hj).1
    rcases ha with h0 | rfl
    · omega
    · have hc := hown.cellAt (M * 4 + j) (by omega)
      rw [flat4_drop, List.getElem?_drop] at hj
      rw [add_flat, hc]; exact hj
  · unfold flat4 at hu
    obtain ⟨x, hx, hu⟩ := List.mem_flatMap.1 hu
    obtain ⟨i, hi, rfl⟩ := List.getElem_of_mem (List.mem_of_mem_drop hx)
    exact enc4_one _ (h.pols.2 i (by rw [h.len]; exact hi) hi).one u hu
/-- Kids of their own were laid; the rest is as it was. -/
theorem grown_below {wa w5 : World} {o : Obj} {s : Nat} (hs : wa.heap.size = s) (h : (wa.alloc o).grownBy w5 (some s)) : Below wa.heap.size wa w5 :=
  ⟨by rw [h.os]; rfl, by rw [h.tape]; rfl, by rw [h.output]; rfl, Nat.le_trans (by simp) h.size, fun b hb => (h.block b (by simp; omega) (by intro e; have := Option.some.inj e; omega)).trans (Below.heap_alloc _ _ _ hb)⟩
theorem lit0 (wa : World) {s : Nat} (hs : wa.heap.size = s) : (wa.alloc (.cells #[] 30)).ownsRow s 30 4 (.slice (some ⟨s, 0, none⟩) 0 0) 0 [] := by
  subst hs
  exact World.ownsRow_lit wa #[] 0 (Nat.le_refl _) (by decide) rfl
theorem news_alloc {wa : World} {ad : Addr} {j : Nat} {u : Value} (h : wa.cell? (ad.add j) = some u) (o : Obj) : (wa.alloc o).cell? (ad.add j) = some u := by
  have hlt := block_lt_of_cell h
  rw [World.cell?_of_block (w := wa) (w' := wa.alloc o) (Below.heap_alloc _ _ _ hlt)]; exact h
theorem own_some {w : World} {lo e size n sc : Nat} {sa : Option Addr} {xs : List Value} (h : w.ownsRow lo e size (.slice sa n sc) n xs) (hn : 0 < n) : ∃ g, sa = some ⟨g, 0, none⟩ := by
  rcases h.2 with ⟨hv, h0⟩ | ⟨g, cap, cur, hv, -⟩
  · omega
  · simp only [Value.slice.injEq] at hv
    exact ⟨g, hv.1⟩
theorem pol_set4 {P : Nat → Prop} {w w1 : World} {T : Pl} {x : Nd} (h : PolAt P w1 T x) (hP : ¬ P w.heap.size) (y0 y1 y2 y3 : Value) :
    PolAt P ((((w1.setCell ⟨w.heap.size, 0, none⟩ y0).setCell ⟨w.heap.size, 1, none⟩ y1).setCell ⟨w.heap.size, 2, none⟩ y2).setCell ⟨w.heap.size, 3, none⟩ y3) T x :=
  (((h.set hP _).set hP _).set hP _).set hP _

end Go.Proofs.Ytipiepcbgjceaaa
