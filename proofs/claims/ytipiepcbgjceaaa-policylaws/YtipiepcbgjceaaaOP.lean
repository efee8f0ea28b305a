/- Books of policies: one more, one that grew; no conditions. -/
import Derived.Test.YtipiepcbgjceaaaOH
import Derived.Test.YtipiepcbgjceaaaOJ
import Derived.Test.YtipiepcbgjceaaaOL
set_option linter.unusedVariables false
set_option linter.unusedSimpArgs false
namespace Go.Proofs.Ytipiepcbgjceaaa
open Go.RowKit Go.Joins Go.Maps

theorem Inv.full {B : Nat} {G : Nat → Option Pl} {X : Nat → Prop} {w : World} (h : Inv B G X w) {b : Nat} {op f n : Int} {kids : List Pl} (hG : G b = some (.mk op f n kids)) :
    ∃ kv bk, w.heap[b]? = some (nobjN op f n kv bk) ∧ KidsV G w kv kids ∧ ∀ a, bk = some a → ∃ g M sv oc sl, a = ⟨g, 0, none⟩ ∧ BookAt X w g M (.mk op f n kids) sv oc sl := by
  obtain ⟨_, ow, _, h⟩ := h
  obtain ⟨_, kv, bk, h2⟩ := h b op f n kids hG
  exact ⟨kv, bk, h2.row, h2.kd, fun a ha => by
    obtain ⟨g, M, sv, oc, sl, e1, e2, _⟩ := h2.book a ha
    exact ⟨g, M, sv, oc, sl, e1, e2⟩⟩
theorem bcells_map {sv sv' : Nat → Value} {oc oc' : Nat → Nat} {M M' : Nat} (h : bcells sv oc M = bcells sv' oc' M') : M = M' := by
  have h1 : (bcells sv oc M)[16]? = (bcells sv' oc' M')[16]? := by rw [h]
  have h2 : (bcells sv oc M)[16]? = some (.map (some M)) := rfl
  have h3 : (bcells sv' oc' M')[16]? = some (.map (some M')) := rfl
  rw [h2, h3] at h1
  simpa using h1
theorem isT_ne_map {t : TypeId} {w : World} {a M : Nat} (h : isT t w.heap[a]?) (hM : ∃ es clock, w.heap[M]? = some (.map es clock)) : a ≠ M := fun e => by
  obtain ⟨cs, fz, h⟩ := h
  obtain ⟨es, clock, hM⟩ := hM
  rw [e, hM] at h
  cases h
theorem MapAt.isMapB {X : Nat → Prop} {w : World} {M : Nat} {T : Pl} (h : MapAt X w M T) : ∃ es clock, w.heap[M]? = some (.map es clock) := by
  obtain ⟨D, ⟨es, clock, h, _⟩, _⟩ := h
  exact ⟨es, clock, h⟩
theorem not_calm_node {w : World} {b : Nat} {op f n : Int} {kv : Value} (h : w.heap[b]? = some (nobjN op f n kv none)) : calm w.heap[b]? = false := by
  rw [h]; rfl
theorem calm_node {w : World} {b : Nat} {op f n : Int} {kv : Value} {a : Addr} (h : w.heap[b]? = some (nobjN op f n kv (some a))) : calm w.heap[b]? = true := by
  rw [h]; rfl
/-- A book laid aside a node's store. -/
theorem BookAt.set {X : Nat → Prop} {w : World} {g M : Nat} {T : Pl} {sv : Nat → Value} {oc : Nat → Nat} {sl : Nat → List Nat} (h : BookAt X w g M T sv oc sl) {b : Nat} {op f n : Int} {kv : Value} (hb : w.heap[b]? = some (nobjN op f n kv none)) (v : Value) (k : Nat) : BookAt X (w.setCell ⟨b, k, none⟩ v) g M T sv oc sl := by
  have ht : isT 73 w.heap[b]? := ⟨_, _, hb⟩
  have hs : ∀ c, c ≠ b → (w.setCell ⟨b, k, none⟩ v).heap[c]? = w.heap[c]? := fun c hc => heap_setCell_other _ _ _ _ hc
  refine ⟨(hs g (isT.ne (t := 101) (u := 73) ⟨_, _, h.row⟩ ht (by decide))).trans h.row, fun f hf => ⟨(h.said f hf).1.keep (by simp) fun c h1 h2 => hs c (h1.ne ht (by decide)), (h.said f hf).2⟩, h.mem, h.oth, ?_⟩
  refine h.map.keep (by simp) (fun c _ _ hc => hs c fun e => ?_) (hs M (isT_ne_map ht h.map.isMapB).symm)
  rw [e, not_calm_node hb] at hc
  cases hc
theorem Inv.withBook {B : Nat} {G : Nat → Option Pl} {X : Nat → Prop} {w0 w1 : World} (hI : Inv B G X w0) {b : Nat} {op f n : Int} {kids : List Pl} {kv : Value} (hG : G b = some (.mk op f n kids)) (hrow : w0.heap[b]? = some (nobjN op f n kv none)) (hb : Below w0.heap.size w0 w1)
    {g M : Nat} {sv : Nat → Value} {oc : Nat → Nat} {sl : Nat → List Nat} (hbook : BookAt X w1 g M (.mk op f n kids) sv oc sl) (hM : w0.heap.size ≤ M) : Inv B G X (w1.setCell ⟨b, 4, none⟩ (.pointer (some ⟨g, 0, none⟩))) := by
  obtain ⟨hB, ow, how, h⟩ := hI
  have hbl := heap_lt hrow
  have hrow1 : w1.heap[b]? = some (nobjN op f n kv none) := (hb.block b hbl).trans hrow
  have ht0 : isT 73 w0.heap[b]? := ⟨_, _, hrow⟩
  have hs : ∀ c, c ≠ b → (w1.setCell ⟨b, 4, none⟩ (.pointer (some ⟨g, 0, none⟩))).heap[c]? = w1.heap[c]? := fun c hc => heap_setCell_other _ _ _ _ hc
  have keep : ∀ c, c < w0.heap.size → c ≠ b → (w1.setCell ⟨b, 4, none⟩ (.pointer (some ⟨g, 0, none⟩))).heap[c]? = w0.heap[c]? := fun c h1 h2 => (hs c h2).trans (hb.block c h1)
  have hsz : w0.heap.size ≤ (w1.setCell ⟨b, 4, none⟩ (.pointer (some ⟨g, 0, none⟩))).heap.size := by simpa using hb.size
  refine ⟨Nat.le_trans hB hsz, fun m => if m = M then b else ow m, fun m hm => by
    show (if m = M then b else ow m) < B
    rw [if_neg (by omega)]
    exact how m hm, fun b' op' f' n' kids' hG' => ?_⟩
  obtain ⟨h1, kv', bk, h2⟩ := h b' op' f' n' kids' hG'
  refine ⟨h1, ?_⟩
  by_cases e : b' = b
  · subst e
    rw [hG] at hG'
    injection hG' with e
    injection e with e1 e2 e3 e4
    subst e1 e2 e3 e4
    have hk : kv' = kv ∧ bk = none := by
      have := h2.row.symm.trans hrow
      simpa [nobjN] using this
    obtain ⟨rfl, rfl⟩ := hk
    refine ⟨kv', some ⟨g, 0, none⟩, ?_, h2.kd.keep hsz fun c h3 h4 => keep c h4 (h3.ne ht0 (by decide)), fun a ha => ?_⟩
    · have := heap_setCell_same w1 b' 4 _ _ (.pointer (some ⟨g, 0, none⟩)) hrow1
      simpa using this
    · injection ha with ha
      exact ⟨g, M, sv, oc, sl, ha.symm, hbook.set hrow1 _ _, by simp⟩
  · refine ⟨kv', bk, (keep b' (heap_lt h2.row) e).trans h2.row, h2.kd.keep hsz fun c h3 h4 => keep c h4 (h3.ne ht0 (by decide)), fun a ha => ?_⟩
    obtain ⟨g', M', sv', oc', sl', e1, e2, e3⟩ := h2.book a ha
    refine ⟨g', M', sv', oc', sl', e1, ⟨(keep g' (heap_lt e2.row) (isT.ne (t := 101) (u := 73) ⟨_, _, e2.row⟩ ht0 (by decide))).trans e2.row, fun f hf => ⟨(e2.said f hf).1.keep hsz fun c h3 h4 => keep c h4 (h3.ne ht0 (by decide)), (e2.said f hf).2⟩, e2.mem, e2.oth, ?_⟩, ?_⟩
    · refine e2.map.keep hsz (fun c _ h3 hc => keep c h3 fun e5 => ?_) (keep M' e2.map.lt (isT_ne_map ht0 e2.map.isMapB).symm)
      rw [e5, not_calm_node hrow] at hc
      cases hc
    · have := e2.map.lt
      show (if M' = M then b else ow M') = b'
      rw [if_neg (by omega)]
      exact e3
theorem Inv.kept {B : Nat} {G : Nat → Option Pl} {X : Nat → Prop} {w w' : World} (hI : Inv B G X w) {b : Nat} {op f n : Int} {kids : List Pl} {kv : Value} (hG : G b = some (.mk op f n kids)) {g M : Nat} (hrow : w.heap[b]? = some (nobjN op f n kv (some ⟨g, 0, none⟩)))
    {sv : Nat → Value} {oc : Nat → Nat} (hg : w.heap[g]? = some (.cells (bcells sv oc M) 101)) (hgr : w.grownBy w' (some M)) (hMap : MapAt X w' M (.mk op f n kids)) (hM : ∃ es clock, w.heap[M]? = some (.map es clock)) : Inv B G X w' := by
  obtain ⟨hB, ow, how, h⟩ := hI
  have hs := hgr.size
  have keep : ∀ c, c < w.heap.size → c ≠ M → w'.heap[c]? = w.heap[c]? := fun c h1 h2 => hgr.block c h1 (fun e => h2 (by injection e))
  have hown : ow M = b := by
    obtain ⟨_, kv', bk, h2⟩ := h b op f n kids hG
    have hk : kv' = kv ∧ bk = some ⟨g, 0, none⟩ := by
      have := h2.row.symm.trans hrow
      simpa [nobjN] using this
    obtain ⟨g', M', sv', oc', sl', e1, e2, e3⟩ := h2.book _ hk.2
    have : g = g' := by injection e1
    subst this
    have hc := e2.row.symm.trans hg
    injection hc with hc
    injection hc with hc _ _
    rw [← bcells_map hc]
    exact e3
  refine ⟨Nat.le_trans hB hs, ow, how, fun b' op' f' n' kids' hG' => ?_⟩
  obtain ⟨h1, kv', bk, h2⟩ := h b' op' f' n' kids' hG'
  refine ⟨h1, kv', bk, (keep b' (heap_lt h2.row) (isT_ne_map (t := 73) ⟨_, _, h2.row⟩ hM)).trans h2.row, h2.kd.keep hs fun c h3 h4 => keep c h4 (isT_ne_map h3 hM), fun a ha => ?_⟩
  obtain ⟨g', M', sv', oc', sl', e1, e2, e3⟩ := h2.book a ha
  refine ⟨g', M', sv', oc', sl', e1, ⟨(keep g' (heap_lt e2.row) (isT_ne_map (t := 101) ⟨_, _, e2.row⟩ hM)).trans e2.row, fun f hf => ⟨(e2.said f hf).1.keep hs fun c h3 h4 => keep c h4 (isT_ne_map h3 hM), (e2.said f hf).2⟩, e2.mem, e2.oth, ?_⟩, e3⟩
  by_cases e : M' = M
  · subst e
    have : b' = b := by rw [← e3, hown]
    subst this
    rw [hG] at hG'
    injection hG' with e
    rw [← e]
    exact hMap
  · refine e2.map.keep hs (fun c _ h3 hc => keep c h3 fun e5 => ?_) (keep M' e2.map.lt e)
    obtain ⟨es, clock, hM⟩ := hM
    rw [e5, hM] at hc
    cases hc
theorem Inv.map_ge {B : Nat} {G : Nat → Option Pl} {X : Nat → Prop} {w : World} (hI : Inv B G X w) {b : Nat} {op f n : Int} {kids : List Pl} {kv : Value} (hG : G b = some (.mk op f n kids)) {g M : Nat} (hrow : w.heap[b]? = some (nobjN op f n kv (some ⟨g, 0, none⟩)))
    {sv : Nat → Value} {oc : Nat → Nat} (hg : w.heap[g]? = some (.cells (bcells sv oc M) 101)) : B ≤ M := by
  obtain ⟨hB, ow, how, h⟩ := hI
  obtain ⟨h1, kv', bk, h2⟩ := h b op f n kids hG
  have hk : kv' = kv ∧ bk = some ⟨g, 0, none⟩ := by
    have := h2.row.symm.trans hrow
    simpa [nobjN] using this
  obtain ⟨g', M', sv', oc', sl', e1, e2, e3⟩ := h2.book _ hk.2
  have : g = g' := by injection e1
  subst this
  have hc := e2.row.symm.trans hg
  injection hc with hc
  injection hc with hc _ _
  rw [bcells_map hc] at e3
  rcases Nat.lt_or_ge M B with h3 | h3
  · have := how M h3
    omega
  · exact h3
/-- The same book stands there still. -/
theorem Inv.same_book {B : Nat} {G : Nat → Option Pl} {X : Nat → Prop} {w w' : World} (hI : Inv B G X w') (hf : Fr B w w') {b : Nat} {op f n : Int} {kids : List Pl} {kv : Value} (hG : G b = some (.mk op f n kids)) {g M : Nat} (hrow : w.heap[b]? = some (nobjN op f n kv (some ⟨g, 0, none⟩)))
    {sv : Nat → Value} {oc : Nat → Nat} {sl : Nat → List Nat} (hb : BookAt X w g M (.mk op f n kids) sv oc sl) : w'.heap[b]? = some (nobjN op f n kv (some ⟨g, 0, none⟩)) ∧ BookAt X w' g M (.mk op f n kids) sv oc sl := by
  have hr := (hf.calm b (heap_lt hrow) (calm_node hrow)).trans hrow
  have hg := (hf.calm g (heap_lt hb.row) (calm_cells hb.row (by decide))).trans hb.row
  refine ⟨hr, hg, fun f hf' => ⟨(hb.said f hf').1.fr hf, (hb.said f hf').2⟩, hb.mem, hb.oth, ?_⟩
  obtain ⟨kv', bk, h1, _, h2⟩ := hI.full hG
  have hk : kv' = kv ∧ bk = some ⟨g, 0, none⟩ := by
    have := h1.symm.trans hr
    simpa [nobjN] using this
  obtain ⟨g', M', sv', oc', sl', e1, e2⟩ := h2 _ hk.2
  have : g = g' := by injection e1
  subst this
  have hc := e2.row.symm.trans hg
  injection hc with hc
  injection hc with hc _ _
  rw [← bcells_map hc]
  exact e2.map
end Go.Proofs.Ytipiepcbgjceaaa
