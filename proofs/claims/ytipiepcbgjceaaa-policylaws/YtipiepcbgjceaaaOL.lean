/- Packets as keys of a book; no conditions but that their numbers are of 16 bits. -/
import Derived.Test.YtipiepcbgjceaaaH1
import Derived.Maps.Keyed
import Derived.MapFrom
import Derived.Test.YtipiepcbgjceaaaOE
import Derived.Maps.OwnSet
import Derived.Maps.Views
import Derived.Test.YtipiepcbgjceaaaG1
import Derived.Test.YtipiepcbgjceaaaOG
set_option linter.unusedVariables false
set_option linter.unusedSimpArgs false
namespace Go.Proofs.Ytipiepcbgjceaaa
open Go.RowKit Go.Joins Go.Maps

theorem laidOut : laidOutB Try.prog = true := by kernel_rfl
theorem keyed26 : Keyed Try.prog 26 := Keyed.of_law (deep_law_laid laidOut (m := 3) (by decide) (of_decide_eq_true (by kernel_rfl)) (by kernel_rfl) (by kernel_rfl))
theorem und26' : Try.prog.underlying 26 = some (.array 8 24) := by kernel_rfl
theorem und24' : Try.prog.underlying 24 = some (.int .u16) := by kernel_rfl
theorem key26 (q : P8) (hq : Q8 q) : ∃ kl, keyOf Try.prog 26 q.v = some kl := by
  have hk : Try.prog.keyType 26 = true := by kernel_rfl
  have hc : Try.prog.cellsOf 26 = 8 := by kernel_rfl
  have hc2 : Try.prog.cellsOf 24 = 1 := by kernel_rfl
  obtain ⟨m, hm⟩ : ∃ m, Try.prog.types.size + 1 = m + 2 := ⟨Try.prog.types.size - 1, by kernel_rfl⟩
  obtain ⟨a0, a1, a2, a3, a4, a5, a6, a7⟩ := q
  have h := fun z hz => hq z hz
  simp only [P8.l, List.mem_cons, List.not_mem_nil, or_false] at h
  have w : ∀ z, 0 ≤ z ∧ z ≤ 65535 → (Lit.int .u16 z).wf = true := fun z hz => by
    have h1 : IntKind.u16.min = 0 := by decide
    have h2 : IntKind.u16.max = 65535 := by decide
    simp only [Lit.wf, h1, h2, decide_eq_true hz.1, decide_eq_true hz.2, Bool.and_self]
  have w0 := w a0 (h a0 (by simp))
  have w1 := w a1 (h a1 (by simp))
  have w2 := w a2 (h a2 (by simp))
  have w3 := w a3 (h a3 (by simp))
  have w4 := w a4 (h a4 (by simp))
  have w5 := w a5 (h a5 (by simp))
  have w6 := w a6 (h a6 (by simp))
  have w7 := w a7 (h a7 (by simp))
  unfold keyOf
  rw [und26', hm]
  simp [P8.v, Value.formed, und26', hk, hc, hc2, Program.keyLits, und24', Value.cells, List.range, List.range.loop, w0, w1, w2, w3, w4, w5, w6, w7]
end Go.Proofs.Ytipiepcbgjceaaa
/- An answer is kept in a book; no conditions but that the packet's numbers are of 16 bits. -/
set_option linter.unusedVariables false
set_option linter.unusedSimpArgs false
namespace Go.Proofs.Ytipiepcbgjceaaa
open Go.RowKit Go.Joins Go.Maps

theorem und99 : Try.prog.underlying 99 = some (.map 26 33) := by kernel_rfl
theorem own_exact {w : World} {b n : Nat} {D : DataW Value} (h : w.ownsMap Try.prog 26 asIs b n D) : w.ownsMap Try.prog 26 asIs b (Maps.size D) D := by
  obtain ⟨es, clock, hb, F, hs, rfl⟩ := h
  refine ⟨es, clock, hb, F, ?_, rfl⟩
  simp [Maps.size, length_sorted]
theorem clear_map {w : World} {b n : Nat} {D : DataW Value} (h : w.ownsMap Try.prog 26 asIs b n D) : ∃ w', (∀ ty, (Builtin.clear_ #[99] ty #[.map (some b)]).run Try.prog w = .ok (.tuple #[]) w') ∧ w'.ownsMap Try.prog 26 asIs b 0 (.map []) ∧ w.grownBy w' (some b) := by
  obtain ⟨es, clock, hb, F, hs, rfl⟩ := h
  refine ⟨Go.ChangeMaps.setBlock w b (.map #[] clock), fun ty => ?_, ⟨#[], clock, Go.ChangeMaps.heap_setBlock_same hb _, ⟨by simp, Go.MapKept.stamped_empty clock, by simp⟩, Nat.le_refl _, rfl⟩, ⟨rfl, rfl, rfl, by simp [Go.ChangeMaps.setBlock], fun i _ hi => Go.ChangeMaps.heap_setBlock_other hb _ (fun e => hi (by rw [e]))⟩⟩
  simp [Builtin.clear_, run_underlying und99, MapKept.run_getObj_map hb, MapKept.run_setObj_map _ hb, Result.andThen]
  rfl
/-- What a map holds behind a store. -/
theorem mapAt_put {X : Nat → Prop} {w w' : World} {M : Nat} {T : Pl} {D : DataW Value} {like : P8} {kl : Lit} {v : Value} {L : List P8} (hD : IsMap D) (h : ∀ x kl, keyOf Try.prog 26 x.v = some kl → has D kl = true → ∃ v l, D.atKey kl (.held (.slice none 0 0)) = .held v ∧ mkP [] T x = some l ∧ Pv w v l ∧ Off X v)
    (hkl : keyOf Try.prog 26 like.v = some kl) (hm : mkP [] T like = some L) (hv : Pv w v L) (ho : Off X v) (hg : w.grownBy w' (some M)) (hM : calm w.heap[M]? = false) (hw : w'.ownsMap Try.prog 26 asIs M 16384 (D.put kl (.held v))) : MapAt X w' M T := by
  have keep : ∀ (u : Value) (l : List P8), Pv w u l → Pv w' u l := fun u l hu => hu.keep hg.size fun b o n c e h1 h2 => hg.block b h1 fun e2 => by
    injection e2 with e2
    rw [e2] at h2
    rw [h2] at hM
    cases hM
  refine ⟨_, hw, fun x kl2 hk hh => ?_⟩
  by_cases e : kl2 = kl
  · subst e
    have ex : x.v = like.v := keyed26.inj hk hkl
    have ex2 : x = like := by
      obtain ⟨a0, a1, a2, a3, a4, a5, a6, a7⟩ := x
      obtain ⟨b0, b1, b2, b3, b4, b5, b6, b7⟩ := like
      simp only [P8.v, pk, Value.agg.injEq] at ex
      simpa using ex
    subst ex2
    exact ⟨v, L, atKey_put_same hD (keyed26.key hkl) _ _, hm, keep v L hv, ho⟩
  · rw [has_put_other e] at hh
    obtain ⟨u, l, e1, e2, e3, e4⟩ := h x kl2 hk hh
    exact ⟨u, l, by rw [atKey_put_other e]; exact e1, e2, keep u l e3, e4⟩
end Go.Proofs.Ytipiepcbgjceaaa
/- keep keeps an answer; no conditions but that the packet's numbers are of 16 bits. -/
set_option linter.unusedVariables false
set_option linter.unusedSimpArgs false
namespace Go.Proofs.Ytipiepcbgjceaaa
open Go.RowKit Go.Joins Go.Maps

theorem gb_of {w W : World} (row : Option Nat) (h : Below w.heap.size w W) : w.grownBy W row := ⟨h.os, h.tape, h.output, h.size, fun k hk _ => h.block k hk⟩
theorem gb_drew (w : World) (row : Option Nat) : w.grownBy w.drew row := gb_of row (below_drewN (Below.refl _ w) 1)
theorem store_map {w : World} {M n : Nat} {D : DataW Value} (h : w.ownsMap Try.prog 26 asIs M n D) (hn : n ≤ 16384) {key : Value} {kl : Lit} (hkl : keyOf Try.prog 26 key = some kl) (v : Value) :
    ∃ w', (Instr.mapUpdate 99 (.map (some M)) key v).run Try.prog w = .ok () w' ∧ w'.ownsMap Try.prog 26 asIs M (n + 1) (D.put kl (.held v)) ∧ w.grownBy w' (some M) :=
  h.update keyed26 und99 (by unfold maxLen; omega) hkl rfl
set_option maxRecDepth 100000 in
set_option maxHeartbeats 4000000 in
theorem keep_any {X : Nat → Prop} {T : Pl} (g M : Nat) (sv : Nat → Value) (oc : Nat → Nat) (like : P8) (v : Value) (L : List P8) (w : World) (hrow : w.heap[g]? = some (.cells (bcells sv oc M) 101)) (hM : MapAt X w M T) (hq : Q8 like) (hm : mkP [] T like = some L) (hv : Pv w v L) (ho : Off X v) (hX : ¬ X w.heap.size) :
    Calls Try.prog 63 #[.pointer (some ⟨g, 0, none⟩), like.v, v] w fun e w' => e = .returned (.tuple #[]) ∧ MapAt X w' M T ∧ w.grownBy w' (some M) := by
  obtain ⟨kl, hkl⟩ := key26 like hq
  obtain ⟨D, hD, hget⟩ := hM
  have hMlt := hD.lt
  have hmc : calm w.heap[M]? = false := by
    obtain ⟨es, clock, hb, _⟩ := hD
    rw [hb]; rfl
  have hgl := heap_lt hrow
  obtain ⟨W, hW⟩ : ∃ W, w.alloc (pobj8 like) = W := ⟨_, rfl⟩
  have hbW : Below w.heap.size w W := by rw [← hW]; exact (Below.refl _ w).alloc (Nat.le_refl _) _
  have hDW : W.ownsMap Try.prog 26 asIs M 16384 D := by rw [← hW]; exact hD.alloc _
  have hlen : ∀ ty, (Builtin.len_ #[99] ty #[.map (some M)]).run Try.prog W = .ok (.int .i64 (Maps.size D)) W := fun ty => hDW.len und99 ty
  have hsz := hDW.size_le
  have hrW : W.heap[g]? = some (.cells (bcells sv oc M) 101) := (hbW.block g hgl).trans hrow
  have hbx : W.heap[w.heap.size]? = some (pobj8 like) := by rw [← hW]; exact heap_alloc_new _ _
  have rM : W.cell? ⟨g, 16, none⟩ = some (.map (some M)) := by rw [cell_of_row _ _ _ _ _ _ hrW]; rfl
  obtain ⟨⟨r0, r1, r2, r3, r4, r5, r6, r7⟩, -, -⟩ := row8 hbx
  have HW := hid hbW
  obtain ⟨S, hS⟩ : ∃ S, Maps.size D = S := ⟨_, rfl⟩
  have HS := hid hS
  rw [hS] at hlen hsz
  have HV := hid hv
  have HRow := hid hrow
  have HRW := hid hrW
  have HBx := hid hbx
  clear hS hrow hrW hbW hbx hv
  have hgM : g ≠ M := fun e => by
    have h1 := HRow.out
    rw [e] at h1
    rw [h1] at hmc
    simp [calm] at hmc
  by_cases hfull : 16384 ≤ S
  · have dS : decide ((16384 : Int) ≤ (S : Int)) = true := by simp; omega
    obtain ⟨W2, hcl, hD2, hg2⟩ := clear_map hDW
    have hrow2 : W2.heap[g]? = some (.cells (bcells sv oc M) 101) := (hg2.block g (heap_lt HRW.out) (fun e => hgM (by injection e))).trans HRW.out
    have hbx2 : W2.heap[w.heap.size]? = some (pobj8 like) := (hg2.block _ (heap_lt HBx.out) (fun e => by injection e; omega)).trans HBx.out
    have rM2 : W2.cell? ⟨g, 16, none⟩ = some (.map (some M)) := by rw [cell_of_row _ _ _ _ _ _ hrow2]; rfl
    obtain ⟨⟨q0, q1, q2, q3, q4, q5, q6, q7⟩, -, -⟩ := row8 hbx2
    obtain ⟨W3, hst, hD3, hg3⟩ := store_map (hD2.drew) (by omega) hkl v
    have hst2 : (Instr.mapUpdate 99 (.map (some M)) (.agg #[.int .u16 like.a0, .int .u16 like.a1, .int .u16 like.a2, .int .u16 like.a3, .int .u16 like.a4, .int .u16 like.a5, .int .u16 like.a6, .int .u16 like.a7]) v).run Try.prog W2.drew = .ok () W3 := hst
    have hgall : w.grownBy W3 (some M) := grownBy_trans (grownBy_trans (gb_of _ HW.out) hg2) (grownBy_trans (gb_drew _ _) hg3)
    have HE : Hid (MapAt X W3 M T ∧ w.grownBy W3 (some M)) := ⟨mapAt_put (D := .map []) hD2.isMap (fun x kl _ h => absurd h (by simp [has])) hkl hm HV.out ho hgall hmc (hD3.mono (by omega)), hgall⟩
    clear hst hD3 hg3 hgall hrow2 hbx2 hD2 hg2
    go_enter Try.func63, Try.ntmps63
    go_wp2_with fail
    go_region
    all_goals
      go_wp2_with fail
      go_end0
      exact ⟨rfl, HE.out⟩
  · have dS : decide ((16384 : Int) ≤ (S : Int)) = false := by simp; omega
    obtain ⟨W3, hst, hD3, hg3⟩ := store_map (own_exact hDW).drew (by rw [HS.out]; omega) hkl v
    have hst2 : (Instr.mapUpdate 99 (.map (some M)) (.agg #[.int .u16 like.a0, .int .u16 like.a1, .int .u16 like.a2, .int .u16 like.a3, .int .u16 like.a4, .int .u16 like.a5, .int .u16 like.a6, .int .u16 like.a7]) v).run Try.prog W.drew = .ok () W3 := hst
    have hgall : w.grownBy W3 (some M) := grownBy_trans (gb_of _ HW.out) (grownBy_trans (gb_drew _ _) hg3)
    have HE : Hid (MapAt X W3 M T ∧ w.grownBy W3 (some M)) := ⟨mapAt_put hDW.isMap hget hkl hm HV.out ho hgall hmc (hD3.mono (by rw [HS.out]; omega)), hgall⟩
    clear hst hD3 hg3 hgall
    go_enter Try.func63, Try.ntmps63
    go_wp2_with fail
    go_region
    all_goals
      go_wp2_with fail
      go_end0
      exact ⟨rfl, HE.out⟩
end Go.Proofs.Ytipiepcbgjceaaa
