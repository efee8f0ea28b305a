/- The card PacketFieldsCardSaid: for every packet, field and list of pairs the law PacketFields returns true and leaves its arguments as they were; the listed variables hold what the program's text lays; nothing else is asked. -/
import Derived.Test.YtcfploigpnjmoaaDoorRow
import Derived.Test.YtcfploigpnjmoaaDoorF4
set_option linter.unusedVariables false
set_option linter.unusedSimpArgs false
namespace Go.Proofs.YtcfploigpnjmoaaDoor
open Go.ChangeShapes Go.WideShapes Go.ChangeAt Go.RowKit

def cellInt (w : World) (a : Addr) : Int := match w.cell? a with | some (.int _ z) => z | _ => 0
theorem add_flat (b off n : Nat) : (⟨b, off, none⟩ : Addr).add n = ⟨b, off + n, none⟩ := by
  unfold Addr.add; split <;> simp_all
theorem cells53 : Tryd.prog.cellsOf 53 = 2 := by kernel_rfl
theorem cells3 : Tryd.prog.cellsOf 3 = 1 := by kernel_rfl

section
variable {H : Type} {enc : TypeId × Value → H} {w : World} {base : Nat} {sp : Nat → Bool} {held : Bool}
set_option maxRecDepth 100000 in
/-- One pair's cells, read. -/
theorem pair_of_trod {fuel : Nat} {cs : List Value} {x : DataW H × List MemPlace} (h : DataW.trod enc Tryd.prog w base sp held fuel 53 cs = some x) :
    ∃ F N : Int, cs = [.int .i64 F, .int .u16 N] := by
  obtain ⟨y0, y1, n, rfl, hl, hy0, hy1⟩ := trod_struct2 Tryd.underlying53 h
  rw [cells53] at hl
  match cs, hl with
  | [c0, c1], _ =>
    obtain ⟨F, e0, _, _⟩ := DataW.trod_int Tryd.underlying3 hy0
    obtain ⟨N, e1, _, _⟩ := DataW.trod_int Tryd.underlying22 hy1
    rw [cells3] at e0
    rw [cells22'] at e1
    simp at e0 e1
    exact ⟨F, N, by rw [e0, e1]⟩
set_option maxRecDepth 100000 in
/-- A list of pairs that came in. -/
theorem pairs_of_trod {fuel : Nat} {a : Option Addr} {n c : Nat} {x : DataW H × List MemPlace} (h : DataW.trod enc Tryd.prog w base sp held fuel 25 [.slice a n c] = some x) :
    ∃ L, L.length = n ∧ n ≤ 9223372036854775807 ∧ PairsAny w (.slice a n c) L := by
  rcases DataW.trod_slice Tryd.underlying25 h with ⟨hcs, _⟩ | ⟨ad, len, cap, elems, rest, m, _, hcs, _, _, hl, hm, hlen, hel, _, _⟩
  · simp at hcs
    obtain ⟨rfl, rfl, rfl⟩ := hcs
    exact ⟨[], rfl, by omega, .inr ⟨rfl, none, 0, rfl⟩⟩
  · simp at hcs
    obtain ⟨rfl, rfl, rfl⟩ := hcs
    unfold maxLen at hm
    rw [cells53] at hel
    have key : ∀ i, i < n → ∃ F N : Int, w.cell? (ad.add (i * 2)) = some (.int .i64 F) ∧ w.cell? ((ad.add (i * 2)).add 1) = some (.int .u16 N) := by
      intro i hi
      have hE := hel i hi
      rw [List.getElem?_eq_getElem (by omega)] at hE
      obtain ⟨cs, hcs, hy⟩ := Option.bind_eq_some_iff.1 hE
      obtain ⟨F, N, rfl⟩ := pair_of_trod hy
      obtain ⟨_, _, hc⟩ := World.cells?_some hcs
      have k0 := hc 0 (by decide)
      have k1 := hc 1 (by decide)
      refine ⟨F, N, ?_, by simpa using k1⟩
      have e0 : (ad.add (i * 2)).add 0 = ad.add (i * 2) := by simp [Addr.add]
      rw [e0] at k0
      simpa using k0
    by_cases hn : n = 0
    · subst hn
      exact ⟨[], rfl, by omega, .inr ⟨rfl, _, _, rfl⟩⟩
    · obtain ⟨b, off, spot⟩ := ad
      obtain ⟨F0, N0, h0, _⟩ := key 0 (by omega)
      have hspot : spot = none := by simpa [Addr.add] using World.cell?_spot h0
      subst hspot
      have key2 : ∀ i, i < n → ∃ F N : Int, w.cell? ⟨b, off + i * 2, none⟩ = some (.int .i64 F) ∧ w.cell? ⟨b, off + i * 2 + 1, none⟩ = some (.int .u16 N) := by
        intro i hi
        obtain ⟨F, N, h1, h2⟩ := key i hi
        rw [add_flat] at h1
        rw [add_flat, add_flat] at h2
        exact ⟨F, N, h1, h2⟩
      refine ⟨(List.range n).map fun i => (cellInt w ⟨b, off + i * 2, none⟩, cellInt w ⟨b, off + i * 2 + 1, none⟩), by simp, by omega, .inl ⟨b, off, c, by simp, ?_, by simp; omega, ?_⟩⟩
      · obtain ⟨F, N, h1, _⟩ := key2 0 (by omega)
        have := block_lt_of_cell h1
        simpa using this
      · intro i hi
        have hi' : i < n := by simpa using hi
        obtain ⟨F, N, h1, h2⟩ := key2 i hi'
        simp [cellInt, h1, h2]
end

set_option maxRecDepth 100000 in
theorem fields_contract (H : Type) (enc : TypeId × Value → H) (W : World) (base : Nat) (args : Array Value) (ds gs : List (DataW H)) (before : List MemPlace)
    (hval : ∀ (j : Nat) t v, Tryd.f3.params[j]? = some t → args[j]? = some v → Value.okWide Tryd.prog W .any base t v)
    (hW : DataW.Whole enc Tryd.prog Tryd.f3.params.toList Rows.packetFieldsSpec.vars false W args.toList ds gs before) (hL : laidMetH Tryd.prog laidList W) (hS : W.ShapedOpen Tryd.prog) :
    Calls Tryd.prog 3 args W fun e W' => ∃ v, e = .returned v ∧ Rows.packetFieldsSpec.post enc Tryd.prog Tryd.f3 false true false false W args v W' := by
  have hE := env_of hL hS
  have hW' := hW
  obtain ⟨p, q, hA0, hV, rfl, hfz, hnd⟩ := hW
  have hA : DataW.TrodAll enc Tryd.prog W 0 (fun _ => true) true Tryd.f3.params.toList args.toList ds p := hA0
  have hA1 := hA
  rw [Tryd.params3] at hA hval
  obtain ⟨v0, vs0, d0, ds0, p0, q0, hargs, rfl, rfl, h0, r0⟩ := trodAll_cons hA
  obtain ⟨v1, vs1, d1, ds1, p1, q1, rfl, rfl, rfl, h1, r1⟩ := trodAll_cons r0
  obtain ⟨v2, vs2, d2, ds2, p2, q2, rfl, rfl, rfl, h2, r2⟩ := trodAll_cons r1
  obtain ⟨rfl, rfl, rfl⟩ := trodAll_nil r2
  obtain rfl : args = #[v0, v1, v2] := Array.toList_inj.1 hargs
  obtain ⟨rfl, rfl⟩ := trodVars_none hV
  obtain ⟨cs, rfl⟩ := okWide_array Tryd.underlying24 (hval 0 24 v0 rfl rfl)
  obtain ⟨sa, n, sc, rfl⟩ := okWide_slice Tryd.underlying25 (hval 2 25 v2 rfl rfl)
  obtain ⟨f, rfl, _, _, wf⟩ := open_int Tryd.underlying3 (hval 1 3 v1 rfl rfl) h1
  obtain ⟨m0, hm0⟩ := h0
  obtain ⟨a0, a1, a2, a3, a4, a5, a6, a7, hcs, hbd⟩ := packet_of_trod hm0
  obtain ⟨m2, hm2⟩ := h2
  obtain ⟨L, hLn, hn63, hP⟩ := pairs_of_trod (show DataW.trod enc Tryd.prog W 0 _ true m2 25 [.slice sa n sc] = some _ from hm2)
  have ecs : cs = #[.int .u16 a0, .int .u16 a1, .int .u16 a2, .int .u16 a3, .int .u16 a4, .int .u16 a5, .int .u16 a6, .int .u16 a7] := by
    apply Array.toList_inj.1; exact hcs
  subst ecs
  subst hLn
  have walk : Calls Tryd.prog 3 #[pk a0 a1 a2 a3 a4 a5 a6 a7, .int .i64 f, .slice sa L.length sc] W fun e w' => e = .returned (.bool true) ∧ Below W.heap.size W w' := by
    by_cases h20 : 20 < L.length
    · exact fields_long a0 a1 a2 a3 a4 a5 a6 a7 f sa L.length sc W hE h20 hn63
    · by_cases hlo : f < 0
      · exact fields_low a0 a1 a2 a3 a4 a5 a6 a7 f hlo sa sc L W hE hP (by omega)
      · by_cases hhi : 8 ≤ f
        · exact fields_high a0 a1 a2 a3 a4 a5 a6 a7 f hhi sa sc L W hE hP (by omega)
        · obtain ⟨k, rfl⟩ := Int.eq_ofNat_of_zero_le (show 0 ≤ f by omega)
          exact fields_in a0 a1 a2 a3 a4 a5 a6 a7 k (by omega) sa sc L W hE hP (by omega)
  refine walk.mono fun e W' ⟨he, bel⟩ => ?_
  subst he
  have hback := trodAll_below bel _ _ _ _ (by rw [Tryd.params3]; intro t ht; simp at ht; rcases ht with rfl | rfl | rfl <;> exact ⟨by kernel_rfl, of_decide_eq_true (by kernel_rfl)⟩) hA1
  exact ⟨_, rfl, _, _, _, [], _, [], hW', trodAll_mk1 (shut_bool Tryd.underlying4 _), hback, rfl, bel.frame _, fun h => by cases h⟩

theorem fields_reads (os : Os) {H : Type} (enc : TypeId × Value → H) : ∃ places, DataW.whole enc Tryd.prog ((World.doorLaid Tryd.prog 67 os).forCall (fun _ _ => 0) ⟨#[], #[pk 0 0 0 0 0 0 0 0, .int .i64 0, .slice none 0 0], []⟩).memory Tryd.f3.params.toList Rows.packetFieldsSpec.vars false #[pk 0 0 0 0 0 0 0 0, .int .i64 0, .slice none 0 0].toList 8 = some ([.agg [.lit (.int .u16 0), .lit (.int .u16 0), .lit (.int .u16 0), .lit (.int .u16 0), .lit (.int .u16 0), .lit (.int .u16 0), .lit (.int .u16 0), .lit (.int .u16 0)], .lit (.int .i64 0), .nil], [], places) :=
  ⟨[], by kernel_rfl⟩

set_option maxRecDepth 100000 in
theorem fields_lifted (os : Os) (started : os.Started) (H : Type) (enc : TypeId × Value → H) (F : Stop.Interp) :
    ReturnsInHanded {} Tryd.checked os 3 .any ((OpenSpec.ofChange Rows.packetFieldsSpec).preRow enc Tryd.prog Tryd.f3 Rows.packetFieldsRow.domain false Rows.packetFieldsRow.laid) (((OpenSpec.ofChange Rows.packetFieldsSpec).at F).post enc Tryd.prog Tryd.f3 false true false false) := by
  obtain ⟨places, hx⟩ := fields_reads os enc
  refine returnsInHanded_of_row (C := Tryd.checked) (s := OpenSpec.ofChange Rows.packetFieldsSpec) own started (by kernel_rfl) Tryd.func3
    (witness_row_atRef (enc := enc) (C := Tryd.checked) false (World.doorLaid Tryd.prog 67 os) #[pk 0 0 0 0 0 0 0 0, .int .i64 0, .slice none 0 0] rfl (by kernel_rfl) (by kernel_rfl) (by kernel_rfl)
      (OpenSpec.preRow_of_cond 8 hx (by kernel_rfl) (fun k hk => by cases hk) (by kernel_rfl) (door_met os _))) ?_
  intro W base args ds gs before hval hW _ _ _ hL hS _
  exact fields_contract H enc W base args ds gs before hval hW hL hS

theorem fields_said : Rows.PacketFieldsSaid :=
  OpenClaim.holds_of_cond 3 Tryd.f3 rfl rfl rfl rfl rfl rfl rfl ⟨rfl, rfl, rfl, rfl, rfl⟩ rfl rfl rfl rfl rfl (by kernel_rfl) Tryd.func3 (by kernel_rfl)
    (of_decide_eq_true (by kernel_rfl)) (by unfold Func.isWrapper; first | (rw [if_pos (by decide +kernel)]; kernel_rfl) | (rw [if_neg (by decide +kernel)]; exact ⟨rfl, rfl⟩))
    (fun os started H enc _ F => by rw [OpenClaim.pre_eq_preRow]; exact fields_lifted os started H enc F)

theorem fields_plain (f : FuncId) (fn : Func) (hf : Tryd.pinned.checked.prog.funcNamed "pointsman/pointsmanlaw01.PacketFields" = some f) (hfn : Tryd.pinned.checked.prog.funcs[f]? = some fn) :
    true = Tryd.pinned.checked.prog.looks [] ∧ ∀ (j : Nat) t, fn.params[j]? = some t → Tryd.pinned.checked.prog.wantsStandIn t = false := by
  obtain rfl : f = 3 := Option.some.inj ((show Tryd.prog.funcNamed "pointsman/pointsmanlaw01.PacketFields" = some 3 by kernel_rfl).symm.trans hf) |>.symm
  obtain rfl : fn = Tryd.f3 := (Option.some.inj (Tryd.func3.symm.trans hfn)).symm
  refine ⟨by kernel_rfl, fun j t ht => ?_⟩
  rw [Tryd.params3] at ht
  have hm := Array.mem_of_getElem? ht
  simp at hm
  rcases hm with rfl | rfl | rfl
  · exact (show Tryd.prog.wantsStandIn 24 = false by kernel_rfl)
  · exact (show Tryd.prog.wantsStandIn 3 = false by kernel_rfl)
  · exact (show Tryd.prog.wantsStandIn 25 = false by kernel_rfl)

theorem packetFields_card : Rows.PacketFieldsCardSaid :=
  Claim7.holds_tied_plain_at .later [] _ _ _ _ fields_said (fun _ h => by cases h) (by kernel_rfl) (fun _ h => by cases h) packetFields_row_tie rfl ⟨rfl, rfl⟩ (by kernel_rfl) rfl fields_plain (by kernel_rfl)
end Go.Proofs.YtcfploigpnjmoaaDoor
