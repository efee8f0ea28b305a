/- The card PacketSortsCardSaid: for every list of packets the law PacketSorts returns true and leaves its argument as it was; the listed variables hold what the program's text lays; nothing else is asked. -/
import Derived.Test.YtcfploigpnjmoaaDoorRow
import Derived.Test.YtcfploigpnjmoaaDoorS7
set_option linter.unusedVariables false
set_option linter.unusedSimpArgs false
namespace Go.Proofs.YtcfploigpnjmoaaDoor
open Go.ChangeShapes Go.WideShapes Go.ChangeAt Go.RowKit

theorem add_flat (b off n : Nat) : (⟨b, off, none⟩ : Addr).add n = ⟨b, off + n, none⟩ := by
  unfold Addr.add; split <;> simp_all
/-- The packet that lies there. -/
def cellI (w : World) (b o : Nat) : Int := match w.cell? ⟨b, o, none⟩ with | some (.int _ z) => z | _ => 0
def pkAt (w : World) (b o : Nat) : P8 := ⟨cellI w b o, cellI w b (o + 1), cellI w b (o + 2), cellI w b (o + 3), cellI w b (o + 4), cellI w b (o + 5), cellI w b (o + 6), cellI w b (o + 7)⟩
theorem pkAt_at {w : World} {b o : Nat} {x : P8} (h : At8 w b o x) : At8 w b o (pkAt w b o) := by
  obtain ⟨h0, h1, h2, h3, h4, h5, h6, h7⟩ := h
  unfold At8 pkAt cellI
  simp [h0, h1, h2, h3, h4, h5, h6, h7]

section
variable {H : Type} {enc : TypeId × Value → H} {w : World} {base : Nat} {sp : Nat → Bool} {held : Bool}
set_option maxRecDepth 100000 in
/-- A list of packets that came in. -/
theorem pks_of_trod {fuel : Nat} {a : Option Addr} {n c : Nat} {x : DataW H × List MemPlace} (h : DataW.trod enc Tryd.prog w base sp held fuel 46 [.slice a n c] = some x) :
    ∃ L : List P8, L.length = n ∧ n ≤ 9223372036854775807 ∧ Pks w (.slice a n c) L := by
  rcases DataW.trod_slice Tryd.underlying46 h with ⟨hcs, _⟩ | ⟨ad, len, cap, elems, rest, m, _, hcs, _, _, hl, hm, hlen, hel, _, _⟩
  · simp at hcs
    obtain ⟨rfl, rfl, rfl⟩ := hcs
    exact ⟨[], rfl, by omega, .inr ⟨rfl, none, 0, rfl⟩⟩
  · simp at hcs
    obtain ⟨rfl, rfl, rfl⟩ := hcs
    unfold maxLen at hm
    rw [cells24] at hel
    have key : ∀ i, i < n → ∃ y : P8, ∀ j, j < 8 → w.cell? ((ad.add (i * 8)).add j) = (enc8 y)[j]? := by
      intro i hi
      have hE := hel i hi
      rw [List.getElem?_eq_getElem (by omega)] at hE
      obtain ⟨cs, hcs, hy⟩ := Option.bind_eq_some_iff.1 hE
      obtain ⟨a0, a1, a2, a3, a4, a5, a6, a7, rfl, _⟩ := packet_of_trod hy
      obtain ⟨_, _, hc⟩ := World.cells?_some hcs
      refine ⟨⟨a0, a1, a2, a3, a4, a5, a6, a7⟩, fun j hj => ?_⟩
      exact hc j hj
    by_cases hn : n = 0
    · subst hn
      exact ⟨[], rfl, by omega, .inr ⟨rfl, _, _, rfl⟩⟩
    · obtain ⟨b, off, spot⟩ := ad
      obtain ⟨y0, h0⟩ := key 0 (by omega)
      have hspot : spot = none := by
        have h00 : w.cell? (((⟨b, off, spot⟩ : Addr).add (0 * 8)).add 0) = some (.int .u16 y0.a0) := h0 0 (by decide)
        simpa [Addr.add] using World.cell?_spot h00
      subst hspot
      have key2 : ∀ i, i < n → ∃ y : P8, At8 w b (off + i * 8) y := by
        intro i hi
        obtain ⟨y, hy⟩ := key i hi
        refine ⟨y, At8.of fun j hj => ?_⟩
        have := hy j hj
        rw [add_flat, add_flat] at this
        exact this
      refine ⟨(List.range n).map fun i => pkAt w b (off + i * 8), by simp, by omega, .inl ⟨b, off, c, by simp, ?_, ?_⟩⟩
      · obtain ⟨y, hy⟩ := key2 0 (by omega)
        exact hy.lt
      · intro i hi
        have hi' : i < n := by simpa using hi
        obtain ⟨y, hy⟩ := key2 i hi'
        simpa using pkAt_at hy
end

set_option maxRecDepth 100000 in
theorem sorts_contract (H : Type) (enc : TypeId × Value → H) (W : World) (base : Nat) (args : Array Value) (ds gs : List (DataW H)) (before : List MemPlace)
    (hval : ∀ (j : Nat) t v, Tryd.f5.params[j]? = some t → args[j]? = some v → Value.okWide Tryd.prog W .any base t v)
    (hW : DataW.Whole enc Tryd.prog Tryd.f5.params.toList Rows.packetSortsSpec.vars false W args.toList ds gs before) (hL : laidMetH Tryd.prog laidList W) (hS : W.ShapedOpen Tryd.prog) :
    Calls Tryd.prog 5 args W fun e W' => ∃ v, e = .returned v ∧ Rows.packetSortsSpec.post enc Tryd.prog Tryd.f5 false true false false W args v W' := by
  have hE := env_of hL hS
  have hW' := hW
  obtain ⟨p, q, hA0, hV, rfl, hfz, hnd⟩ := hW
  have hA : DataW.TrodAll enc Tryd.prog W 0 (fun _ => true) true Tryd.f5.params.toList args.toList ds p := hA0
  have hA1 := hA
  rw [Tryd.params5] at hA hval
  obtain ⟨v0, vs0, d0, ds0, p0, q0, hargs, rfl, rfl, h0, r0⟩ := trodAll_cons hA
  obtain ⟨rfl, rfl, rfl⟩ := trodAll_nil r0
  obtain rfl : args = #[v0] := Array.toList_inj.1 hargs
  obtain ⟨rfl, rfl⟩ := trodVars_none hV
  obtain ⟨sa, n, sc, rfl⟩ := okWide_slice Tryd.underlying46 (hval 0 46 v0 rfl rfl)
  obtain ⟨m0, hm0⟩ := h0
  obtain ⟨L, hLn, hn63, hP⟩ := pks_of_trod (show DataW.trod enc Tryd.prog W 0 _ true m0 46 [.slice sa n sc] = some _ from hm0)
  subst hLn
  have walk : Calls Tryd.prog 5 #[.slice sa L.length sc] W fun e w' => e = .returned (.bool true) ∧ Below W.heap.size W w' := by
    by_cases h30 : 30 < L.length
    · exact sorts_long sa L.length sc W hE h30 hn63
    · exact sorts_short _ L (by omega) W hE hP
  refine walk.mono fun e W' ⟨he, bel⟩ => ?_
  subst he
  have hback := trodAll_below bel _ _ _ _ (by rw [Tryd.params5]; intro t ht; simp at ht; subst ht; exact ⟨by kernel_rfl, of_decide_eq_true (by kernel_rfl)⟩) hA1
  exact ⟨_, rfl, _, _, _, [], _, [], hW', trodAll_mk1 (shut_bool Tryd.underlying4 _), hback, rfl, bel.frame _, fun h => by cases h⟩

theorem sorts_reads (os : Os) {H : Type} (enc : TypeId × Value → H) : ∃ places, DataW.whole enc Tryd.prog ((World.doorLaid Tryd.prog 67 os).forCall (fun _ _ => 0) ⟨#[], #[.slice none 0 0], []⟩).memory Tryd.f5.params.toList Rows.packetSortsSpec.vars false #[.slice none 0 0].toList 8 = some ([.nil], [], places) :=
  ⟨[], by kernel_rfl⟩

set_option maxRecDepth 100000 in
theorem sorts_lifted (os : Os) (started : os.Started) (H : Type) (enc : TypeId × Value → H) (F : Stop.Interp) :
    ReturnsInHanded {} Tryd.checked os 5 .any ((OpenSpec.ofChange Rows.packetSortsSpec).preRow enc Tryd.prog Tryd.f5 Rows.packetSortsRow.domain false Rows.packetSortsRow.laid) (((OpenSpec.ofChange Rows.packetSortsSpec).at F).post enc Tryd.prog Tryd.f5 false true false false) := by
  obtain ⟨places, hx⟩ := sorts_reads os enc
  refine returnsInHanded_of_row (C := Tryd.checked) (s := OpenSpec.ofChange Rows.packetSortsSpec) own started (by kernel_rfl) Tryd.func5
    (witness_row_atRef (enc := enc) (C := Tryd.checked) false (World.doorLaid Tryd.prog 67 os) #[.slice none 0 0] rfl (by kernel_rfl) (by kernel_rfl) (by kernel_rfl)
      (OpenSpec.preRow_of_cond 8 hx (by kernel_rfl) (fun k hk => by cases hk) (by kernel_rfl) (door_met os _))) ?_
  intro W base args ds gs before hval hW _ _ _ hL hS _
  exact sorts_contract H enc W base args ds gs before hval hW hL hS

theorem sorts_said : Rows.PacketSortsSaid :=
  OpenClaim.holds_of_cond 5 Tryd.f5 rfl rfl rfl rfl rfl rfl rfl ⟨rfl, rfl, rfl, rfl, rfl⟩ rfl rfl rfl rfl rfl (by kernel_rfl) Tryd.func5 (by kernel_rfl)
    (of_decide_eq_true (by kernel_rfl)) (by unfold Func.isWrapper; first | (rw [if_pos (by decide +kernel)]; kernel_rfl) | (rw [if_neg (by decide +kernel)]; exact ⟨rfl, rfl⟩))
    (fun os started H enc _ F => by rw [OpenClaim.pre_eq_preRow]; exact sorts_lifted os started H enc F)

theorem sorts_plain (f : FuncId) (fn : Func) (hf : Tryd.pinned.checked.prog.funcNamed "pointsman/pointsmanlaw01.PacketSorts" = some f) (hfn : Tryd.pinned.checked.prog.funcs[f]? = some fn) :
    true = Tryd.pinned.checked.prog.looks [] ∧ ∀ (j : Nat) t, fn.params[j]? = some t → Tryd.pinned.checked.prog.wantsStandIn t = false := by
  obtain rfl : f = 5 := Option.some.inj ((show Tryd.prog.funcNamed "pointsman/pointsmanlaw01.PacketSorts" = some 5 by kernel_rfl).symm.trans hf) |>.symm
  obtain rfl : fn = Tryd.f5 := (Option.some.inj (Tryd.func5.symm.trans hfn)).symm
  refine ⟨by kernel_rfl, fun j t ht => ?_⟩
  rw [Tryd.params5] at ht
  have hm := Array.mem_of_getElem? ht
  simp at hm
  subst hm
  exact (show Tryd.prog.wantsStandIn 46 = false by kernel_rfl)

theorem packetSorts_card : Rows.PacketSortsCardSaid :=
  Claim7.holds_tied_plain_at .later [] _ _ _ _ sorts_said (fun _ h => by cases h) (by kernel_rfl) (fun _ h => by cases h) packetSorts_row_tie rfl ⟨rfl, rfl⟩ (by kernel_rfl) rfl sorts_plain (by kernel_rfl)
end Go.Proofs.YtcfploigpnjmoaaDoor
