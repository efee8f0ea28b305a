/- What the document's parts and join answer: lists of texts; pairs whose numbers are of 16 bits. -/
import Derived.Test.YtebpapmnkbehnaaDoorD5
import Derived.Test.YtebpapmnkbehnaaDoorV5
import Derived.Test.YtebpapmnkbehnaaDoorQT
import Derived.Deep.AppendLies
import Derived.Deep.RegionLaw
import Derived.Deep.RegionWith
import Derived.BigQuiet
set_option linter.unusedVariables false
set_option linter.unusedSimpArgs false
namespace Go.Proofs.YtebpapmnkbehnaaDoor
open Go.RowKit Go.Joins Go.Lib Go.Sort

/-- A part of the state with a sign. -/
def partS (s : List UInt8) (c : Pr) : List UInt8 := 64 :: (decDigits c.1.toNat ++ (s ++ decDigits c.2))
theorem partS_len (s : List UInt8) (hs : s.length ≤ 3) (c : Pr) (h : c.1.toNat ≤ 65535) (hn : c.2 ≤ 65535) : (partS s c).length ≤ 20 := by
  have := digits_len5 c.1.toNat h
  have := digits_len5 c.2 hn
  unfold partS
  simp only [List.length_append, List.length_cons]
  omega
set_option maxRecDepth 100000 in
set_option maxHeartbeats 4000000 in
theorem rparts_any (L : List Pr) (hm : L.length ≤ 1000) (hL : ∀ c ∈ L, (0 ≤ c.1 ∧ c.1 < 9) ∧ c.2 ≤ 65535) (s : List UInt8) (hs : s.length ≤ 3) (v : Value) (w : World) (h : Prs w v L) :
    Calls Tryd.prog 24 #[v, .string ⟨s.toArray⟩] w fun e w' => ∃ v', e = .returned v' ∧ w'.ownsRow w.heap.size 9 1 v' L.length (strs (L.map (partS s))) ∧ Below w.heap.size w w' := by
  obtain ⟨i0, hi, hz0, hz1, hz2⟩ := info_parts info9s
  obtain ⟨sa, sc, rfl, hc⟩ := h
  have HC : Hid _ := hc
  have HL : Hid _ := hL
  clear hc hL
  go_enter Tryd.func24, Tryd.ntmps24
  go_wp2_with fail
  go_loopw [5, 6] (fun o i wr => ∃ k : Nat, k ≤ L.length ∧ i = .int .i64 (k : Int) ∧ Hid (wr.ownsRow w.heap.size 9 1 o k (strs ((L.take k).map (partS s)))) ∧ Hid (Below w.heap.size w wr)) (fun _ i _ => L.length - (intOf i).toNat)
  case atStart => exact ⟨0, Nat.zero_le _, rfl, World.ownsRow_nil _ _ _ _, Below.refl _ _⟩
  case round =>
    obtain ⟨k, hkl, rfl, HO, HB⟩ := hrel
    have hwr := HB.out.size
    by_cases hlt : k < L.length
    · obtain ⟨b, off, rfl, hb, ha⟩ := HC.out k hlt
      obtain ⟨a0, a1⟩ := ha.same (HB.out.block b hb)
      obtain ⟨⟨h0, h9⟩, hn⟩ := HL.out _ (List.getElem_mem hlt)
      have hXl := partS_len s hs L[k] (by omega) hn
      have HTk : Hid _ := map_take (partS s) L k hlt
      generalize hcc : L[k] = c at *
      obtain ⟨cf, cn⟩ := c
      dsimp only at a0 a1 h0 h9 hn
      obtain ⟨F, rfl⟩ := Int.eq_ofNat_of_zero_le h0
      clear ha hcc
      have CF : Hid _ := digits_any F (by omega)
      have CN : Hid _ := digits_any cn hn
      have hdf := digits_len5 F (by omega)
      have hdn := digits_len5 cn hn
      have HBd : Hid (Below wr.heap.size wr wr.drew) := below_drewN (Below.refl _ wr) 1
      have hbw : b < wr.heap.size := by omega
      have ew : IntKind.i64.wrap (cn : Int) = (cn : Int) := wr64 _ (by omega) (by omega)
      have z1 : ¬ 9223372036854775807 < 1 + (decDigits F).length := by omega
      have z2 : ¬ 9223372036854775807 < 1 + (decDigits F).length + s.length := by omega
      have z3 : ¬ 9223372036854775807 < 1 + (decDigits F).length + s.length + (decDigits cn).length := by omega
      obtain ⟨Z, hZ⟩ : ∃ Z : ByteArray, (⟨#[64]⟩ : ByteArray) ++ ⟨(decDigits F).toArray⟩ ++ ⟨s.toArray⟩ ++ ⟨(decDigits cn).toArray⟩ = Z := ⟨_, rfl⟩
      have hnew : ∀ W : World, ∀ j u, [Value.string Z][j]? = some u → (W.alloc (.cells #[.string Z] 9)).cell? ((⟨W.heap.size, 0, none⟩ : Addr).add j) = some u := fun W => cell_one_new W _ _
      have HNew : Hid _ := hnew
      clear hnew
      go_wp2_with fail
      go_region_law (first
        | (refine step_append_lies _ (by rfl) _ _ _ (by rfl) w.heap.size 9 i0 (.string ⟨#[]⟩) 1 16 Tryd.underlying58 hi hz0 hz1 hz2 rfl (by decide) u5 _ _ (by rfl) (hown3.alloc _) ⟨w3.heap.size, 0, none⟩ 1 1 [.string Z] (by rfl) rfl (HNew.out w3) (fun x hx => by simp at hx; rw [hx]; rfl) (by decide) (by unfold maxLen; omega) (by omega) (by simp; omega) (w3.heap.size + 1) (by simp) ?_; intro g4 cap4 w4 hown4 hgrow4 hloc4 hlt4)
        | (go_simp; go_at_call_of 22 (Value.int .i64 (F : Int)); refine Calls.mono (CF.out _) ?_; rintro e w2 ⟨rfl, hb2⟩; have HB2 : Hid (Below wr.heap.size wr w2) := HBd.out.trans (hb2.mono HBd.out.size); have c0 := (HB2.out.cell (p := ⟨b, off + k * 2, none⟩) hbw).trans a0; have c1 := (HB2.out.cell (p := ⟨b, off + k * 2 + 1, none⟩) hbw).trans a1; clear hb2)
        | (go_simp; go_at_call_of 22 (Value.int .i64 (cn : Int)); refine Calls.mono (CN.out _) ?_; rintro e w3 ⟨rfl, hb3⟩; have HB3 : Hid (Below wr.heap.size wr w3) := HB2.out.trans (hb3.mono HB2.out.size); have hown3 := own_below HO.out HB3.out; have hw3 := HB3.out.size; clear hb3))
      all_goals
        have HBw3 : Hid (Below w.heap.size w w3) := HB.out.trans (HB3.out.mono hwr)
        have HB4 : Hid (Below w.heap.size w w4) := Below.grown (HBw3.out.alloc HBw3.out.size _) hgrow4 (by have := HBw3.out.size; simp; omega) (fun j hj => by have := (hown3.lt _ hj).1; omega)
        have HO4 : Hid (w4.ownsRow w.heap.size 9 1 (.slice (some ⟨g4, 0, none⟩) (k + 1) cap4) (k + 1) (strs ((L.take (k + 1)).map (partS s)))) := by
          show World.ownsRow _ _ _ _ _ _ _
          rw [HTk.out, strs_app]
          have e : strs [partS s ((F : Int), cn)] = [.string Z] := by
            rw [← hZ]
            unfold strs partS
            simp only [List.map_cons, List.map_nil, Int.toNat_natCast]
            rw [show 64 :: (decDigits F ++ (s ++ decDigits cn)) = [64] ++ decDigits F ++ s ++ decDigits cn by simp, ← sh_cat, ← sh_cat, ← sh_cat]
          rw [e]
          exact hown4
        clear hown4 hgrow4 hloc4 hlt4 hown3 HB2 HB3 HBw3
        go_wp2
        go_roundw
        case rel => exact ⟨k + 1, by omega, by go_num, HO4, HB4⟩
        case measure => simp [intOf]; omega
    · obtain rfl : k = L.length := by omega
      have hO := HO.out
      rw [List.take_length] at hO
      have HO2 : Hid _ := hO
      clear hO
      go_wp2
      go_ret
      exact ⟨_, rfl, HO2.out, HB.out⟩
end Go.Proofs.YtebpapmnkbehnaaDoor
