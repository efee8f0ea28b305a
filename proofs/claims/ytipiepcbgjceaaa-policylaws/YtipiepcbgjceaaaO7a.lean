/- How many bits a number has, at this program; no conditions. -/
import Derived.Shelf.Small.Bits
import Derived.Test.YtipiepcbgjceaaaProg
import Derived.Test.YtipiepcbgjceaaaO5
import Derived.Laws.BitsAllLaws
set_option linter.unusedVariables false
namespace Go.Proofs
open Go.Shelf
def Try.bits_ren : Go.Shelf.Ren := ⟨fun | 125 => 66 | 128 => 83 | 129 => 84 | _ => 0, fun | 3 => 3 | 4 => 4 | 5 => 5 | 9 => 9 | 46 => 105 | 51 => 122 | 53 => 124 | _ => 0, fun n => n⟩
theorem Try.bitsL : Go.Proofs.Lays.n125 Try.prog Try.bits_ren := {
  mixed := by kernel_rfl
  f125 := Try.func66.trans (congrArg some (by kernel_rfl))
  f128 := Try.func83.trans (congrArg some (by kernel_rfl))
  f129 := Try.func84.trans (congrArg some (by kernel_rfl))
  t3 := Try.underlying3
  a3 := Try.isAgg3
  z3 := Try.sizeOf3
  v3 := Try.zeroValue3
  t4 := Try.underlying4
  a4 := Try.isAgg4
  z4 := Try.sizeOf4
  v4 := Try.zeroValue4
  t5 := Try.underlying5
  a5 := Try.isAgg5
  z5 := Try.sizeOf5
  v5 := Try.zeroValue5
  t9 := Try.underlying9
  a9 := Try.isAgg9
  z9 := Try.sizeOf9
  v9 := Try.zeroValue9
  t46 := Try.underlying105
  a46 := Try.isAgg105
  z46 := Try.sizeOf105
  v46 := Try.zeroValue105
  t51 := Try.underlying122
  a51 := Try.isAgg122
  z51 := Try.sizeOf122
  v51 := Try.zeroValue122
  t53 := Try.underlying124
  a53 := Try.isAgg124
  z53 := Try.sizeOf124
  v53 := Try.zeroValue124 }
end Go.Proofs
namespace Go.Proofs.Ytipiepcbgjceaaa
theorem len66 (x : Int) (w : World) (h0 : 0 ≤ x) (h1 : x ≤ 18446744073709551615) : Calls Try.prog 66 #[.int .u64 x] w fun e w' => e = .returned (.int .i64 (Lib.bitLen x.toNat)) ∧ w' = w :=
  Any.bits_Len Try.bitsL x w h0 h1
end Go.Proofs.Ytipiepcbgjceaaa
/- A row turned round, and one whose patterns are broken; no conditions but the row's length. -/
set_option linter.unusedVariables false
set_option linter.unusedSimpArgs false
namespace Go.Proofs.Ytipiepcbgjceaaa
open Go.RowKit Go.Joins Go.Sort

set_option maxRecDepth 100000 in
set_option maxHeartbeats 2000000 in
theorem reverse_any (b off cap a z N : Nat) (d : Array Int) (w : World) (hH : Holds (Value.int .u16) w b off d) (hb : b < w.heap.size) (haz : a < z) (hz : z ≤ N) (hd : d.size = N) (hN : N ≤ 100000) :
    Calls Try.prog 98 #[.slice (some ⟨b, off, none⟩) N cap, .int .i64 a, .int .i64 z] w fun e w' => e = .returned (.tuple #[]) ∧ ∃ d', PermIn a z d d' ∧ Sd w b off d d' w' := by
  have S0 : Hid (Sd w b off d d w) := Sd.start hH hb
  have HD : Hid (d.size = N) := hd
  obtain ⟨m, hm⟩ : ∃ m, z - 1 = m := ⟨_, rfl⟩
  have em : (z : Int) - 1 = (m : Int) := by omega
  have hmz : a ≤ m ∧ m < z := by omega
  clear hH hd hm
  go_enter Try.func98, Try.ntmps98
  go_wp2
  go_loopw [6, 7] (fun vi vj wr => ∃ (i j : Nat) (y : Array Int), vi = .int .i64 i ∧ vj = .int .i64 j ∧ a ≤ i ∧ i ≤ z ∧ j < z ∧ Hid (Sd w b off d y wr) ∧ Hid (PermIn a z d y)) (fun vi vj _ => (intOf vj - intOf vi).toNat)
  case atStart => exact ⟨a, m, d, rfl, rfl, Nat.le_refl _, by omega, by omega, S0, permIn_refl _ _ _⟩
  case round =>
    obtain ⟨i, j, y, rfl, rfl, hai, hiz, hjz, HT, HP⟩ := hrel
    clear S0
    by_cases hlt : i < j
    · obtain ⟨G, HG, hc, hf⟩ := HT.out.cells HD.out
      have hy : Hid (y.size = N) := by unfold Hid; rw [HT.out.size]; exact HD.out
      go_wp2
      go_region
      all_goals go_wp2
      go_roundw
      case rel =>
        have hys : y.size = N := hy.out
        exact ⟨i + 1, j - 1, swp y i j, by go_num, by congr 1; omega, by omega, by omega, by omega, (HT.out.drewN _).swap (by omega) (by omega) (HG.out _) (HG.out _), permIn_trans _ _ _ _ _ HP.out (swp_permIn _ _ _ _ _ hai (by omega) (by omega) hjz (by omega))⟩
      case measure => simp [intOf]; omega
    · go_wp2
      go_end0
      exact ⟨rfl, y, HP.out, HT.out⟩

/-- A row, and a number of 64 bits in a block of its own. -/
structure Cr (w : World) (b off : Nat) (d0 d : Array Int) (rb : Nat) (x : Int) (wr : World) : Prop where
  sd : Sd w b off d0 d wr
  new : w.heap.size ≤ rb
  cell : wr.cell? ⟨rb, 0, none⟩ = some (.int .u64 x)
  frz : wr.frozen? ⟨rb, 0, none⟩ = false
  big : 0 ≤ x ∧ x ≤ 18446744073709551615
theorem Cr.drewN {w : World} {b off : Nat} {d0 d : Array Int} {rb : Nat} {x : Int} {wr : World} (h : Cr w b off d0 d rb x wr) (q : Nat) : Cr w b off d0 d rb x (wr.drewN q) := ⟨h.sd.drewN q, h.new, h.cell, h.frz, h.big⟩
theorem Cr.put {w : World} {b off : Nat} {d0 d : Array Int} {rb : Nat} {x : Int} {wr : World} (h : Cr w b off d0 d rb x wr) (y : Int) (hy : 0 ≤ y ∧ y ≤ 18446744073709551615) : Cr w b off d0 d rb y (wr.setCell ⟨rb, 0, none⟩ (.int .u64 y)) :=
  ⟨h.sd.new h.new rfl _, h.new, by
    obtain ⟨c, e, fr, hg, hc⟩ := cells_of_cell? h.cell
    have h0 : 0 < c.size := (Array.getElem?_eq_some_iff.1 hc).1
    rw [setCell_eq, cell?_mapBlock _ _ _ _ hg]
    simp [h0], by rw [setCell_eq, frozen?_mapBlock]; exact h.frz, hy⟩
theorem wrap_big (z : Int) : 0 ≤ IntKind.u64.wrap z ∧ IntKind.u64.wrap z ≤ 18446744073709551615 := by
  simp [IntKind.wrap, IntKind.signed, IntKind.bits]; omega
theorem xor_big {a c : Int} (ha : 0 ≤ a ∧ a ≤ 18446744073709551615) (hc : 0 ≤ c ∧ c ≤ 18446744073709551615) : 0 ≤ bits BinOp.xor IntKind.u64 a c ∧ bits BinOp.xor IntKind.u64 a c ≤ 18446744073709551615 := by
  rw [u64_xor a c ha.1 (by omega) hc.1 (by omega)]
  have := Nat.xor_lt_two_pow (n := 64) (show a.toNat < 2 ^ 64 by omega) (show c.toNat < 2 ^ 64 by omega)
  omega
set_option maxRecDepth 100000 in
set_option maxHeartbeats 2000000 in
theorem next_any (b off rb N : Nat) (x : Int) (d0 d : Array Int) (w0 w : World) (h : Cr w0 b off d0 d rb x w) :
    Calls Try.prog 91 #[.pointer (some ⟨rb, 0, none⟩)] w fun e w' => ∃ y : Int, e = .returned (.int .u64 y) ∧ Cr w0 b off d0 d rb y w' := by
  have hcell := h.cell
  have hfrz := h.frz
  have HC := hid h
  clear h
  go_enter Try.func91, Try.ntmps91
  go_wp2
  go_region
  have HC1 : Hid (Cr w0 b off d0 d rb (bits BinOp.xor IntKind.u64 x (IntKind.u64.wrap (x * 8192))) (w.setCell ⟨rb, 0, none⟩ (.int .u64 (bits BinOp.xor IntKind.u64 x (IntKind.u64.wrap (x * 8192))))).drew) := (HC.out.put _ (xor_big HC.out.big (wrap_big _))).drewN 1
  have hcell := HC1.out.cell
  have hfrz := HC1.out.frz
  clear HC
  generalize (w.setCell ⟨rb, 0, none⟩ (.int .u64 (bits BinOp.xor IntKind.u64 x (IntKind.u64.wrap (x * 8192))))).drew = w1 at *
  generalize bits BinOp.xor IntKind.u64 x (IntKind.u64.wrap (x * 8192)) = x1 at *
  go_wp2
  go_region
  have HC2 : Hid (Cr w0 b off d0 d rb (bits BinOp.xor IntKind.u64 x1 (x1 / 128)) (w1.setCell ⟨rb, 0, none⟩ (.int .u64 (bits BinOp.xor IntKind.u64 x1 (x1 / 128)))).drew) := (HC1.out.put _ (xor_big HC1.out.big (by have := HC1.out.big; omega))).drewN 1
  have hcell := HC2.out.cell
  have hfrz := HC2.out.frz
  clear HC1
  generalize (w1.setCell ⟨rb, 0, none⟩ (.int .u64 (bits BinOp.xor IntKind.u64 x1 (x1 / 128)))).drew = w2 at *
  generalize bits BinOp.xor IntKind.u64 x1 (x1 / 128) = x2 at *
  go_wp2
  go_region
  have HC3 : Hid (Cr w0 b off d0 d rb (bits BinOp.xor IntKind.u64 x2 (IntKind.u64.wrap (x2 * 131072))) (w2.setCell ⟨rb, 0, none⟩ (.int .u64 (bits BinOp.xor IntKind.u64 x2 (IntKind.u64.wrap (x2 * 131072))))).drew) := (HC2.out.put _ (xor_big HC2.out.big (wrap_big _))).drewN 1
  have hcell := HC3.out.cell
  have hfrz := HC3.out.frz
  clear HC2
  generalize (w2.setCell ⟨rb, 0, none⟩ (.int .u64 (bits BinOp.xor IntKind.u64 x2 (IntKind.u64.wrap (x2 * 131072))))).drew = w3 at *
  generalize bits BinOp.xor IntKind.u64 x2 (IntKind.u64.wrap (x2 * 131072)) = x3 at *
  go_wp2
  go_ret
  exact ⟨x3, rfl, HC3.out⟩
end Go.Proofs.Ytipiepcbgjceaaa
