/- How many bits of a number below 2^64 are set, by adding bytes; no program, no conditions. -/
import Derived.Test.YtklamncepgejeaaDoorM1
set_option linter.unusedVariables false
set_option linter.unusedSimpArgs false
namespace Go.Proofs.YtklamncepgejeaaDoor
/-- The bytes' counts, added twice. -/
def fin (y : Nat) : Nat := ((y + y / 256) % 18446744073709551616 + (y + y / 256) % 18446744073709551616 / 65536) % 18446744073709551616
theorem fold8 (p0 p1 p2 p3 p4 p5 p6 p7 r1 r2 r3 r4 r5 r6 a0 a1 a2 : Nat) (l0 : p0 ≤ 8) (l1 : p1 ≤ 8) (l2 : p2 ≤ 8) (l3 : p3 ≤ 8) (l4 : p4 ≤ 8) (l5 : p5 ≤ 8) (l6 : p6 ≤ 8) (l7 : p7 ≤ 8)
    (h6 : r6 = p6 + 256 * p7) (h5 : r5 = p5 + 256 * r6) (h4 : r4 = p4 + 256 * r5) (h3 : r3 = p3 + 256 * r4) (h2 : r2 = p2 + 256 * r3) (h1 : r1 = p1 + 256 * r2) :
    (fin (p0 + 256 * r1) + fin (p0 + 256 * r1) / 4294967296) % 18446744073709551616 % 128 = p0 + (p1 + (p2 + (p3 + (p4 + (p5 + (p6 + p7)))))) := by
  unfold fin
  have b6 : r6 ≤ 2056 := by omega
  have b5 : r5 ≤ 526344 := by clear h6 h4 h3 h2 h1; omega
  have b4 : r4 ≤ 134744072 := by clear h6 h5 h3 h2 h1; omega
  have b3 : r3 ≤ 34494482440 := by clear h6 h5 h4 h2 h1; omega
  have b2 : r2 ≤ 8830587504648 := by clear h6 h5 h4 h3 h1; omega
  have b1 : r1 ≤ 2260630401189896 := by clear h6 h5 h4 h3 h2; omega
  have d0 : (p0 + 256 * r1) / 256 = r1 := by clear h6 h5 h4 h3 h2 h1; omega
  have m4 : (p0 + 256 * r1 + r1) % 18446744073709551616 = p0 + 256 * r1 + r1 := Nat.mod_eq_of_lt (by clear h6 h5 h4 h3 h2 h1 d0; omega)
  rw [d0, m4]
  have s4 : p0 + 256 * r1 + r1 = (p0 + p1 + 256 * (p1 + p2)) + 65536 * (r2 + r3) := by clear h6 h5 h4 h3 d0 m4; omega
  have sA : r2 + r3 = (p2 + p3 + 256 * (p3 + p4)) + 65536 * (r4 + r5) := by clear h6 h5 h1 d0 m4 s4; omega
  have sB : r4 + r5 = (p4 + p5 + 256 * (p5 + p6)) + 65536 * (r6 + p7) := by clear h3 h2 h1 d0 m4 s4 sA; omega
  rw [s4]
  have c0 : p0 + p1 + 256 * (p1 + p2) ≤ 4112 := by omega
  have c1 : p2 + p3 + 256 * (p3 + p4) ≤ 4112 := by omega
  have c2 : p4 + p5 + 256 * (p5 + p6) ≤ 4112 := by omega
  clear d0 m4 s4 h5 h4 h3 h2 h1
  generalize hA : r2 + r3 = A at *
  generalize hB : r4 + r5 = B at *
  generalize hC : r6 + p7 = C at *
  have bC : C ≤ 2064 := by omega
  have bB : B ≤ 135270416 := by omega
  have bA : A ≤ 8865081987088 := by omega
  generalize e0 : p0 + p1 + 256 * (p1 + p2) = x0 at *
  generalize e1 : p2 + p3 + 256 * (p3 + p4) = x1 at *
  generalize e2 : p4 + p5 + 256 * (p5 + p6) = x2 at *
  have d4 : (x0 + 65536 * A) / 65536 = A := by clear hA hB hC e0 e1 e2 sA sB h6; omega
  have m5 : (x0 + 65536 * A + A) % 18446744073709551616 = x0 + 65536 * A + A := Nat.mod_eq_of_lt (by clear hA hB hC e0 e1 e2 sA sB h6 d4; omega)
  rw [d4, m5]
  have s5 : x0 + 65536 * A + A = (x0 + x1 + 65536 * (x1 + x2)) + 4294967296 * (B + C) := by clear hA hB hC e0 e1 e2 h6 d4 m5; omega
  rw [s5]
  have d5 : ((x0 + x1 + 65536 * (x1 + x2)) + 4294967296 * (B + C)) / 4294967296 = B + C := by clear hA hB hC e0 e1 e2 h6 d4 m5 sA sB s5; omega
  rw [d5, Nat.mod_mod_of_dvd _ (by decide : 128 ∣ 18446744073709551616)]
  have s6 : (x0 + x1 + 65536 * (x1 + x2)) + 4294967296 * (B + C) + (B + C) = (p0 + p1 + p2 + p3 + p4 + p5 + p6 + p7) + 128 * (2 * (p1 + p2 + p3 + p4 + p5 + p6 + p7) + 512 * (x1 + x2 + C) + 33554432 * (B + C)) := by
    clear hA hB d4 m5 sA s5 d5; omega
  rw [s6, Nat.add_mul_mod_self_left]
  clear s6 d5 s5 m5 d4 e0 e1 e2 sA sB hA hB hC c0 c1 c2
  omega
theorem ones (x : Nat) : (fin (lane 8 x) + fin (lane 8 x) / 4294967296) % 18446744073709551616 % 128 = cnt 64 x := by
  rw [show (64 : Nat) = 8 * (7 + 1) from rfl, lane_cnt, show 8 * 7 = 8 * (6 + 1) from rfl, lane_cnt, show 8 * 6 = 8 * (5 + 1) from rfl, lane_cnt, show 8 * 5 = 8 * (4 + 1) from rfl, lane_cnt, show 8 * 4 = 8 * (3 + 1) from rfl, lane_cnt, show 8 * 3 = 8 * (2 + 1) from rfl, lane_cnt, show 8 * 2 = 8 * (1 + 1) from rfl, lane_cnt, show 8 * 1 = 8 * (0 + 1) from rfl, lane_cnt]
  simp only [lane, Nat.mul_zero, cnt.eq_1, Nat.add_zero]
  exact fold8 _ _ _ _ _ _ _ _ _ _ _ _ _ _ 0 0 0 (cnt8_le _ (Nat.mod_lt _ (by decide))) (cnt8_le _ (Nat.mod_lt _ (by decide))) (cnt8_le _ (Nat.mod_lt _ (by decide))) (cnt8_le _ (Nat.mod_lt _ (by decide))) (cnt8_le _ (Nat.mod_lt _ (by decide))) (cnt8_le _ (Nat.mod_lt _ (by decide))) (cnt8_le _ (Nat.mod_lt _ (by decide))) (cnt8_le _ (Nat.mod_lt _ (by decide))) rfl rfl rfl rfl rfl rfl
end Go.Proofs.YtklamncepgejeaaDoor
