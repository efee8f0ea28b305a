import Derived.Test.YtbcikkofbdfmaaaW1
import Derived.ChangeKeysEq
set_option linter.unusedVariables false
set_option linter.unusedSimpArgs false
namespace Go.Proofs.Ytbcikkofbdfmaaa
open Go.RowKit
def same8 (l r : List Int) : Bool := l == r
theorem same8_self (l : List Int) : same8 l l = true := by simp [same8]
theorem cells22 : Try.prog.cellsOf 23 = 1 := by kernel_rfl
theorem info22 : ∃ i, Try.prog.info? 23 = some i := by
  have h : (Try.prog.info? 23).isSome = true := by kernel_rfl
  exact Option.isSome_iff_exists.1 h
set_option maxRecDepth 100000 in
theorem eql8 (a0 a1 a2 a3 a4 a5 a6 a7 b0 b1 b2 b3 b4 b5 b6 b7 : Int) (w : World) :
    (Op.equalIn 10000 25 (pk a0 a1 a2 a3 a4 a5 a6 a7) (pk b0 b1 b2 b3 b4 b5 b6 b7)).run Try.prog w = .ok (same8 [a0, a1, a2, a3, a4, a5, a6, a7] [b0, b1, b2, b3, b4, b5, b6, b7]) w := by
  obtain ⟨i, hi⟩ := info22
  rw [show (10000 : Nat) = 9999 + 1 from rfl]
  unfold pk
  rw [run_equalIn_array w 9999 _ _ Try.underlying25 hi, cells22]
  rw [show List.range 8 = [0, 1, 2, 3, 4, 5, 6, 7] from rfl, show (9999 : Nat) = 9998 + 1 from rfl]
  simp only [Op.eqItems, Sem.run_bind]
  simp [part, go_sem, Try.underlying23, same8]
  (repeat' split) <;> simp_all
end Go.Proofs.Ytbcikkofbdfmaaa
