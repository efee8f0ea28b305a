/- What the reader's seq answers, where unary answers as the model's; no conditions but that the reader stands. -/
import Derived.Test.YtebpapmnkbehnaaDoorP7
import Derived.Maps.AppendAt
set_option linter.unusedVariables false
set_option linter.unusedSimpArgs false
namespace Go.Proofs.YtebpapmnkbehnaaDoor
open Go.RowKit Go.Joins

theorem info29 : (Tryd.prog.info? 29).map (fun i => (i.zero, i.size, i.bytes)) = some (some (nv ⟨0, 0, 0, .slice none 0 0⟩), 4, 48) := by kernel_rfl
/-- Where the reader stands, off memory. -/
def rdPos (w : World) (g : Nat) : Nat := match w.cell? ⟨g, 1, none⟩ with
  | some (.int _ z) => z.toNat
  | _ => 0
theorem manyM_succ (L : List Tk) (sign : List UInt8) (g : St → Pl × St) (k : Nat) (acc : List Pl) (σ : St) : manyM L sign g (k + 1) acc σ = if isNext L sign σ then manyM L sign g k (acc ++ [(g σ.next).1]) (g σ.next).2 else (acc, σ) := rfl
theorem manyM_stop (L : List Tk) (sign : List UInt8) (g : St → Pl × St) (k : Nat) (acc : List Pl) (σ : St) (h : isNext L sign σ = false) : manyM L sign g k acc σ = (acc, σ) := by
  cases k with
  | zero => rfl
  | succ k => rw [manyM_succ, if_neg (by rw [h]; decide)]
theorem cell_new4 (w : World) (x : Nd) (g : Nat) (hg : w.heap.size = g) : ∀ j u, (enc4 x)[j]? = some u → (w.alloc (pobj x)).cell? ((⟨g, 0, none⟩ : Addr).add j) = some u := by
  subst hg
  exact cell_new3 w (enc4 x) 29
end Go.Proofs.YtebpapmnkbehnaaDoor
