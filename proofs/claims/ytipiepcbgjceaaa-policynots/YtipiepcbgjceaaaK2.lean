/- What Depth and Size answer, the program's and the document's; policies of up to 100000 nodes. -/
import Derived.Test.YtipiepcbgjceaaaP2
import Derived.Test.YtipiepcbgjceaaaK1
set_option linter.unusedVariables false
set_option linter.unusedSimpArgs false
namespace Go.Proofs.Ytipiepcbgjceaaa
open Go.RowKit Go.Joins

/-- A policy's cells and kids. -/
theorem PolAt.open {P : Nat → Prop} {w : World} {op f n : Int} {kids : List Pl} {x : Nd} (h : PolAt P w (.mk op f n kids) x) :
    ∃ sa sc, x = ⟨op, f, n, .slice sa kids.length sc⟩ ∧ ∀ k (hk : k < kids.length), ∃ b off sa2 n2 sc2 y0 y1 y2, sa = some ⟨b, off, none⟩ ∧ b < w.heap.size ∧ At4 w b (off + k * 4) ⟨y0, y1, y2, .slice sa2 n2 sc2⟩ ∧ PolAt P w kids[k] ⟨y0, y1, y2, .slice sa2 n2 sc2⟩ := by
  unfold PolAt at h
  obtain ⟨h1, h2, h3, sa, sc, h4, h5⟩ := h
  obtain ⟨xo, xf, xn, xk⟩ := x
  dsimp only at h1 h2 h3 h4
  subst h1 h2 h3 h4
  refine ⟨sa, sc, rfl, fun k hk => ?_⟩
  obtain ⟨b, off, e, _, hb, hK⟩ := h5 (fun e => by rw [e] at hk; simp at hk)
  obtain ⟨y, ha, hp⟩ := PolAt.KidsAt.get kids off hK k hk
  obtain ⟨_, _, _, sa2, sc2, e2⟩ := hp.shape
  obtain ⟨y0, y1, y2, yk⟩ := y
  dsimp only at e2
  subst e2
  exact ⟨b, off, sa2, _, sc2, y0, y1, y2, e, hb, ha, hp⟩

end Go.Proofs.Ytipiepcbgjceaaa
