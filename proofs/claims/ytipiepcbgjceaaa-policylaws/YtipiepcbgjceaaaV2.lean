/- What lies there while PolicyLaws goes on: three policies, id, drop, a packet, a state. -/
import Derived.Test.YtipiepcbgjceaaaV1
set_option linter.unusedVariables false
set_option linter.unusedSimpArgs false
namespace Go.Proofs.Ytipiepcbgjceaaa
open Go.RowKit Go.Joins Go.Sort

structure LS (w : World) (st : List Nat) (sv : Value) (a b c : Pl) (xa xb xc : Nd) (ga gb gc gi gd gq : Nat) (q : P8) (W : World) : Prop where
  bel : Below w.heap.size w W
  ra : W.heap[ga]? = some (pobj xa)
  pa : PolAt All W a xa
  rb : W.heap[gb]? = some (pobj xb)
  pb : PolAt All W b xb
  rc : W.heap[gc]? = some (pobj xc)
  pc : PolAt All W c xc
  ri : W.heap[gi]? = some (pobj ⟨1, 0, 0, .slice none 0 0⟩)
  rd : W.heap[gd]? = some (pobj ⟨0, 0, 0, .slice none 0 0⟩)
  rq : W.heap[gq]? = some (pobj8 q)
  st : StAt W sv st
theorem LS.below {w : World} {st : List Nat} {sv : Value} {a b c : Pl} {xa xb xc : Nd} {ga gb gc gi gd gq : Nat} {q : P8} {W W' : World} (h : LS w st sv a b c xa xb xc ga gb gc gi gd gq q W) (hb : Below W.heap.size W W') : LS w st sv a b c xa xb xc ga gb gc gi gd gq q W' :=
  ⟨h.bel.trans (hb.mono h.bel.size), (hb.block _ (heap_lt h.ra)).trans h.ra, h.pa.below hb, (hb.block _ (heap_lt h.rb)).trans h.rb, h.pb.below hb, (hb.block _ (heap_lt h.rc)).trans h.rc, h.pc.below hb, (hb.block _ (heap_lt h.ri)).trans h.ri, (hb.block _ (heap_lt h.rd)).trans h.rd, (hb.block _ (heap_lt h.rq)).trans h.rq, h.st.below hb⟩
theorem load4 {w : World} {g : Nat} (x : Nd) (h : w.heap[g]? = some (pobj x)) : (Instr.loadAt 30 (.pointer (some ⟨g, 0, none⟩))).run Try.prog w = .ok (nv x) w := by
  obtain ⟨a0, a1, a2, a3⟩ := row4 h
  go_simp
theorem load8 {w : World} {g : Nat} (q : P8) (h : w.heap[g]? = some (pobj8 q)) : (Instr.loadAt 26 (.pointer (some ⟨g, 0, none⟩))).run Try.prog w = .ok q.v w := by
  obtain ⟨⟨c0, c1, c2, c3, c4, c5, c6, c7⟩, -, -⟩ := row8 h
  go_simp
end Go.Proofs.Ytipiepcbgjceaaa
