/- What a row's acts make of a packet, in order, each once: up to 500 acts. -/
import Derived.Test.YtbcikkofbdfmaaaX2
import Derived.Test.YtbcikkofbdfmaaaS3
set_option linter.unusedVariables false
set_option linter.unusedSimpArgs false
namespace Go.Proofs.Ytbcikkofbdfmaaa
open Go.RowKit Go.Joins Go.Sort

theorem hid {p : Prop} (h : p) : Hid p := h
abbrev pob (q : P8) : Obj := .cells #[.int .u16 q.a0, .int .u16 q.a1, .int .u16 q.a2, .int .u16 q.a3, .int .u16 q.a4, .int .u16 q.a5, .int .u16 q.a6, .int .u16 q.a7] 25
theorem pks_nil (w : World) : Pks w (.slice none 0 0) [] := pks_of_own (World.ownsRow_nil w 0 25 8)
theorem sortL_len' (l : List P8) : (sortL l).length ≤ l.length := sortL_len l

end Go.Proofs.Ytbcikkofbdfmaaa
