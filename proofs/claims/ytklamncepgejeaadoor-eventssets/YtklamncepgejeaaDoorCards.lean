/-
  DERIVED. GIVEN WITH THE SEED: THE CARDS: each row of YtklamncepgejeaaDoorRows.lean that lists a variable, with what it lists TIED to the program's text (the seventh form; the later family's looks); each row that meets fmt, with fmt's text TOLD by the authors' own Lean function (tested against real Go, not proved from fmt's source: count such statements apart). THE CARD IS WHAT COUNTS. Prove the row's statement (the work); the ties are given (YtklamncepgejeaaDoorTie.lean); close each card by the builder's one call (the guide's Derived/Test/ToyasCard.lean, 'card_holds'). Laid BY PROGRAM, IN A SANDBOX (cutbox-door.mjs). By AI agents, Wed Nov 11 2026. No macro, syntax, notation, axiom, sorry.
-/
import Derived.Test.YtklamncepgejeaaDoorRows
import GoSem.ClaimSeven
namespace Go.Proofs.YtklamncepgejeaaDoor
namespace Rows

/-- THE TIED CARD OF 'pointsmanlaw02.EventsSets'. -/
def eventsSetsCard : Claim7 := { stood := { row := eventsSetsRow, standIns := [], harness := (true, "424ab40969a5944d8ee852fe6a6632af0360be5cc180cea61597fd3896689702"), looks := true }, kinds := [], alts := [], laidByText := true, laidKinds := [.data, .data, .data, .sentinel, .sentinel], laidTests := true, laidLooks := .later }
def EventsSetsCardSaid : Prop := Claim7.holds Tryd.pinned (.plain (OpenSpec.ofChange eventsSetsSpec)) eventsSetsCard

/-- THE TIED CARD OF 'pointsmanlaw02.EventsIn'. -/
def eventsInCard : Claim7 := { stood := { row := eventsInRow, standIns := [], harness := (true, "424ab40969a5944d8ee852fe6a6632af0360be5cc180cea61597fd3896689702"), looks := true }, kinds := [], alts := [], laidByText := true, laidKinds := [.data, .data, .data, .sentinel, .sentinel], laidTests := true, laidLooks := .later }
def EventsInCardSaid : Prop := Claim7.holds Tryd.pinned (.plain (OpenSpec.ofChange eventsInSpec)) eventsInCard

/-- THE TIED CARD OF 'pointsmanlaw02.EventsText'. -/
def eventsTextCard : Claim7 := { stood := { row := eventsTextRow, standIns := [], harness := (true, "424ab40969a5944d8ee852fe6a6632af0360be5cc180cea61597fd3896689702"), looks := true }, kinds := [], alts := [], laidByText := true, laidKinds := [.data, .data, .data, .sentinel, .sentinel], laidTests := true, laidLooks := .later }
def EventsTextCardSaid : Prop := Claim7.holds Tryd.pinned (.plain (OpenSpec.ofChange eventsTextSpec)) eventsTextCard

/-- THE SECOND FORM's CARD OF 'pointsmanlaw02.EventsSets'. -/
def eventsSetsUptoCard : Claim7 := { stood := { row := eventsSetsUptoRow, standIns := [], harness := (true, "424ab40969a5944d8ee852fe6a6632af0360be5cc180cea61597fd3896689702"), looks := true }, kinds := [], alts := [], laidByText := true, laidKinds := [.data, .data, .data, .sentinel, .sentinel], laidTests := true, laidLooks := .later }
def EventsSetsUptoCardSaid : Prop := Claim7.holds Tryd.pinned (.plain (OpenSpec.upto eventsSetsSpec)) eventsSetsUptoCard

/-- THE SECOND FORM's CARD OF 'pointsmanlaw02.EventsIn'. -/
def eventsInUptoCard : Claim7 := { stood := { row := eventsInUptoRow, standIns := [], harness := (true, "424ab40969a5944d8ee852fe6a6632af0360be5cc180cea61597fd3896689702"), looks := true }, kinds := [], alts := [], laidByText := true, laidKinds := [.data, .data, .data, .sentinel, .sentinel], laidTests := true, laidLooks := .later }
def EventsInUptoCardSaid : Prop := Claim7.holds Tryd.pinned (.plain (OpenSpec.upto eventsInSpec)) eventsInUptoCard

/-- THE SECOND FORM's CARD OF 'pointsmanlaw02.EventsText'. -/
def eventsTextUptoCard : Claim7 := { stood := { row := eventsTextUptoRow, standIns := [], harness := (true, "424ab40969a5944d8ee852fe6a6632af0360be5cc180cea61597fd3896689702"), looks := true }, kinds := [], alts := [], laidByText := true, laidKinds := [.data, .data, .data, .sentinel, .sentinel], laidTests := true, laidLooks := .later }
def EventsTextUptoCardSaid : Prop := Claim7.holds Tryd.pinned (.plain (OpenSpec.upto eventsTextSpec)) eventsTextUptoCard
end Rows
end Go.Proofs.YtklamncepgejeaaDoor
