/-
  DERIVED. GIVEN WITH THE SEED: THE CARDS: each row of YtcfploigpnjmoaaDoorRows.lean that lists a variable, with what it lists TIED to the program's text (the seventh form; the later family's looks); each row that meets fmt, with fmt's text TOLD by the authors' own Lean function (tested against real Go, not proved from fmt's source: count such statements apart). THE CARD IS WHAT COUNTS. Prove the row's statement (the work); the ties are given (YtcfploigpnjmoaaDoorTie.lean); close each card by the builder's one call (the guide's Derived/Test/ToyasCard.lean, 'card_holds'). Laid BY PROGRAM, IN A SANDBOX (cutbox-door.mjs). By AI agents, Wed Nov 11 2026. No macro, syntax, notation, axiom, sorry.
-/
import Derived.Test.YtcfploigpnjmoaaDoorRows
import GoSem.ClaimSeven
namespace Go.Proofs.YtcfploigpnjmoaaDoor
namespace Rows

/-- THE TIED CARD OF 'pointsmanlaw01.PacketFields'. -/
def packetFieldsCard : Claim7 := { stood := { row := packetFieldsRow, standIns := [], harness := (true, "24350199685bc7be0af7f2ee20495cb595d8ddbf12bbab2785e2f3f0001cadb2"), looks := true }, kinds := [], alts := [], laidByText := true, laidKinds := [.data, .data, .data, .sentinel, .sentinel, .data], laidTests := true, laidLooks := .later }
def PacketFieldsCardSaid : Prop := Claim7.holds Tryd.pinned (.plain (OpenSpec.ofChange packetFieldsSpec)) packetFieldsCard

/-- THE TIED CARD OF 'pointsmanlaw01.PacketText'. -/
def packetTextCard : Claim7 := { stood := { row := packetTextRow, standIns := [], harness := (true, "24350199685bc7be0af7f2ee20495cb595d8ddbf12bbab2785e2f3f0001cadb2"), looks := true }, kinds := [], alts := [], laidByText := true, laidKinds := [.data, .data, .data, .sentinel, .sentinel, .data], laidTests := true, laidLooks := .later }
def PacketTextCardSaid : Prop := Claim7.holds Tryd.pinned (.plain (OpenSpec.ofChange packetTextSpec)) packetTextCard

/-- THE TIED CARD OF 'pointsmanlaw01.PacketSorts'. -/
def packetSortsCard : Claim7 := { stood := { row := packetSortsRow, standIns := [], harness := (true, "24350199685bc7be0af7f2ee20495cb595d8ddbf12bbab2785e2f3f0001cadb2"), looks := true }, kinds := [], alts := [], laidByText := true, laidKinds := [.data, .data, .data, .sentinel, .sentinel, .data], laidTests := true, laidLooks := .later }
def PacketSortsCardSaid : Prop := Claim7.holds Tryd.pinned (.plain (OpenSpec.ofChange packetSortsSpec)) packetSortsCard

/-- THE TIED CARD OF 'pointsmanlaw01.PacketHas'. -/
def packetHasCard : Claim7 := { stood := { row := packetHasRow, standIns := [], harness := (true, "24350199685bc7be0af7f2ee20495cb595d8ddbf12bbab2785e2f3f0001cadb2"), looks := true }, kinds := [], alts := [], laidByText := true, laidKinds := [.data, .data, .data, .sentinel, .sentinel, .data], laidTests := true, laidLooks := .later }
def PacketHasCardSaid : Prop := Claim7.holds Tryd.pinned (.plain (OpenSpec.ofChange packetHasSpec)) packetHasCard

/-- THE SECOND FORM's CARD OF 'pointsmanlaw01.PacketFields'. -/
def packetFieldsUptoCard : Claim7 := { stood := { row := packetFieldsUptoRow, standIns := [], harness := (true, "24350199685bc7be0af7f2ee20495cb595d8ddbf12bbab2785e2f3f0001cadb2"), looks := true }, kinds := [], alts := [], laidByText := true, laidKinds := [.data, .data, .data, .sentinel, .sentinel, .data], laidTests := true, laidLooks := .later }
def PacketFieldsUptoCardSaid : Prop := Claim7.holds Tryd.pinned (.plain (OpenSpec.upto packetFieldsSpec)) packetFieldsUptoCard

/-- THE SECOND FORM's CARD OF 'pointsmanlaw01.PacketText'. -/
def packetTextUptoCard : Claim7 := { stood := { row := packetTextUptoRow, standIns := [], harness := (true, "24350199685bc7be0af7f2ee20495cb595d8ddbf12bbab2785e2f3f0001cadb2"), looks := true }, kinds := [], alts := [], laidByText := true, laidKinds := [.data, .data, .data, .sentinel, .sentinel, .data], laidTests := true, laidLooks := .later }
def PacketTextUptoCardSaid : Prop := Claim7.holds Tryd.pinned (.plain (OpenSpec.upto packetTextSpec)) packetTextUptoCard

/-- THE SECOND FORM's CARD OF 'pointsmanlaw01.PacketSorts'. -/
def packetSortsUptoCard : Claim7 := { stood := { row := packetSortsUptoRow, standIns := [], harness := (true, "24350199685bc7be0af7f2ee20495cb595d8ddbf12bbab2785e2f3f0001cadb2"), looks := true }, kinds := [], alts := [], laidByText := true, laidKinds := [.data, .data, .data, .sentinel, .sentinel, .data], laidTests := true, laidLooks := .later }
def PacketSortsUptoCardSaid : Prop := Claim7.holds Tryd.pinned (.plain (OpenSpec.upto packetSortsSpec)) packetSortsUptoCard

/-- THE SECOND FORM's CARD OF 'pointsmanlaw01.PacketHas'. -/
def packetHasUptoCard : Claim7 := { stood := { row := packetHasUptoRow, standIns := [], harness := (true, "24350199685bc7be0af7f2ee20495cb595d8ddbf12bbab2785e2f3f0001cadb2"), looks := true }, kinds := [], alts := [], laidByText := true, laidKinds := [.data, .data, .data, .sentinel, .sentinel, .data], laidTests := true, laidLooks := .later }
def PacketHasUptoCardSaid : Prop := Claim7.holds Tryd.pinned (.plain (OpenSpec.upto packetHasSpec)) packetHasUptoCard
end Rows
end Go.Proofs.YtcfploigpnjmoaaDoor
