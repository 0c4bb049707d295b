/-
  DERIVED. GIVEN WITH THE SEED: THE CARDS: each row of YtdblmheoghhepaaDoorRows.lean that lists a variable, with what it lists TIED to the program's text (the seventh form; the later family's looks); each row that meets fmt, with fmt's text TOLD by the authors' own Lean function (tested against real Go, not proved from fmt's source: count such statements apart). THE CARD IS WHAT COUNTS. Prove the row's statement (the work); the ties are given (YtdblmheoghhepaaDoorTie.lean); close each card by the builder's one call (the guide's Derived/Test/ToyasCard.lean, 'card_holds'). Laid BY PROGRAM, IN A SANDBOX (cutbox-door.mjs). By AI agents, Wed Nov 11 2026. No macro, syntax, notation, axiom, sorry.
-/
import Derived.Test.YtdblmheoghhepaaDoorRows
import GoSem.ClaimSeven
namespace Go.Proofs.YtdblmheoghhepaaDoor
namespace Rows

/-- THE TIED CARD OF 'larderlaw.Frames'. -/
def framesCard : Claim7 := { stood := { row := framesRow, standIns := [], harness := (true, "357b4b2ca6563fb2b656253365cf018d8d485bc252071f6d959708f533ac3d84"), looks := false }, kinds := [], alts := [], laidByText := true, laidKinds := [.data], laidTests := true, laidLooks := .later }
def FramesCardSaid : Prop := Claim7.holds Tryd.pinned (.plain (OpenSpec.ofChange framesSpec)) framesCard

/-- THE TIED CARD OF 'larderkeep.Back'. -/
def backCard : Claim7 := { stood := { row := backRow, standIns := [], harness := (true, "357b4b2ca6563fb2b656253365cf018d8d485bc252071f6d959708f533ac3d84"), looks := false }, kinds := [], alts := [], laidByText := true, laidKinds := [.data], laidTests := true, laidLooks := .later }
def BackCardSaid : Prop := Claim7.holds Tryd.pinned (.plain (OpenSpec.ofChange backSpec)) backCard

/-- THE TIED CARD OF 'larderkeep.Reckoned'. -/
def reckonedCard : Claim7 := { stood := { row := reckonedRow, standIns := [], harness := (true, "357b4b2ca6563fb2b656253365cf018d8d485bc252071f6d959708f533ac3d84"), looks := false }, kinds := [], alts := [], laidByText := true, laidKinds := [.data], laidTests := true, laidLooks := .later }
def ReckonedCardSaid : Prop := Claim7.holds Tryd.pinned (.plain (OpenSpec.ofChange reckonedSpec)) reckonedCard

/-- THE TIED CARD OF 'larderkeep.Covered'. -/
def coveredCard : Claim7 := { stood := { row := coveredRow, standIns := [], harness := (true, "357b4b2ca6563fb2b656253365cf018d8d485bc252071f6d959708f533ac3d84"), looks := false }, kinds := [], alts := [], laidByText := true, laidKinds := [.data], laidTests := true, laidLooks := .later }
def CoveredCardSaid : Prop := Claim7.holds Tryd.pinned (.plain (OpenSpec.ofChange coveredSpec)) coveredCard

/-- THE TIED CARD OF 'larderkeep.Again'. -/
def againCard : Claim7 := { stood := { row := againRow, standIns := [], harness := (true, "357b4b2ca6563fb2b656253365cf018d8d485bc252071f6d959708f533ac3d84"), looks := false }, kinds := [], alts := [], laidByText := true, laidKinds := [.data], laidTests := true, laidLooks := .later }
def AgainCardSaid : Prop := Claim7.holds Tryd.pinned (.plain (OpenSpec.ofChange againSpec)) againCard

/-- THE TIED CARD OF 'larderkeep.Ended'. -/
def endedCard : Claim7 := { stood := { row := endedRow, standIns := [], harness := (true, "357b4b2ca6563fb2b656253365cf018d8d485bc252071f6d959708f533ac3d84"), looks := false }, kinds := [], alts := [], laidByText := true, laidKinds := [.data], laidTests := true, laidLooks := .later }
def EndedCardSaid : Prop := Claim7.holds Tryd.pinned (.plain (OpenSpec.ofChange endedSpec)) endedCard

/-- THE TIED CARD OF 'larderkeep.Replayed'. -/
def replayedCard : Claim7 := { stood := { row := replayedRow, standIns := [], harness := (true, "357b4b2ca6563fb2b656253365cf018d8d485bc252071f6d959708f533ac3d84"), looks := false }, kinds := [], alts := [], laidByText := true, laidKinds := [.data], laidTests := true, laidLooks := .later }
def ReplayedCardSaid : Prop := Claim7.holds Tryd.pinned (.plain (OpenSpec.ofChange replayedSpec)) replayedCard

/-- THE SECOND FORM's CARD OF 'larderlaw.Frames'. -/
def framesUptoCard : Claim7 := { stood := { row := framesUptoRow, standIns := [], harness := (true, "357b4b2ca6563fb2b656253365cf018d8d485bc252071f6d959708f533ac3d84"), looks := false }, kinds := [], alts := [], laidByText := true, laidKinds := [.data], laidTests := true, laidLooks := .later }
def FramesUptoCardSaid : Prop := Claim7.holds Tryd.pinned (.plain (OpenSpec.upto framesSpec)) framesUptoCard

/-- THE SECOND FORM's CARD OF 'larderkeep.Back'. -/
def backUptoCard : Claim7 := { stood := { row := backUptoRow, standIns := [], harness := (true, "357b4b2ca6563fb2b656253365cf018d8d485bc252071f6d959708f533ac3d84"), looks := false }, kinds := [], alts := [], laidByText := true, laidKinds := [.data], laidTests := true, laidLooks := .later }
def BackUptoCardSaid : Prop := Claim7.holds Tryd.pinned (.plain (OpenSpec.upto backSpec)) backUptoCard

/-- THE SECOND FORM's CARD OF 'larderkeep.Reckoned'. -/
def reckonedUptoCard : Claim7 := { stood := { row := reckonedUptoRow, standIns := [], harness := (true, "357b4b2ca6563fb2b656253365cf018d8d485bc252071f6d959708f533ac3d84"), looks := false }, kinds := [], alts := [], laidByText := true, laidKinds := [.data], laidTests := true, laidLooks := .later }
def ReckonedUptoCardSaid : Prop := Claim7.holds Tryd.pinned (.plain (OpenSpec.upto reckonedSpec)) reckonedUptoCard

/-- THE SECOND FORM's CARD OF 'larderkeep.Covered'. -/
def coveredUptoCard : Claim7 := { stood := { row := coveredUptoRow, standIns := [], harness := (true, "357b4b2ca6563fb2b656253365cf018d8d485bc252071f6d959708f533ac3d84"), looks := false }, kinds := [], alts := [], laidByText := true, laidKinds := [.data], laidTests := true, laidLooks := .later }
def CoveredUptoCardSaid : Prop := Claim7.holds Tryd.pinned (.plain (OpenSpec.upto coveredSpec)) coveredUptoCard

/-- THE SECOND FORM's CARD OF 'larderkeep.Again'. -/
def againUptoCard : Claim7 := { stood := { row := againUptoRow, standIns := [], harness := (true, "357b4b2ca6563fb2b656253365cf018d8d485bc252071f6d959708f533ac3d84"), looks := false }, kinds := [], alts := [], laidByText := true, laidKinds := [.data], laidTests := true, laidLooks := .later }
def AgainUptoCardSaid : Prop := Claim7.holds Tryd.pinned (.plain (OpenSpec.upto againSpec)) againUptoCard

/-- THE SECOND FORM's CARD OF 'larderkeep.Ended'. -/
def endedUptoCard : Claim7 := { stood := { row := endedUptoRow, standIns := [], harness := (true, "357b4b2ca6563fb2b656253365cf018d8d485bc252071f6d959708f533ac3d84"), looks := false }, kinds := [], alts := [], laidByText := true, laidKinds := [.data], laidTests := true, laidLooks := .later }
def EndedUptoCardSaid : Prop := Claim7.holds Tryd.pinned (.plain (OpenSpec.upto endedSpec)) endedUptoCard

/-- THE SECOND FORM's CARD OF 'larderkeep.Replayed'. -/
def replayedUptoCard : Claim7 := { stood := { row := replayedUptoRow, standIns := [], harness := (true, "357b4b2ca6563fb2b656253365cf018d8d485bc252071f6d959708f533ac3d84"), looks := false }, kinds := [], alts := [], laidByText := true, laidKinds := [.data], laidTests := true, laidLooks := .later }
def ReplayedUptoCardSaid : Prop := Claim7.holds Tryd.pinned (.plain (OpenSpec.upto replayedSpec)) replayedUptoCard
end Rows
end Go.Proofs.YtdblmheoghhepaaDoor
