/-
  DERIVED. GIVEN WITH THE SEED: THE CARDS: each row of YtdblmheoghhepaaGreatDoorRows.lean that lists a variable, with what it lists TIED to the program's text (the seventh form; the later family's looks); each row that meets fmt, with fmt's text TOLD by the authors' own Lean function (tested against real Go, not proved from fmt's source: count such statements apart). THE CARD IS WHAT COUNTS. Prove the row's statement (the work); the ties are given (YtdblmheoghhepaaGreatDoorTie.lean); close each card by the builder's one call (the guide's Derived/Test/ToyasCard.lean, 'card_holds'). Laid BY PROGRAM, IN A SANDBOX (cutbox-door.mjs). By AI agents, Wed Nov 11 2026. No macro, syntax, notation, axiom, sorry.
-/
import Derived.Test.YtdblmheoghhepaaGreatDoorRows
import GoSem.ClaimSeven
namespace Go.Proofs.YtdblmheoghhepaaGreatDoor
namespace Rows

/-- THE TIED CARD OF 'larderlaw.Books'. -/
def booksCard : Claim7 := { stood := { row := booksRow, standIns := [], harness := (true, "143d0289d2bf1cb9b4cd9c770c762bdfee45bc679b9c1b5856003f4c75de4509"), looks := false }, kinds := [], alts := [], laidByText := true, laidKinds := [.data], laidTests := true, laidLooks := .later }
def BooksCardSaid : Prop := Claim7.holds Tryz.pinned (.plain (OpenSpec.ofChange booksSpec)) booksCard

/-- THE TIED CARD OF 'larderlaw.Opens'. -/
def opensCard : Claim7 := { stood := { row := opensRow, standIns := [], harness := (true, "143d0289d2bf1cb9b4cd9c770c762bdfee45bc679b9c1b5856003f4c75de4509"), looks := false }, kinds := [], alts := [], laidByText := true, laidKinds := [.data], laidTests := true, laidLooks := .later }
def OpensCardSaid : Prop := Claim7.holds Tryz.pinned (.plain (OpenSpec.ofChange opensSpec)) opensCard

/-- THE TIED CARD OF 'larderlaw.All'. -/
def allCard : Claim7 := { stood := { row := allRow, standIns := [], harness := (true, "143d0289d2bf1cb9b4cd9c770c762bdfee45bc679b9c1b5856003f4c75de4509"), looks := false }, kinds := [], alts := [], laidByText := true, laidKinds := [.data], laidTests := true, laidLooks := .later }
def AllCardSaid : Prop := Claim7.holds Tryz.pinned (.plain (OpenSpec.ofChange allSpec)) allCard

/-- THE SECOND FORM's CARD OF 'larderlaw.Books'. -/
def booksUptoCard : Claim7 := { stood := { row := booksUptoRow, standIns := [], harness := (true, "143d0289d2bf1cb9b4cd9c770c762bdfee45bc679b9c1b5856003f4c75de4509"), looks := false }, kinds := [], alts := [], laidByText := true, laidKinds := [.data], laidTests := true, laidLooks := .later }
def BooksUptoCardSaid : Prop := Claim7.holds Tryz.pinned (.plain (OpenSpec.upto booksSpec)) booksUptoCard

/-- THE SECOND FORM's CARD OF 'larderlaw.Opens'. -/
def opensUptoCard : Claim7 := { stood := { row := opensUptoRow, standIns := [], harness := (true, "143d0289d2bf1cb9b4cd9c770c762bdfee45bc679b9c1b5856003f4c75de4509"), looks := false }, kinds := [], alts := [], laidByText := true, laidKinds := [.data], laidTests := true, laidLooks := .later }
def OpensUptoCardSaid : Prop := Claim7.holds Tryz.pinned (.plain (OpenSpec.upto opensSpec)) opensUptoCard

/-- THE SECOND FORM's CARD OF 'larderlaw.All'. -/
def allUptoCard : Claim7 := { stood := { row := allUptoRow, standIns := [], harness := (true, "143d0289d2bf1cb9b4cd9c770c762bdfee45bc679b9c1b5856003f4c75de4509"), looks := false }, kinds := [], alts := [], laidByText := true, laidKinds := [.data], laidTests := true, laidLooks := .later }
def AllUptoCardSaid : Prop := Claim7.holds Tryz.pinned (.plain (OpenSpec.upto allSpec)) allUptoCard
end Rows
end Go.Proofs.YtdblmheoghhepaaGreatDoor
