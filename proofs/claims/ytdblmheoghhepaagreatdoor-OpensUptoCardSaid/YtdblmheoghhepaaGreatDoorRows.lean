/-
  NARROWER THAN 'FOR EVERY INPUT', by the rows' own cells (each row's printed sentence says how): Books: laid · Opens: laid · All: laid.
  DERIVED. THE GIVEN ROWS OF THIS SEAT. 3 by the template 'for every input the law returns true; each argument reads behind the call as it read before'; 0 by the template 'total and deterministic' (their statements: YtdblmheoghhepaaGreatDoorTotals.lean).
  GIVEN WITH THE SEED: the statements are not yours to turn. If you find one false, say at which input.
  Laid BY PROGRAM, IN A SANDBOX (cutbox-rows.mjs): the forced cells as the released guide's own fill.sh prints them over the translation 27fea4da99a9af31… (all of the seat's roots in one cut). By AI agents, Wed Nov 11 2026. No macro, syntax, notation, axiom, sorry.
-/
import Derived.Test.YtdblmheoghhepaaGreatDoorChecked
import GoSem.Claim
import GoSem.ClaimJoined
import GoSem.ClaimMapViews
import Derived.JoinedTies
import Derived.KernelRfl
namespace Go.Proofs.YtdblmheoghhepaaGreatDoor
/- THE CELL 'sum', in the pinned program and in every row, IS THE sha256 OF THE DUMP (.gsa) THAT YtdblmheoghhepaaGreatDoorProg.lean LOADS. Nothing in Lean hashes anything: it is a label: what it is worth is what the hold of that sum in a sandbox is worth. -/
noncomputable def Tryz.pinned : Pinned := { name := "ytdblmheoghhepaagreatdoor", sum := "27fea4da99a9af31995bba2a07b0410bd2f3a935784a7e086baf44a728997355", checked := Tryz.checked }
namespace Rows
def none {H : Type} : Left H := { results := [], args := [] }

/- WHAT THE LISTED PACKAGE-LEVEL VARIABLES READ AS WHEN THE CALL BEGINS. Each datum BY PROGRAM (the guide's laid-datum.mjs) off the statement by which the dump's own 'gosem.cut.vars' lays the variable. In a bare row this is a premise. The card (YtdblmheoghhepaaGreatDoorCards.lean) ties it to the program's text. -/
def laid_larder_command_table {H : Type} : DataW H := .agg [.agg [.lit (.int .u16 1), .lit (.int .i64 1), .lit (.int .i64 8), .lit (.int .i64 1), .lit (.int .i64 0)], .agg [.lit (.int .u16 2), .lit (.int .i64 0), .lit (.int .i64 2147483647), .lit (.int .i64 4), .lit (.int .i64 0)], .agg [.lit (.int .u16 4), .lit (.int .i64 0), .lit (.int .i64 3), .lit (.int .i64 1), .lit (.int .i64 0)], .agg [.lit (.int .u16 8), .lit (.int .i64 0), .lit (.int .i64 2), .lit (.int .i64 1), .lit (.int .i64 0)], .agg [.lit (.int .u16 16), .lit (.int .i64 0), .lit (.int .i64 15), .lit (.int .i64 1), .lit (.int .i64 0)], .agg [.lit (.int .u16 32), .lit (.int .i64 1), .lit (.int .i64 1000000), .lit (.int .i64 4), .lit (.int .i64 0)], .agg [.lit (.int .u16 64), .lit (.int .i64 (-1000000)), .lit (.int .i64 1000000), .lit (.int .i64 4), .lit (.int .i64 2147483648)], .agg [.lit (.int .u16 128), .lit (.int .i64 1), .lit (.int .i64 4294967295), .lit (.int .i64 4), .lit (.int .i64 0)], .agg [.lit (.int .u16 256), .lit (.int .i64 1), .lit (.int .i64 1000), .lit (.int .i64 2), .lit (.int .i64 0)]]

/-- 'larderlaw.Books': WHATEVER THE INPUT: true; the input reads as it did. -/
def booksSpec : ChangeSpec := { name := "books", fn := fun _ => fun
  | [d] => { results := [.lit (.bool true)], args := [d] }
  | _ => none }
def booksRow : OpenClaim := { program := "ytdblmheoghhepaagreatdoor", sum := "27fea4da99a9af31995bba2a07b0410bd2f3a935784a7e086baf44a728997355", func := "larder/larderlaw.Books", spec := "books", unfollowed := true, recurses := true, named := ["larder/command.table"], apart := false, laid := [("larder/command.table", laid_larder_command_table)] }
def BooksSaid : Prop := booksRow.holds Tryz.pinned (OpenSpec.ofChange booksSpec)

/-- ITS FALSE NEIGHBOUR: 'it returns false'. Refute it at one input. -/
def booksWrong : ChangeSpec := { name := "books", fn := fun _ => fun
  | [d] => { results := [.lit (.bool false)], args := [d] }
  | _ => none }
def BooksWrongFalsely : Prop := booksRow.holds Tryz.pinned (OpenSpec.ofChange booksWrong)

/-- 'larderlaw.Opens': WHATEVER THE INPUT: true; the input reads as it did. -/
def opensSpec : ChangeSpec := { name := "opens", fn := fun _ => fun
  | [d] => { results := [.lit (.bool true)], args := [d] }
  | _ => none }
def opensRow : OpenClaim := { program := "ytdblmheoghhepaagreatdoor", sum := "27fea4da99a9af31995bba2a07b0410bd2f3a935784a7e086baf44a728997355", func := "larder/larderlaw.Opens", spec := "opens", unfollowed := true, recurses := true, named := ["larder/command.table"], apart := false, laid := [("larder/command.table", laid_larder_command_table)] }
def OpensSaid : Prop := opensRow.holds Tryz.pinned (OpenSpec.ofChange opensSpec)

/-- ITS FALSE NEIGHBOUR: 'it returns false'. Refute it at one input. -/
def opensWrong : ChangeSpec := { name := "opens", fn := fun _ => fun
  | [d] => { results := [.lit (.bool false)], args := [d] }
  | _ => none }
def OpensWrongFalsely : Prop := opensRow.holds Tryz.pinned (OpenSpec.ofChange opensWrong)

/-- 'larderlaw.All': WHATEVER THE INPUT: true; the input reads as it did. -/
def allSpec : ChangeSpec := { name := "all", fn := fun _ => fun
  | [d] => { results := [.lit (.bool true)], args := [d] }
  | _ => none }
def allRow : OpenClaim := { program := "ytdblmheoghhepaagreatdoor", sum := "27fea4da99a9af31995bba2a07b0410bd2f3a935784a7e086baf44a728997355", func := "larder/larderlaw.All", spec := "all", unfollowed := true, recurses := true, named := ["larder/command.table"], apart := false, laid := [("larder/command.table", laid_larder_command_table)] }
def AllSaid : Prop := allRow.holds Tryz.pinned (OpenSpec.ofChange allSpec)

/-- ITS FALSE NEIGHBOUR: 'it returns false'. Refute it at one input. -/
def allWrong : ChangeSpec := { name := "all", fn := fun _ => fun
  | [d] => { results := [.lit (.bool false)], args := [d] }
  | _ => none }
def AllWrongFalsely : Prop := allRow.holds Tryz.pinned (OpenSpec.ofChange allWrong)

/- THE SECOND FORM. 'bulk': how many values and letters a reading holds, each counted each time it is reached (what is shared counts as often as it is met; a slice's spare places count too). A statement '..UptoSaid' is the law's where the arguments, and the package variables that the reading takes, are together of bulk at most 1048576: NARROWER than '..Said'. Prove '..Said' where nothing that the law and all that it calls make is longer than what came in: it says more and counts as full. Else prove '..UptoSaid'. A law counts once. -/
mutual
def uptoBulk {H : Type} : DataW H → Nat
  | .lit (.string bytes) => bytes.length + 1
  | .lit _ => 1
  | .nil => 1
  | .ptr d => uptoBulk d + 1
  | .slice elems spare => uptoBulkAll elems + uptoBulkAll spare + 1
  | .agg parts => uptoBulkAll parts + 1
  | .iface _ d => uptoBulk d + 1
  | .map entries => uptoBulkEntries entries + 1
  | .held _ => 1
def uptoBulkAll {H : Type} : List (DataW H) → Nat
  | [] => 0
  | d :: r => uptoBulk d + uptoBulkAll r
def uptoBulkEntries {H : Type} : List (Lit × DataW H) → Nat
  | [] => 0
  | x :: r => uptoBulkEntry x + uptoBulkEntries r
def uptoBulkEntry {H : Type} : Lit × DataW H → Nat
  | (.string bytes, d) => bytes.length + uptoBulk d + 1
  | (_, d) => uptoBulk d + 1
 end
def uptoSmall : (H : Type) → List (DataW H) → Bool := fun _ ds => decide (uptoBulkAll ds ≤ 1048576)
def OpenSpec.upto (s : _root_.Go.ChangeSpec) : _root_.Go.OpenSpec := { _root_.Go.OpenSpec.ofChange s with cond := some uptoSmall }

/-- 'larderlaw.Books', WHERE WHAT IT READS IS OF BULK AT MOST 1048576: true; the input reads as it did. -/
def booksUptoRow : OpenClaim := { program := "ytdblmheoghhepaagreatdoor", sum := "27fea4da99a9af31995bba2a07b0410bd2f3a935784a7e086baf44a728997355", func := "larder/larderlaw.Books", spec := "books", unfollowed := true, recurses := true, named := ["larder/command.table"], apart := false, laid := [("larder/command.table", laid_larder_command_table)], narrowed := true }
def BooksUptoSaid : Prop := booksUptoRow.holds Tryz.pinned (OpenSpec.upto booksSpec)

/-- 'larderlaw.Opens', WHERE WHAT IT READS IS OF BULK AT MOST 1048576: true; the input reads as it did. -/
def opensUptoRow : OpenClaim := { program := "ytdblmheoghhepaagreatdoor", sum := "27fea4da99a9af31995bba2a07b0410bd2f3a935784a7e086baf44a728997355", func := "larder/larderlaw.Opens", spec := "opens", unfollowed := true, recurses := true, named := ["larder/command.table"], apart := false, laid := [("larder/command.table", laid_larder_command_table)], narrowed := true }
def OpensUptoSaid : Prop := opensUptoRow.holds Tryz.pinned (OpenSpec.upto opensSpec)

/-- 'larderlaw.All', WHERE WHAT IT READS IS OF BULK AT MOST 1048576: true; the input reads as it did. -/
def allUptoRow : OpenClaim := { program := "ytdblmheoghhepaagreatdoor", sum := "27fea4da99a9af31995bba2a07b0410bd2f3a935784a7e086baf44a728997355", func := "larder/larderlaw.All", spec := "all", unfollowed := true, recurses := true, named := ["larder/command.table"], apart := false, laid := [("larder/command.table", laid_larder_command_table)], narrowed := true }
def AllUptoSaid : Prop := allUptoRow.holds Tryz.pinned (OpenSpec.upto allSpec)

end Rows
end Go.Proofs.YtdblmheoghhepaaGreatDoor
