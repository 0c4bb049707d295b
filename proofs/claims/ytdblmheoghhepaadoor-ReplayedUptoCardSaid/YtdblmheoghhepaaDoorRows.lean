/-
  NARROWER THAN 'FOR EVERY INPUT', by the rows' own cells (each row's printed sentence says how): Frames: laid · Back: laid · Reckoned: laid · Covered: laid · Again: laid · Ended: laid · Replayed: laid.
  DERIVED. THE GIVEN ROWS OF THIS SEAT. 7 by the template 'for every input the law returns true; each argument reads behind the call as it read before'; 0 by the template 'total and deterministic' (their statements: YtdblmheoghhepaaDoorTotals.lean).
  GIVEN WITH THE SEED: the statements are not yours to turn. If you find one false, say at which input.
  Laid BY PROGRAM, IN A SANDBOX (cutbox-rows.mjs): the forced cells as the released guide's own fill.sh prints them over the translation 7f9f65c5523d4103… (all of the seat's roots in one cut). By AI agents, Wed Nov 11 2026. No macro, syntax, notation, axiom, sorry.
-/
import Derived.Test.YtdblmheoghhepaaDoorChecked
import GoSem.Claim
import GoSem.ClaimJoined
import GoSem.ClaimMapViews
import Derived.JoinedTies
import Derived.KernelRfl
namespace Go.Proofs.YtdblmheoghhepaaDoor
/- THE CELL 'sum', in the pinned program and in every row, IS THE sha256 OF THE DUMP (.gsa) THAT YtdblmheoghhepaaDoorProg.lean LOADS. Nothing in Lean hashes anything: it is a label: what it is worth is what the hold of that sum in a sandbox is worth. -/
noncomputable def Tryd.pinned : Pinned := { name := "ytdblmheoghhepaadoor", sum := "7f9f65c5523d4103202340729a719df8567d03f32bdbfd0aaa24473b52e7ba46", checked := Tryd.checked }
namespace Rows
def none {H : Type} : Left H := { results := [], args := [] }

/- WHAT THE LISTED PACKAGE-LEVEL VARIABLES READ AS WHEN THE CALL BEGINS. Each datum BY PROGRAM (the guide's laid-datum.mjs) off the statement by which the dump's own 'gosem.cut.vars' lays the variable. In a bare row this is a premise. The card (YtdblmheoghhepaaDoorCards.lean) ties it to the program's text. -/
def laid_larder_command_table {H : Type} : DataW H := .agg [.agg [.lit (.int .u16 1), .lit (.int .i64 1), .lit (.int .i64 8), .lit (.int .i64 1), .lit (.int .i64 0)], .agg [.lit (.int .u16 2), .lit (.int .i64 0), .lit (.int .i64 2147483647), .lit (.int .i64 4), .lit (.int .i64 0)], .agg [.lit (.int .u16 4), .lit (.int .i64 0), .lit (.int .i64 3), .lit (.int .i64 1), .lit (.int .i64 0)], .agg [.lit (.int .u16 8), .lit (.int .i64 0), .lit (.int .i64 2), .lit (.int .i64 1), .lit (.int .i64 0)], .agg [.lit (.int .u16 16), .lit (.int .i64 0), .lit (.int .i64 15), .lit (.int .i64 1), .lit (.int .i64 0)], .agg [.lit (.int .u16 32), .lit (.int .i64 1), .lit (.int .i64 1000000), .lit (.int .i64 4), .lit (.int .i64 0)], .agg [.lit (.int .u16 64), .lit (.int .i64 (-1000000)), .lit (.int .i64 1000000), .lit (.int .i64 4), .lit (.int .i64 2147483648)], .agg [.lit (.int .u16 128), .lit (.int .i64 1), .lit (.int .i64 4294967295), .lit (.int .i64 4), .lit (.int .i64 0)], .agg [.lit (.int .u16 256), .lit (.int .i64 1), .lit (.int .i64 1000), .lit (.int .i64 2), .lit (.int .i64 0)]]

/-- 'larderlaw.Frames': WHATEVER THE INPUT: true; the input reads as it did. -/
def framesSpec : ChangeSpec := { name := "frames", fn := fun _ => fun
  | [d1, d2] => { results := [.lit (.bool true)], args := [d1, d2] }
  | _ => none }
def framesRow : OpenClaim := { program := "ytdblmheoghhepaadoor", sum := "7f9f65c5523d4103202340729a719df8567d03f32bdbfd0aaa24473b52e7ba46", func := "larder/larderlaw.Frames", spec := "frames", unfollowed := true, recurses := true, named := ["larder/command.table"], apart := false, laid := [("larder/command.table", laid_larder_command_table)] }
def FramesSaid : Prop := framesRow.holds Tryd.pinned (OpenSpec.ofChange framesSpec)

/-- ITS FALSE NEIGHBOUR: 'it returns false'. Refute it at one input. -/
def framesWrong : ChangeSpec := { name := "frames", fn := fun _ => fun
  | [d1, d2] => { results := [.lit (.bool false)], args := [d1, d2] }
  | _ => none }
def FramesWrongFalsely : Prop := framesRow.holds Tryd.pinned (OpenSpec.ofChange framesWrong)

/-- 'larderkeep.Back': WHATEVER THE INPUT: true; the input reads as it did. -/
def backSpec : ChangeSpec := { name := "back", fn := fun _ => fun
  | [d1, d2, d3, d4, d5] => { results := [.lit (.bool true)], args := [d1, d2, d3, d4, d5] }
  | _ => none }
def backRow : OpenClaim := { program := "ytdblmheoghhepaadoor", sum := "7f9f65c5523d4103202340729a719df8567d03f32bdbfd0aaa24473b52e7ba46", func := "larder/larderkeep.Back", spec := "back", unfollowed := true, recurses := true, named := ["larder/command.table"], apart := false, laid := [("larder/command.table", laid_larder_command_table)] }
def BackSaid : Prop := backRow.holds Tryd.pinned (OpenSpec.ofChange backSpec)

/-- ITS FALSE NEIGHBOUR: 'it returns false'. Refute it at one input. -/
def backWrong : ChangeSpec := { name := "back", fn := fun _ => fun
  | [d1, d2, d3, d4, d5] => { results := [.lit (.bool false)], args := [d1, d2, d3, d4, d5] }
  | _ => none }
def BackWrongFalsely : Prop := backRow.holds Tryd.pinned (OpenSpec.ofChange backWrong)

/-- 'larderkeep.Reckoned': WHATEVER THE INPUT: true; the input reads as it did. -/
def reckonedSpec : ChangeSpec := { name := "reckoned", fn := fun _ => fun
  | [d] => { results := [.lit (.bool true)], args := [d] }
  | _ => none }
def reckonedRow : OpenClaim := { program := "ytdblmheoghhepaadoor", sum := "7f9f65c5523d4103202340729a719df8567d03f32bdbfd0aaa24473b52e7ba46", func := "larder/larderkeep.Reckoned", spec := "reckoned", unfollowed := true, recurses := true, named := ["larder/command.table"], apart := false, laid := [("larder/command.table", laid_larder_command_table)] }
def ReckonedSaid : Prop := reckonedRow.holds Tryd.pinned (OpenSpec.ofChange reckonedSpec)

/-- ITS FALSE NEIGHBOUR: 'it returns false'. Refute it at one input. -/
def reckonedWrong : ChangeSpec := { name := "reckoned", fn := fun _ => fun
  | [d] => { results := [.lit (.bool false)], args := [d] }
  | _ => none }
def ReckonedWrongFalsely : Prop := reckonedRow.holds Tryd.pinned (OpenSpec.ofChange reckonedWrong)

/-- 'larderkeep.Covered': WHATEVER THE INPUT: true; the input reads as it did. -/
def coveredSpec : ChangeSpec := { name := "covered", fn := fun _ => fun
  | [d] => { results := [.lit (.bool true)], args := [d] }
  | _ => none }
def coveredRow : OpenClaim := { program := "ytdblmheoghhepaadoor", sum := "7f9f65c5523d4103202340729a719df8567d03f32bdbfd0aaa24473b52e7ba46", func := "larder/larderkeep.Covered", spec := "covered", unfollowed := true, recurses := true, named := ["larder/command.table"], apart := false, laid := [("larder/command.table", laid_larder_command_table)] }
def CoveredSaid : Prop := coveredRow.holds Tryd.pinned (OpenSpec.ofChange coveredSpec)

/-- ITS FALSE NEIGHBOUR: 'it returns false'. Refute it at one input. -/
def coveredWrong : ChangeSpec := { name := "covered", fn := fun _ => fun
  | [d] => { results := [.lit (.bool false)], args := [d] }
  | _ => none }
def CoveredWrongFalsely : Prop := coveredRow.holds Tryd.pinned (OpenSpec.ofChange coveredWrong)

/-- 'larderkeep.Again': WHATEVER THE INPUT: true; the input reads as it did. -/
def againSpec : ChangeSpec := { name := "again", fn := fun _ => fun
  | [d1, d2, d3] => { results := [.lit (.bool true)], args := [d1, d2, d3] }
  | _ => none }
def againRow : OpenClaim := { program := "ytdblmheoghhepaadoor", sum := "7f9f65c5523d4103202340729a719df8567d03f32bdbfd0aaa24473b52e7ba46", func := "larder/larderkeep.Again", spec := "again", unfollowed := true, recurses := true, named := ["larder/command.table"], apart := false, laid := [("larder/command.table", laid_larder_command_table)] }
def AgainSaid : Prop := againRow.holds Tryd.pinned (OpenSpec.ofChange againSpec)

/-- ITS FALSE NEIGHBOUR: 'it returns false'. Refute it at one input. -/
def againWrong : ChangeSpec := { name := "again", fn := fun _ => fun
  | [d1, d2, d3] => { results := [.lit (.bool false)], args := [d1, d2, d3] }
  | _ => none }
def AgainWrongFalsely : Prop := againRow.holds Tryd.pinned (OpenSpec.ofChange againWrong)

/-- 'larderkeep.Ended': WHATEVER THE INPUT: true; the input reads as it did. -/
def endedSpec : ChangeSpec := { name := "ended", fn := fun _ => fun
  | [d1, d2] => { results := [.lit (.bool true)], args := [d1, d2] }
  | _ => none }
def endedRow : OpenClaim := { program := "ytdblmheoghhepaadoor", sum := "7f9f65c5523d4103202340729a719df8567d03f32bdbfd0aaa24473b52e7ba46", func := "larder/larderkeep.Ended", spec := "ended", unfollowed := true, recurses := true, named := ["larder/command.table"], apart := false, laid := [("larder/command.table", laid_larder_command_table)] }
def EndedSaid : Prop := endedRow.holds Tryd.pinned (OpenSpec.ofChange endedSpec)

/-- ITS FALSE NEIGHBOUR: 'it returns false'. Refute it at one input. -/
def endedWrong : ChangeSpec := { name := "ended", fn := fun _ => fun
  | [d1, d2] => { results := [.lit (.bool false)], args := [d1, d2] }
  | _ => none }
def EndedWrongFalsely : Prop := endedRow.holds Tryd.pinned (OpenSpec.ofChange endedWrong)

/-- 'larderkeep.Replayed': WHATEVER THE INPUT: true; the input reads as it did. -/
def replayedSpec : ChangeSpec := { name := "replayed", fn := fun _ => fun
  | [d1, d2, d3] => { results := [.lit (.bool true)], args := [d1, d2, d3] }
  | _ => none }
def replayedRow : OpenClaim := { program := "ytdblmheoghhepaadoor", sum := "7f9f65c5523d4103202340729a719df8567d03f32bdbfd0aaa24473b52e7ba46", func := "larder/larderkeep.Replayed", spec := "replayed", unfollowed := true, recurses := true, named := ["larder/command.table"], apart := false, laid := [("larder/command.table", laid_larder_command_table)] }
def ReplayedSaid : Prop := replayedRow.holds Tryd.pinned (OpenSpec.ofChange replayedSpec)

/-- ITS FALSE NEIGHBOUR: 'it returns false'. Refute it at one input. -/
def replayedWrong : ChangeSpec := { name := "replayed", fn := fun _ => fun
  | [d1, d2, d3] => { results := [.lit (.bool false)], args := [d1, d2, d3] }
  | _ => none }
def ReplayedWrongFalsely : Prop := replayedRow.holds Tryd.pinned (OpenSpec.ofChange replayedWrong)

/- THE SECOND FORM. 'bulk': how many values and letters a reading holds, each counted each time it is reached (what is shared counts as often as it is met; a slice's spare places count too). A statement '..UptoSaid' is the law's where the arguments, and the package variables that the reading takes, are together of bulk at most 1048576: NARROWER than '..Said'. Prove '..Said' where nothing that the law and all that it calls make is longer than what came in: it says more and counts as full. Else prove '..UptoSaid'. A law counts once. -/
mutual
def uptoBulk {H : Type} : DataW H → Nat
  | .lit (.string bytes) => bytes.length + 1
  | .lit _ => 1
  | .nil => 1
  | .ptr d => uptoBulk d + 1
  | .slice elems spare => uptoBulkAll elems + uptoBulkAll spare + 1
  | .agg parts => uptoBulkAll parts + 1
  | .iface _ d => uptoBulk d + 1
  | .map entries => uptoBulkEntries entries + 1
  | .held _ => 1
def uptoBulkAll {H : Type} : List (DataW H) → Nat
  | [] => 0
  | d :: r => uptoBulk d + uptoBulkAll r
def uptoBulkEntries {H : Type} : List (Lit × DataW H) → Nat
  | [] => 0
  | x :: r => uptoBulkEntry x + uptoBulkEntries r
def uptoBulkEntry {H : Type} : Lit × DataW H → Nat
  | (.string bytes, d) => bytes.length + uptoBulk d + 1
  | (_, d) => uptoBulk d + 1
 end
def uptoSmall : (H : Type) → List (DataW H) → Bool := fun _ ds => decide (uptoBulkAll ds ≤ 1048576)
def OpenSpec.upto (s : _root_.Go.ChangeSpec) : _root_.Go.OpenSpec := { _root_.Go.OpenSpec.ofChange s with cond := some uptoSmall }

/-- 'larderlaw.Frames', WHERE WHAT IT READS IS OF BULK AT MOST 1048576: true; the input reads as it did. -/
def framesUptoRow : OpenClaim := { program := "ytdblmheoghhepaadoor", sum := "7f9f65c5523d4103202340729a719df8567d03f32bdbfd0aaa24473b52e7ba46", func := "larder/larderlaw.Frames", spec := "frames", unfollowed := true, recurses := true, named := ["larder/command.table"], apart := false, laid := [("larder/command.table", laid_larder_command_table)], narrowed := true }
def FramesUptoSaid : Prop := framesUptoRow.holds Tryd.pinned (OpenSpec.upto framesSpec)

/-- 'larderkeep.Back', WHERE WHAT IT READS IS OF BULK AT MOST 1048576: true; the input reads as it did. -/
def backUptoRow : OpenClaim := { program := "ytdblmheoghhepaadoor", sum := "7f9f65c5523d4103202340729a719df8567d03f32bdbfd0aaa24473b52e7ba46", func := "larder/larderkeep.Back", spec := "back", unfollowed := true, recurses := true, named := ["larder/command.table"], apart := false, laid := [("larder/command.table", laid_larder_command_table)], narrowed := true }
def BackUptoSaid : Prop := backUptoRow.holds Tryd.pinned (OpenSpec.upto backSpec)

/-- 'larderkeep.Reckoned', WHERE WHAT IT READS IS OF BULK AT MOST 1048576: true; the input reads as it did. -/
def reckonedUptoRow : OpenClaim := { program := "ytdblmheoghhepaadoor", sum := "7f9f65c5523d4103202340729a719df8567d03f32bdbfd0aaa24473b52e7ba46", func := "larder/larderkeep.Reckoned", spec := "reckoned", unfollowed := true, recurses := true, named := ["larder/command.table"], apart := false, laid := [("larder/command.table", laid_larder_command_table)], narrowed := true }
def ReckonedUptoSaid : Prop := reckonedUptoRow.holds Tryd.pinned (OpenSpec.upto reckonedSpec)

/-- 'larderkeep.Covered', WHERE WHAT IT READS IS OF BULK AT MOST 1048576: true; the input reads as it did. -/
def coveredUptoRow : OpenClaim := { program := "ytdblmheoghhepaadoor", sum := "7f9f65c5523d4103202340729a719df8567d03f32bdbfd0aaa24473b52e7ba46", func := "larder/larderkeep.Covered", spec := "covered", unfollowed := true, recurses := true, named := ["larder/command.table"], apart := false, laid := [("larder/command.table", laid_larder_command_table)], narrowed := true }
def CoveredUptoSaid : Prop := coveredUptoRow.holds Tryd.pinned (OpenSpec.upto coveredSpec)

/-- 'larderkeep.Again', WHERE WHAT IT READS IS OF BULK AT MOST 1048576: true; the input reads as it did. -/
def againUptoRow : OpenClaim := { program := "ytdblmheoghhepaadoor", sum := "7f9f65c5523d4103202340729a719df8567d03f32bdbfd0aaa24473b52e7ba46", func := "larder/larderkeep.Again", spec := "again", unfollowed := true, recurses := true, named := ["larder/command.table"], apart := false, laid := [("larder/command.table", laid_larder_command_table)], narrowed := true }
def AgainUptoSaid : Prop := againUptoRow.holds Tryd.pinned (OpenSpec.upto againSpec)

/-- 'larderkeep.Ended', WHERE WHAT IT READS IS OF BULK AT MOST 1048576: true; the input reads as it did. -/
def endedUptoRow : OpenClaim := { program := "ytdblmheoghhepaadoor", sum := "7f9f65c5523d4103202340729a719df8567d03f32bdbfd0aaa24473b52e7ba46", func := "larder/larderkeep.Ended", spec := "ended", unfollowed := true, recurses := true, named := ["larder/command.table"], apart := false, laid := [("larder/command.table", laid_larder_command_table)], narrowed := true }
def EndedUptoSaid : Prop := endedUptoRow.holds Tryd.pinned (OpenSpec.upto endedSpec)

/-- 'larderkeep.Replayed', WHERE WHAT IT READS IS OF BULK AT MOST 1048576: true; the input reads as it did. -/
def replayedUptoRow : OpenClaim := { program := "ytdblmheoghhepaadoor", sum := "7f9f65c5523d4103202340729a719df8567d03f32bdbfd0aaa24473b52e7ba46", func := "larder/larderkeep.Replayed", spec := "replayed", unfollowed := true, recurses := true, named := ["larder/command.table"], apart := false, laid := [("larder/command.table", laid_larder_command_table)], narrowed := true }
def ReplayedUptoSaid : Prop := replayedUptoRow.holds Tryd.pinned (OpenSpec.upto replayedSpec)

end Rows
end Go.Proofs.YtdblmheoghhepaaDoor
