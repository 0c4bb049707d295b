/- The parts of a command, and commands, as plain data; what 'needsOf' answers. -/
import Derived.Test.YtklpbpgjlmpbeaaDoorProg
import Derived.WalkKit
import Derived.WalkSpells
import Derived.WalkLawsBesides
namespace Go.Proofs.YtklpbpgjlmpbeaaDoor
open Go.RowKit

/-- One number of a command: what it may be, and how it stands in a frame. -/
structure Part where
  need : Int
  low : Int
  high : Int
  width : Nat
  lift : Int
abbrev Part.cells (p : Part) : List Value := [.int .u16 p.need, .int .i64 p.low, .int .i64 p.high, .int .i64 (p.width : Int), .int .i64 p.lift]
abbrev Part.val (p : Part) : Value := .agg #[.int .u16 p.need, .int .i64 p.low, .int .i64 p.high, .int .i64 (p.width : Int), .int .i64 p.lift]

def table : List Part := [⟨1, 1, 8, 1, 0⟩, ⟨2, 0, 2147483647, 4, 0⟩, ⟨4, 0, 3, 1, 0⟩, ⟨8, 0, 2, 1, 0⟩, ⟨16, 0, 15, 1, 0⟩, ⟨32, 1, 1000000, 4, 0⟩,
  ⟨64, -1000000, 1000000, 4, 2147483648⟩, ⟨128, 1, 4294967295, 4, 0⟩, ⟨256, 1, 1000, 2, 0⟩]

/-- The place of a part's number among a command's eight. -/
def ix (need : Int) : Nat :=
  if need = 1 then 0 else if need = 2 then 1 else if need = 4 then 2 else if need = 8 then 3 else if need = 16 then 4 else if need = 32 then 5 else if need = 64 then 5 else if need = 128 then 6 else 7

def takesB (p : Part) (n : Int) : Bool := !(p.need == 64 && n == 0) && (decide (p.low ≤ n) && decide (n ≤ p.high))

/-- A command: its eight numbers. -/
abbrev cmdV (f : Nat → Int) : Value := .agg #[.int .i64 (f 0), .int .i64 (f 1), .int .i64 (f 2), .int .i64 (f 3), .int .i64 (f 4), .int .i64 (f 5), .int .i64 (f 6), .int .i64 (f 7)]
abbrev cmdC (f : Nat → Int) : Array Value := #[.int .i64 (f 0), .int .i64 (f 1), .int .i64 (f 2), .int .i64 (f 3), .int .i64 (f 4), .int .i64 (f 5), .int .i64 (f 6), .int .i64 (f 7)]

def needsOf (k : Int) : Int :=
  if k = 4 then 319 else if k = 2 then 55 else if k = 1 then 39 else if k = 3 then 47 else if k = 7 then 71 else if k = 5 then 131 else if k = 6 then 131 else if k = 8 then 259 else 3

theorem bcell {W w1 : World} (hb : Below W.heap.size W w1) : (∀ b o, b < W.heap.size → w1.cell? ⟨b, o, none⟩ = W.cell? ⟨b, o, none⟩) ∧ (∀ b o, b < W.heap.size → w1.frozen? ⟨b, o, none⟩ = W.frozen? ⟨b, o, none⟩) :=
  ⟨fun b o h => hb.cell (p := ⟨b, o, none⟩) h, fun b o h => hb.frozen (p := ⟨b, o, none⟩) h⟩

theorem w64 (n : Int) (h : -9223372036854775808 ≤ n ∧ n ≤ 9223372036854775807) : wrap64 n = n := by unfold wrap64; omega
theorem int_eq {k : IntKind} {a b : Int} (h : a = b) : Value.int k a = .int k b := by rw [h]
theorem ret_int {k : IntKind} {a b : Int} (h : a = b) : Ending.returned (.int k a) = .returned (.int k b) := by rw [h]
theorem ret_bool {a b : Bool} (h : a = b) : Ending.returned (.bool a) = .returned (.bool b) := by rw [h]

set_option maxRecDepth 100000 in
set_option maxHeartbeats 400000 in
theorem needs_any (k : Int) (w : World) :
    Calls Tryd.prog 84 #[.int .i64 k] w fun e w' => e = .returned (.int .u16 (needsOf k)) ∧ w = w' := by
  go_enter Tryd.func84, Tryd.ntmps84
  go_wp2
  all_goals go_ret
  all_goals refine ⟨ret_int ?_, rfl⟩
  all_goals (simp only [beq_iff_eq, beq_eq_false_iff_ne, ne_eq] at *; unfold needsOf; subst_vars; first | (simp [*]; done) | (simp [*]; decide) | decide)

end Go.Proofs.YtklpbpgjlmpbeaaDoor
