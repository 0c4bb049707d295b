/- What the methods of a part do: 'takes', 'in', 'width' (the closure). -/
import Derived.Test.YtklpbpgjlmpbeaaDoorDefs
namespace Go.Proofs.YtklpbpgjlmpbeaaDoor
open Go.RowKit

theorem ret_ptr {b o o' : Nat} (h : o = o') : Ending.returned (.pointer (some ⟨b, o, none⟩)) = .returned (.pointer (some ⟨b, o', none⟩)) := by rw [h]

set_option maxRecDepth 100000 in
set_option maxHeartbeats 400000 in
theorem width_any (p : Part) (w : World) :
    Calls Tryd.prog 86 #[p.val] w fun e w' => e = .returned (.int .i64 (p.width : Int)) ∧ Below w.heap.size w w' := by
  go_enter Tryd.func86, Tryd.ntmps86
  go_wp2
  go_ret
  exact ⟨rfl, (Below.refl _ _).alloc (Nat.le_refl _) _⟩

set_option maxRecDepth 100000 in
set_option maxHeartbeats 400000 in
theorem takes_any (p : Part) (n : Int) (w : World) :
    Calls Tryd.prog 82 #[p.val, .int .i64 n] w fun e w' => e = .returned (.bool (takesB p n)) ∧ Below w.heap.size w w' := by
  go_enter Tryd.func82, Tryd.ntmps82
  go_wp2
  all_goals go_ret
  all_goals refine ⟨ret_bool ?_, (Below.refl _ _).alloc (Nat.le_refl _) _⟩
  all_goals (unfold takesB; simp [*] <;> omega)

set_option maxRecDepth 100000 in
set_option maxHeartbeats 400000 in
theorem in_any (p : Part) (b : Nat) (w : World) :
    Calls Tryd.prog 58 #[p.val, .pointer (some ⟨b, 0, none⟩)] w fun e w' => e = .returned (.pointer (some ⟨b, ix p.need, none⟩)) ∧ Below w.heap.size w w' := by
  go_enter Tryd.func58, Tryd.ntmps58
  go_wp2
  all_goals go_ret
  all_goals refine ⟨ret_ptr ?_, (Below.refl _ _).alloc (Nat.le_refl _) _⟩
  all_goals (simp only [beq_iff_eq, beq_eq_false_iff_ne, ne_eq] at *; simp [ix, *])

end Go.Proofs.YtklpbpgjlmpbeaaDoor
