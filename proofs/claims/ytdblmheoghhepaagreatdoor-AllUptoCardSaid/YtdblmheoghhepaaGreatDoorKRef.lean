/- The document's 'Right' (package larderref). -/
import Derived.Test.YtdblmheoghhepaaGreatDoorKBase
namespace Go.Proofs.YtdblmheoghhepaaGreatDoor
open Go.RowKit

def refOk (f : Nat → Int) : Bool :=
  decide (1 ≤ f 0) && decide (f 0 ≤ 8) && decide (0 ≤ f 1) && decide (f 1 ≤ 2147483647) &&
  (fitsB (needG (f 0)) (f 2) 0 3 && fitsB (needC (f 0)) (f 3) 0 2 && fitsB (needD (f 0)) (f 4) 0 15 && fitsB (needQ (f 0)) (f 5) (if f 0 == 7 then -1000000 else 1) 1000000 &&
   fitsB (needH (f 0)) (f 6) 1 4294967295 && fitsB (needT (f 0)) (f 7) 1 1000 && !(needQ (f 0) && f 5 == 0))
def refE (f : Nat → Int) : Int := if refOk f then 0 else 1

theorem refRight_out (f : Nat → Int) (w : World) (h : f 0 < 1 ∨ 8 < f 0 ∨ f 1 < 0 ∨ 2147483647 < f 1) :
    Calls Tryz.prog 24 #[cmdV f] w fun e w' => e = .returned (.int .i64 1) ∧ Below w.heap.size w w' := by
  by_cases a : f 0 < 1
  · go_enter Tryz.func24, Tryz.ntmps24
    go_wp2
    go_ret
    exact ⟨rfl, (Below.refl _ _).alloc (Nat.le_refl _) _⟩
  by_cases b : 8 < f 0
  · go_enter Tryz.func24, Tryz.ntmps24
    go_wp2
    go_ret
    exact ⟨rfl, (Below.refl _ _).alloc (Nat.le_refl _) _⟩
  by_cases c : f 1 < 0
  · go_enter Tryz.func24, Tryz.ntmps24
    go_wp2
    go_ret
    exact ⟨rfl, (Below.refl _ _).alloc (Nat.le_refl _) _⟩
  have d : 2147483647 < f 1 := by omega
  go_enter Tryz.func24, Tryz.ntmps24
  go_wp2
  go_ret
  exact ⟨rfl, (Below.refl _ _).alloc (Nat.le_refl _) _⟩

set_option maxRecDepth 100000 in
set_option maxHeartbeats 1000000 in
theorem refRight_in (f : Nat → Int) (w : World) (h1 : 1 ≤ f 0) (h2 : f 0 ≤ 8) (h3 : 0 ≤ f 1) (h4 : f 1 ≤ 2147483647) :
    Calls Tryz.prog 24 #[cmdV f] w fun e w' => e = .returned (.int .i64 (refE f)) ∧ Below w.heap.size w w' := by
  go_enter Tryz.func24, Tryz.ntmps24
  go_wp2_with (first | (go_at_call 45; refine (refNeeds_any (f 0) _).mono ?_; rintro e w' ⟨rfl, rfl⟩) | (go_at_call 46; refine (fits_any _ _ _ _ _).mono ?_; rintro e w' ⟨rfl, rfl⟩))
  all_goals go_ret
  all_goals refine ⟨ret_int ?_, (Below.refl _ _).alloc (Nat.le_refl _) _⟩
  all_goals (first | (simp [refE, refOk, *]; done) | (simp_all [refE, refOk]; done))

theorem refRight_any (f : Nat → Int) (w : World) :
    Calls Tryz.prog 24 #[cmdV f] w fun e w' => e = .returned (.int .i64 (refE f)) ∧ Below w.heap.size w w' := by
  by_cases h : 1 ≤ f 0 ∧ f 0 ≤ 8 ∧ 0 ≤ f 1 ∧ f 1 ≤ 2147483647
  · exact refRight_in f w h.1 h.2.1 h.2.2.1 h.2.2.2
  · have e : refE f = 1 := by
      unfold refE refOk
      rw [if_neg]
      simp only [Bool.and_eq_true, decide_eq_true_eq, not_and]
      intro a b
      exact absurd ⟨a.1.1.1, a.1.1.2, a.1.2, a.2⟩ h
    rw [e]
    exact refRight_out f w (by omega)

end Go.Proofs.YtdblmheoghhepaaGreatDoor
