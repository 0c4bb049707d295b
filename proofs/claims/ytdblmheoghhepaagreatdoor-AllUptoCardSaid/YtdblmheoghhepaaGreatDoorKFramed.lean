/- The law's 'framed': P3. -/
import Derived.Test.YtdblmheoghhepaaGreatDoorKPureAll
namespace Go.Proofs.YtdblmheoghhepaaGreatDoor
open Go.RowKit

theorem num_any (n : Int) (w : World) : Calls Tryz.prog 22 #[.int .i64 n] w fun e w' => e = .returned (.int .i64 n) ∧ w = w' := by
  go_enter Tryz.func22, Tryz.ntmps22
  go_wp2
  go_ret
  exact ⟨rfl, rfl⟩

theorem larderRight_any (f : Nat → Int) (w : World) (hT : TabW w) :
    Calls Tryz.prog 23 #[cmdV f] w fun e w' => e = .returned (.int .i64 (rightE f)) ∧ Below w.heap.size w w' := by
  go_enter Tryz.func23, Tryz.ntmps23
  go_wp2_with fail
  refine (right_any f _ (hT.alloc _)).mono ?_
  rintro e w1 ⟨rfl, hb⟩
  go_wp2
  go_ret
  exact ⟨rfl, ((Below.refl _ _).alloc (Nat.le_refl _) _).trans (hb.mono (by simp))⟩

/-- What 'Frame' answers: a text, and an error. -/
def frT (f : Nat → Int) : List Int := if rightB f then frameL f else []
theorem frame_any (f : Nat → Int) (w : World) (hT : TabW w) :
    Calls Tryz.prog 47 #[cmdV f] w fun e w' => e = .returned (.tuple #[.string (strOfNums (frT f)), .int .i64 (rightE f)]) ∧ Below w.heap.size w w' := by
  unfold frT rightE
  cases hr : rightB f with
  | true => exact frame_yes f w hT hr (fun p hp => (partsL_ok _ p hp).1) (right_fits f hr)
  | false => exact frame_no f w hT hr
theorem larderFrame_any (f : Nat → Int) (w : World) (hT : TabW w) :
    Calls Tryz.prog 25 #[cmdV f] w fun e w' => e = .returned (.tuple #[.string (strOfNums (frT f)), .int .i64 (rightE f)]) ∧ Below w.heap.size w w' := by
  go_enter Tryz.func25, Tryz.ntmps25
  go_wp2_with fail
  refine (frame_any f _ (hT.alloc _)).mono ?_
  rintro e w1 ⟨rfl, hb⟩
  go_wp2
  go_ret2
  exact ⟨rfl, ((Below.refl _ _).alloc (Nat.le_refl _) _).trans (hb.mono (by simp))⟩

theorem refFrame_any (f : Nat → Int) (w : World) :
    Calls Tryz.prog 26 #[cmdV f] w fun e w' => e = .returned (.tuple #[.string (strOfNums (frT f)), .int .i64 (rightE f)]) ∧ Below w.heap.size w w' := by
  unfold frT rightE
  cases hr : rightB f with
  | true =>
    rw [right_ref] at hr
    have hk := refOk_kind f hr
    have := refFrame_yes f w hr
    rw [← frame_ref f hk.1 hk.2] at this
    exact this
  | false =>
    rw [right_ref] at hr
    exact refFrame_no f w hr
theorem refE_eq (f : Nat → Int) : refE f = rightE f := by unfold refE rightE; rw [right_ref]

set_option maxRecDepth 100000 in
set_option maxHeartbeats 1000000 in
theorem framed_any (f : Nat → Int) (w : World) (hT : TabW w) :
    Calls Tryz.prog 13 #[cmdV f] w fun e w' => e = .returned (.bool true) ∧ Below w.heap.size w w' := by
  go_enter Tryz.func13, Tryz.ntmps13
  go_wp2_with fail
  refine (larderRight_any f _ (hT.alloc _)).mono ?_
  rintro e w1 ⟨rfl, hb1⟩
  have hC1 := (CmdAt.new w f 33).below hb1 (by simp)
  have hB1 : Below w.heap.size w w1 := ((Below.refl _ _).alloc (Nat.le_refl _) _).trans (hb1.mono (by simp))
  have hz1 := hb1.size
  simp only [World.size_alloc] at hz1
  clear hb1
  obtain ⟨c0, c1, c2, c3, c4, c5, c6, c7⟩ := hC1.all
  go_wp2_with fail
  refine (refRight_any f _).mono ?_
  rw [refE_eq]
  rintro e w2 ⟨rfl, hb2⟩
  have hC2 := hC1.below hb2 (by omega)
  have hB2 := hB1.trans (hb2.mono (by omega))
  have hz2 := hb2.size
  clear c0 c1 c2 c3 c4 c5 c6 c7 hC1 hb2 hB1
  obtain ⟨c0, c1, c2, c3, c4, c5, c6, c7⟩ := hC2.all
  go_wp2_with fail
  refine (larderFrame_any f _ (hT.below hB2 hT.pos)).mono ?_
  rintro e w3 ⟨rfl, hb3⟩
  have hC3 := hC2.below hb3 (by omega)
  have hB3 := hB2.trans (hb3.mono (by omega))
  have hz3 := hb3.size
  clear c0 c1 c2 c3 c4 c5 c6 c7 hC2 hb3 hB2
  obtain ⟨c0, c1, c2, c3, c4, c5, c6, c7⟩ := hC3.all
  go_wp2_with fail
  refine (refFrame_any f _).mono ?_
  rintro e w4 ⟨rfl, hb4⟩
  have hB4 := hB3.trans (hb4.mono (by omega))
  clear c0 c1 c2 c3 c4 c5 c6 c7 hC3 hb4 hB3 hT
  go_wp2_with (go_at_call 22; refine (num_any _ _).mono ?_; rintro e w' ⟨rfl, rfl⟩)
  go_ret
  exact ⟨rfl, hB4⟩

end Go.Proofs.YtdblmheoghhepaaGreatDoor
