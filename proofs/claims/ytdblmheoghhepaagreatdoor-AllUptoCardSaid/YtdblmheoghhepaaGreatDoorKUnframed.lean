/- The law's 'unframed' (P4), and the law Frames. -/
import Derived.Test.YtdblmheoghhepaaGreatDoorKBoth2
import Derived.Test.YtdblmheoghhepaaGreatDoorKFramed
namespace Go.Proofs.YtdblmheoghhepaaGreatDoor
open Go.RowKit

/-- What 'Unframe' answers, the code's and the document's alike. -/
theorem unframe_both (s : ByteArray) (hs : s.size ≤ maxLen) : ∃ (f : Nat → Int) (n x : Int),
    (∀ w, TabW w → Calls Tryz.prog 41 #[.string s] w fun e w' => e = .returned (.tuple #[cmdV f, .int .i64 n, .int .i64 x]) ∧ Below w.heap.size w w') ∧
    (∀ w, Calls Tryz.prog 28 #[.string s] w fun e w' => e = .returned (.tuple #[cmdV f, .int .i64 n, .int .i64 x]) ∧ Below w.heap.size w w') := by
  by_cases hg : Good s
  · exact ⟨goodF s hg.1, 1 + (goodN s hg.1 : Int), 0, fun w hT => code_good s hs hg w hT, fun w => ref_good s hs hg w⟩
  · exact ⟨fun _ => 0, 0, 8, fun w hT => code_bad s hs hg w hT, fun w => ref_bad s hs hg w⟩

theorem larderUnframe_any (s : ByteArray) (f : Nat → Int) (n x : Int) (hc : ∀ w, TabW w → Calls Tryz.prog 41 #[.string s] w fun e w' => e = .returned (.tuple #[cmdV f, .int .i64 n, .int .i64 x]) ∧ Below w.heap.size w w') (w : World) (hT : TabW w) :
    Calls Tryz.prog 27 #[.string s] w fun e w' => e = .returned (.tuple #[cmdV f, .int .i64 n, .int .i64 x]) ∧ Below w.heap.size w w' := by
  have H := hc
  clear hc
  go_enter Tryz.func27, Tryz.ntmps27
  go_wp2_with fail
  refine (H _ (hT.alloc _)).mono ?_
  rintro e w1 ⟨rfl, hb⟩
  simp only [World.size_alloc] at hb
  obtain ⟨hZ, hF⟩ := zero_new w hb (by omega)
  obtain ⟨c0, c1, c2, c3, c4, c5, c6, c7⟩ := hZ.all
  have f0 := hF 0
  have f1 := hF 1
  have f2 := hF 2
  have f3 := hF 3
  have f4 := hF 4
  have f5 := hF 5
  have f6 := hF 6
  have f7 := hF 7
  have hB : Below w.heap.size w w1 := ((Below.refl _ _).alloc (Nat.le_refl _) _).trans (hb.mono (by omega))
  clear hZ hF hb hT H
  go_wp2
  refine bodyPost_ret (v := .tuple #[cmdV f, .int .i64 n, .int .i64 x]) (by simp [results, Tryz.results27, go_sem, *]) rfl ⟨rfl, ?_⟩
  exact below8 hB _ (Nat.le_refl _) _ _ _ _ _ _ _ _

set_option maxRecDepth 100000 in
set_option maxHeartbeats 1000000 in
theorem unframed_any (s : ByteArray) (hs : s.size ≤ maxLen) (w : World) (hT : TabW w) :
    Calls Tryz.prog 14 #[.string s] w fun e w' => e = .returned (.bool true) ∧ Below w.heap.size w w' := by
  obtain ⟨f, n, x, hc, hr⟩ := unframe_both s hs
  have HC : Hid (∀ w, TabW w → Calls Tryz.prog 41 #[.string s] w fun e w' => e = .returned (.tuple #[cmdV f, .int .i64 n, .int .i64 x]) ∧ Below w.heap.size w w') := hc
  have HR : Hid (∀ w, Calls Tryz.prog 28 #[.string s] w fun e w' => e = .returned (.tuple #[cmdV f, .int .i64 n, .int .i64 x]) ∧ Below w.heap.size w w') := hr
  clear hc hr
  go_enter Tryz.func14, Tryz.ntmps14
  go_wp2_with fail
  refine (larderUnframe_any s f n x HC.out _ hT).mono ?_
  rintro e w1 ⟨rfl, hb1⟩
  have hz1 := hb1.size
  go_wp2_with fail
  refine (HR.out _).mono ?_
  rintro e w2 ⟨rfl, hb2⟩
  simp only [World.size_alloc] at hb2
  have hz2 := hb2.size
  simp only [World.size_alloc] at hz2
  obtain ⟨c0, c1, c2, c3, c4, c5, c6, c7⟩ := ((CmdAt.new w1 f 33).below hb2 (by omega)).all
  have hB : Below w.heap.size w w2 := (hb1.alloc hz1 _).trans (hb2.mono (by omega))
  have hlt : w1.heap.size < w2.heap.size := by omega
  clear hb1 hb2 HC HR hz2
  go_wp2_with (go_at_call 22; refine (num_any _ _).mono ?_; rintro e w' ⟨rfl, rfl⟩)
  go_ret
  exact ⟨rfl, hB.alloc (by omega) _⟩

end Go.Proofs.YtdblmheoghhepaaGreatDoor
