/- The law's 'unframed' (P4), and the law Frames. -/
import Derived.Test.YtdblmheoghhepaaDoorKBoth2
import Derived.Test.YtdblmheoghhepaaDoorKFramed
namespace Go.Proofs.YtdblmheoghhepaaDoor
open Go.RowKit

/-- What 'Unframe' answers, the code's and the document's alike. -/
theorem unframe_both (s : ByteArray) (hs : s.size ≤ maxLen) : ∃ (f : Nat → Int) (n x : Int),
    (∀ w, TabW w → Calls Tryd.prog 35 #[.string s] w fun e w' => e = .returned (.tuple #[cmdV f, .int .i64 n, .int .i64 x]) ∧ Below w.heap.size w w') ∧
    (∀ w, Calls Tryd.prog 33 #[.string s] w fun e w' => e = .returned (.tuple #[cmdV f, .int .i64 n, .int .i64 x]) ∧ Below w.heap.size w w') := by
  by_cases hg : Good s
  · exact ⟨goodF s hg.1, 1 + (goodN s hg.1 : Int), 0, fun w hT => code_good s hs hg w hT, fun w => ref_good s hs hg w⟩
  · exact ⟨fun _ => 0, 0, 8, fun w hT => code_bad s hs hg w hT, fun w => ref_bad s hs hg w⟩

theorem larderUnframe_any (s : ByteArray) (f : Nat → Int) (n x : Int) (hc : ∀ w, TabW w → Calls Tryd.prog 35 #[.string s] w fun e w' => e = .returned (.tuple #[cmdV f, .int .i64 n, .int .i64 x]) ∧ Below w.heap.size w w') (w : World) (hT : TabW w) :
    Calls Tryd.prog 14 #[.string s] w fun e w' => e = .returned (.tuple #[cmdV f, .int .i64 n, .int .i64 x]) ∧ Below w.heap.size w w' := by
  have H := hc
  clear hc
  go_enter Tryd.func14, Tryd.ntmps14
  go_wp2_with fail
  refine (H _ (hT.alloc _)).mono ?_
  rintro e w1 ⟨rfl, hb⟩
  simp only [World.size_alloc] at hb
  obtain ⟨hZ, hF⟩ := zero_new w hb (by omega)
  obtain ⟨c0, c1, c2, c3, c4, c5, c6, c7⟩ := hZ.all
  have f0 := hF 0
  have f1 := hF 1
  have f2 := hF 2
  have f3 := hF 3
  have f4 := hF 4
  have f5 := hF 5
  have f6 := hF 6
  have f7 := hF 7
  have hB : Below w.heap.size w w1 := ((Below.refl _ _).alloc (Nat.le_refl _) _).trans (hb.mono (by omega))
  clear hZ hF hb hT H
  go_wp2
  refine bodyPost_ret (v := .tuple #[cmdV f, .int .i64 n, .int .i64 x]) (by simp [results, Tryd.results14, go_sem, *]) rfl ⟨rfl, ?_⟩
  exact below8 hB _ (Nat.le_refl _) _ _ _ _ _ _ _ _

set_option maxRecDepth 100000 in
set_option maxHeartbeats 1000000 in
theorem unframed_any (s : ByteArray) (hs : s.size ≤ maxLen) (w : World) (hT : TabW w) :
    Calls Tryd.prog 11 #[.string s] w fun e w' => e = .returned (.bool true) ∧ Below w.heap.size w w' := by
  obtain ⟨f, n, x, hc, hr⟩ := unframe_both s hs
  have HC : Hid (∀ w, TabW w → Calls Tryd.prog 35 #[.string s] w fun e w' => e = .returned (.tuple #[cmdV f, .int .i64 n, .int .i64 x]) ∧ Below w.heap.size w w') := hc
  have HR : Hid (∀ w, Calls Tryd.prog 33 #[.string s] w fun e w' => e = .returned (.tuple #[cmdV f, .int .i64 n, .int .i64 x]) ∧ Below w.heap.size w w') := hr
  clear hc hr
  go_enter Tryd.func11, Tryd.ntmps11
  go_wp2_with fail
  refine (larderUnframe_any s f n x HC.out _ hT).mono ?_
  rintro e w1 ⟨rfl, hb1⟩
  have hz1 := hb1.size
  go_wp2_with fail
  refine (HR.out _).mono ?_
  rintro e w2 ⟨rfl, hb2⟩
  simp only [World.size_alloc] at hb2
  have hz2 := hb2.size
  simp only [World.size_alloc] at hz2
  obtain ⟨c0, c1, c2, c3, c4, c5, c6, c7⟩ := ((CmdAt.new w1 f 23).below hb2 (by omega)).all
  have hB : Below w.heap.size w w2 := (hb1.alloc hz1 _).trans (hb2.mono (by omega))
  have hlt : w1.heap.size < w2.heap.size := by omega
  clear hb1 hb2 HC HR hz2
  go_wp2_with (go_at_call 32; refine (num_any _ _).mono ?_; rintro e w' ⟨rfl, rfl⟩)
  go_ret
  exact ⟨rfl, hB.alloc (by omega) _⟩

set_option maxRecDepth 100000 in
set_option maxHeartbeats 1000000 in
/-- THE LAW Frames: whatever the command and the bytes, in whatever world that holds the table. -/
theorem frames_any (f : Nat → Int) (s : ByteArray) (hs : s.size ≤ maxLen) (w : World) (hT : TabW w) :
    Calls Tryd.prog 3 #[cmdV f, .string s] w fun e w' => e = .returned (.bool true) ∧ Below w.heap.size w w' := by
  go_enter Tryd.func3, Tryd.ntmps3
  go_wp2_with fail
  refine (framed_any (mkF 8 0 0 0 0 0 0 1) _ (hT.alloc _)).mono ?_
  rintro e w1 ⟨rfl, hb1⟩
  have hC1 := (CmdAt.new w f 23).below hb1 (by simp)
  have hB1 : Below w.heap.size w w1 := ((Below.refl _ _).alloc (Nat.le_refl _) _).trans (hb1.mono (by simp))
  have hz1 := hb1.size
  simp only [World.size_alloc] at hz1
  obtain ⟨c0, c1, c2, c3, c4, c5, c6, c7⟩ := hC1.all
  clear hb1 hC1
  go_wp2_with fail
  refine (framed_any f _ (hT.below hB1 hT.pos)).mono ?_
  rintro e w2 ⟨rfl, hb2⟩
  have hz2 := hb2.size
  have hB2 := hB1.trans (hb2.mono (by omega))
  clear c0 c1 c2 c3 c4 c5 c6 c7 hb2 hB1
  go_wp2_with fail
  refine (unframed_any s hs _ (hT.below hB2 hT.pos)).mono ?_
  rintro e w3 ⟨rfl, hb3⟩
  have hB3 := hB2.trans (hb3.mono (by omega))
  clear hb3 hB2 hT
  go_wp2
  go_ret
  exact ⟨rfl, hB3⟩

end Go.Proofs.YtdblmheoghhepaaDoor
