/- The document's 'Unframe' (package larderref). -/
import Derived.Test.YtdblmheoghhepaaGreatDoorKGuess
import Derived.Test.YtdblmheoghhepaaGreatDoorKRefFrame
import Derived.Test.YtdblmheoghhepaaGreatDoorKReadAllB
namespace Go.Proofs.YtdblmheoghhepaaGreatDoor
open Go.RowKit

theorem refUnframe_empty (s : ByteArray) (w : World) (h : s.size = 0) :
    Calls Tryz.prog 28 #[.string s] w fun e w' => e = .returned none3 ∧ Below w.heap.size w w' := by
  have h0 : ((s.size : Int) == 0) = true := by simp [h]
  clear h
  go_enter Tryz.func28, Tryz.ntmps28
  go_wp2
  refine bodyPost_ret (v := none3) (by simp [results, Tryz.results28, go_sem]) rfl ⟨rfl, ?_⟩
  exact ((Below.refl _ _).alloc (Nat.le_refl _) _).alloc (by simp) _

theorem refUnframe_short (s : ByteArray) (w : World) (hp : 0 < s.size) (h : s.size < 1 + (s[0]'hp).toNat) :
    Calls Tryz.prog 28 #[.string s] w fun e w' => e = .returned none3 ∧ Below w.heap.size w w' := by
  have h0 : ((s.size : Int) == 0) = false := by rw [beq_eq_false_iff_ne]; omega
  have hb := (s[0]'hp).toNat_lt
  have hk0 : wrap64 (((s[0]'hp).toNat : Nat) : Int) = (((s[0]'hp).toNat : Nat) : Int) := w64 _ (by omega)
  go_enter Tryz.func28, Tryz.ntmps28
  go_wp2
  refine bodyPost_ret (v := none3) (by simp [results, Tryz.results28, go_sem]) rfl ⟨rfl, ?_⟩
  exact ((Below.refl _ _).alloc (Nat.le_refl _) _).alloc (by simp) _

theorem zero_two {w w1 w2 : World} {F : Nat → Int} (hb1 : Below (w.heap.size + 1 + 1) ((w.alloc (.cells (cmdC fun _ => 0) 33)).alloc (.cells (cmdC fun _ => 0) 33)) w1) (hb2 : Below (w1.heap.size + 1) (w1.alloc (.cells (cmdC F) 33)) w2) :
    CmdAt w2 w.heap.size (fun _ => 0) ∧ Free w2 w.heap.size ∧ CmdAt w2 (w.heap.size + 1) (fun _ => 0) ∧ Below w.heap.size w w2 ∧ CmdAt w2 w1.heap.size F := by
  obtain ⟨h1, h2, h3, h4, h5, h6⟩ := GInv.start w
  have s1 := hb1.size
  simp only [World.size_alloc] at s1
  have b2 : Below w1.heap.size w1 w2 := ((Below.refl _ _).alloc (Nat.le_refl _) _).trans (hb2.mono (by omega))
  have b : Below (w.heap.size + 1 + 1) ((w.alloc (.cells (cmdC fun _ => 0) 33)).alloc (.cells (cmdC fun _ => 0) 33)) w2 := hb1.trans (b2.mono (by omega))
  exact ⟨h1.below b (by omega), h2.below b (by omega), h3.below b (by omega), h5.trans (b.mono (by omega)), (CmdAt.new w1 F 33).below hb2 (by omega)⟩

set_option maxRecDepth 100000 in
set_option maxHeartbeats 2000000 in
theorem refUnframe_wrong (s : ByteArray) (w : World) (hs : s.size ≤ maxLen) (hp : 0 < s.size) (h : 1 + (s[0]'hp).toNat ≤ s.size) (F : Nat → Int) (hF : F = guessF (s.extract 1 (1 + (s[0]'hp).toNat))) (hr : refOk F = false) :
    Calls Tryz.prog 28 #[.string s] w fun e w' => e = .returned none3 ∧ Below w.heap.size w w' := by
  have h0 : ((s.size : Int) == 0) = false := by rw [beq_eq_false_iff_ne]; omega
  have hb := (s[0]'hp).toNat_lt
  have hk0 : wrap64 (((s[0]'hp).toNat : Nat) : Int) = (((s[0]'hp).toNat : Nat) : Int) := w64 _ (by omega)
  have hmx : (s.extract 1 (1 + (s[0]'hp).toNat)).size ≤ maxLen := by simp [ByteArray.size_extract]; omega
  have HF : Hid (F = guessF (s.extract 1 (1 + (s[0]'hp).toNat))) := hF
  unfold maxLen at hs
  clear hF
  go_enter Tryz.func28, Tryz.ntmps28
  go_wp2_with fail
  refine (guess_any (s.extract 1 (1 + (s[0]'hp).toNat)) _ hmx).mono ?_
  rw [← HF.out]
  rintro e w1 ⟨rfl, hb1⟩
  simp only [World.size_alloc] at hb1
  have hs1 := hb1.size
  simp only [World.size_alloc] at hs1
  go_wp2_with fail
  refine (refFrame_no F _ hr).mono ?_
  rintro e w2 ⟨rfl, hb2⟩
  simp only [World.size_alloc] at hb2
  have hs2 := hb2.size
  simp only [World.size_alloc] at hs2
  obtain ⟨hZ, hZF, hY, hB, hX⟩ := zero_two hb1 hb2
  obtain ⟨c0, c1, c2, c3, c4, c5, c6, c7⟩ := hZ.all
  obtain ⟨d0, d1, d2, d3, d4, d5, d6, d7⟩ := hY.all
  obtain ⟨x0, x1, x2, x3, x4, x5, x6, x7⟩ := hX.all
  have f0 := hZF 0
  have f1 := hZF 1
  have f2 := hZF 2
  have f3 := hZF 3
  have f4 := hZF 4
  have f5 := hZF 5
  have f6 := hZF 6
  have f7 := hZF 7
  have ne1 : ¬ w.heap.size = w1.heap.size := by omega
  have ne2 : ¬ w1.heap.size = w.heap.size := by omega
  clear hZ hZF hY hX hb1 hb2 hr
  go_wp2
  refine bodyPost_ret (v := none3) (by simp [results, Tryz.results28, go_sem, *]) rfl ⟨rfl, ?_⟩
  exact below8 hB _ (Nat.le_refl _) _ _ _ _ _ _ _ _

set_option maxRecDepth 100000 in
set_option maxHeartbeats 2000000 in
theorem refUnframe_right (s : ByteArray) (w : World) (hs : s.size ≤ maxLen) (hp : 0 < s.size) (h : 1 + (s[0]'hp).toNat ≤ s.size) (F : Nat → Int) (hF : F = guessF (s.extract 1 (1 + (s[0]'hp).toNat))) (hr : refOk F = true) (he : ((strOfNums (fr8 F (qOf F))).toList == (s.extract 0 (1 + (s[0]'hp).toNat)).toList) = true) :
    Calls Tryz.prog 28 #[.string s] w fun e w' => e = .returned (.tuple #[cmdV F, .int .i64 (1 + ((s[0]'hp).toNat : Int)), .int .i64 0]) ∧ Below w.heap.size w w' := by
  have h0 : ((s.size : Int) == 0) = false := by rw [beq_eq_false_iff_ne]; omega
  have hb := (s[0]'hp).toNat_lt
  have hk0 : wrap64 (((s[0]'hp).toNat : Nat) : Int) = (((s[0]'hp).toNat : Nat) : Int) := w64 _ (by omega)
  have hmx : (s.extract 1 (1 + (s[0]'hp).toNat)).size ≤ maxLen := by simp [ByteArray.size_extract]; omega
  have HF : Hid (F = guessF (s.extract 1 (1 + (s[0]'hp).toNat))) := hF
  unfold maxLen at hs
  clear hF
  go_enter Tryz.func28, Tryz.ntmps28
  go_wp2_with fail
  refine (guess_any (s.extract 1 (1 + (s[0]'hp).toNat)) _ hmx).mono ?_
  rw [← HF.out]
  rintro e w1 ⟨rfl, hb1⟩
  simp only [World.size_alloc] at hb1
  have hs1 := hb1.size
  simp only [World.size_alloc] at hs1
  go_wp2_with fail
  refine (refFrame_yes F _ hr).mono ?_
  rintro e w2 ⟨rfl, hb2⟩
  simp only [World.size_alloc] at hb2
  have hs2 := hb2.size
  simp only [World.size_alloc] at hs2
  obtain ⟨hZ, hZF, hY, hB, hX⟩ := zero_two hb1 hb2
  obtain ⟨c0, c1, c2, c3, c4, c5, c6, c7⟩ := hZ.all
  obtain ⟨d0, d1, d2, d3, d4, d5, d6, d7⟩ := hY.all
  obtain ⟨x0, x1, x2, x3, x4, x5, x6, x7⟩ := hX.all
  have f0 := hZF 0
  have f1 := hZF 1
  have f2 := hZF 2
  have f3 := hZF 3
  have f4 := hZF 4
  have f5 := hZF 5
  have f6 := hZF 6
  have f7 := hZF 7
  have ne1 : ¬ w.heap.size = w1.heap.size := by omega
  have ne2 : ¬ w1.heap.size = w.heap.size := by omega
  clear hZ hZF hY hX hb1 hb2 hr
  go_wp2
  refine bodyPost_ret (v := .tuple #[cmdV F, .int .i64 (1 + ((s[0]'hp).toNat : Int)), .int .i64 0]) (by simp [results, Tryz.results28, go_sem, *]) rfl ⟨rfl, ?_⟩
  exact below8 hB _ (Nat.le_refl _) _ _ _ _ _ _ _ _

set_option maxRecDepth 100000 in
set_option maxHeartbeats 2000000 in
theorem refUnframe_other (s : ByteArray) (w : World) (hs : s.size ≤ maxLen) (hp : 0 < s.size) (h : 1 + (s[0]'hp).toNat ≤ s.size) (F : Nat → Int) (hF : F = guessF (s.extract 1 (1 + (s[0]'hp).toNat))) (hr : refOk F = true) (he : ((strOfNums (fr8 F (qOf F))).toList == (s.extract 0 (1 + (s[0]'hp).toNat)).toList) = false) :
    Calls Tryz.prog 28 #[.string s] w fun e w' => e = .returned none3 ∧ Below w.heap.size w w' := by
  have h0 : ((s.size : Int) == 0) = false := by rw [beq_eq_false_iff_ne]; omega
  have hb := (s[0]'hp).toNat_lt
  have hk0 : wrap64 (((s[0]'hp).toNat : Nat) : Int) = (((s[0]'hp).toNat : Nat) : Int) := w64 _ (by omega)
  have hmx : (s.extract 1 (1 + (s[0]'hp).toNat)).size ≤ maxLen := by simp [ByteArray.size_extract]; omega
  have HF : Hid (F = guessF (s.extract 1 (1 + (s[0]'hp).toNat))) := hF
  unfold maxLen at hs
  clear hF
  go_enter Tryz.func28, Tryz.ntmps28
  go_wp2_with fail
  refine (guess_any (s.extract 1 (1 + (s[0]'hp).toNat)) _ hmx).mono ?_
  rw [← HF.out]
  rintro e w1 ⟨rfl, hb1⟩
  simp only [World.size_alloc] at hb1
  have hs1 := hb1.size
  simp only [World.size_alloc] at hs1
  go_wp2_with fail
  refine (refFrame_yes F _ hr).mono ?_
  rintro e w2 ⟨rfl, hb2⟩
  simp only [World.size_alloc] at hb2
  have hs2 := hb2.size
  simp only [World.size_alloc] at hs2
  obtain ⟨hZ, hZF, hY, hB, hX⟩ := zero_two hb1 hb2
  obtain ⟨c0, c1, c2, c3, c4, c5, c6, c7⟩ := hZ.all
  obtain ⟨d0, d1, d2, d3, d4, d5, d6, d7⟩ := hY.all
  obtain ⟨x0, x1, x2, x3, x4, x5, x6, x7⟩ := hX.all
  have f0 := hZF 0
  have f1 := hZF 1
  have f2 := hZF 2
  have f3 := hZF 3
  have f4 := hZF 4
  have f5 := hZF 5
  have f6 := hZF 6
  have f7 := hZF 7
  have ne1 : ¬ w.heap.size = w1.heap.size := by omega
  have ne2 : ¬ w1.heap.size = w.heap.size := by omega
  clear hZ hZF hY hX hb1 hb2 hr
  go_wp2
  refine bodyPost_ret (v := none3) (by simp [results, Tryz.results28, go_sem, *]) rfl ⟨rfl, ?_⟩
  exact below8 hB _ (Nat.le_refl _) _ _ _ _ _ _ _ _

end Go.Proofs.YtdblmheoghhepaaGreatDoor
