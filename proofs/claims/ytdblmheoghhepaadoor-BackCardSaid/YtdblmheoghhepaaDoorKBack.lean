/- The law Back, walked. -/
import Derived.Test.YtdblmheoghhepaaDoorKBackPure
import Derived.Test.YtdblmheoghhepaaDoorKPick
import Derived.Test.YtdblmheoghhepaaDoorKUnframed
namespace Go.Proofs.YtdblmheoghhepaaDoor
open Go.RowKit
set_option maxRecDepth 100000

theorem unf_good (s : ByteArray) (hs : s.size ≤ maxLen) (hg : Good s) (w : World) (hT : TabW w) :
    Calls Tryd.prog 14 #[.string s] w fun e w' => e = .returned (.tuple #[cmdV (goodF s hg.1), .int .i64 ((1 + goodN s hg.1 : Nat) : Int), .int .i64 0]) ∧ Below w.heap.size w w' := by
  have e : (1 + (goodN s hg.1 : Int)) = ((1 + goodN s hg.1 : Nat) : Int) := by omega
  have h := larderUnframe_any s (goodF s hg.1) (1 + (goodN s hg.1 : Int)) 0 (fun w hT => code_good s hs hg w hT) w hT
  rw [e] at h
  exact h
theorem unf_bad (s : ByteArray) (hs : s.size ≤ maxLen) (hg : ¬ Good s) (w : World) (hT : TabW w) :
    Calls Tryd.prog 14 #[.string s] w fun e w' => e = .returned none3 ∧ Below w.heap.size w w' :=
  larderUnframe_any s (fun _ => 0) 0 8 (fun w hT => code_bad s hs hg w hT) w hT
theorem frame_right (F : Nat → Int) (hr : rightB F = true) (w : World) (hT : TabW w) :
    Calls Tryd.prog 13 #[cmdV F] w fun e w' => e = .returned (.tuple #[.string (strOfNums (frameL F)), .int .i64 0]) ∧ Below w.heap.size w w' := by
  have h := larderFrame_any F w hT
  rw [show frT F = frameL F from by simp [frT, hr], show rightE F = 0 from by simp [rightE, hr]] at h
  exact h

/-- A frame with some behind it: the command, and the frame's length. -/
theorem unf_frame (F : Nat → Int) (hr : rightB F = true) (X tail : ByteArray) (hX : X = strOfNums (frameL F)) (hs : (X ++ tail).size ≤ maxLen) (w : World) (hT : TabW w) :
    Calls Tryd.prog 14 #[.string (X ++ tail)] w fun e w' => e = .returned (.tuple #[cmdV F, .int .i64 (X.size : Int), .int .i64 0]) ∧ Below w.heap.size w w' := by
  subst hX
  obtain ⟨hg, h1, h2⟩ := good_frame F hr tail
  have h := unf_good _ hs hg w hT
  rw [h1, h2, ← frame_size] at h
  exact h

set_option maxRecDepth 100000 in
set_option maxHeartbeats 2000000 in
theorem back_any (f : Nat → Int) (id : Int) (tail s : ByteArray) (cut : Int) (w : World) (hT : TabW w) (hf : Bd f) (hi : -9223372036854775808 ≤ id ∧ id ≤ 9223372036854775807) (hc : -9223372036854775808 ≤ cut ∧ cut ≤ 9223372036854775807)
    (ht : tail.size ≤ 140737488351232) (hs : s.size ≤ maxLen) :
    Calls Tryd.prog 4 #[cmdV f, .int .i64 id, .string tail, .string s, .int .i64 cut] w fun e w' => e = .returned (.bool true) ∧ Below w.heap.size w w' := by
  go_enter Tryd.func4, Tryd.ntmps4
  go_wp2_with fail
  refine (command_any f id _ hf hi).mono ?_
  rintro e w1 ⟨F, rfl, hok, hb1, h9⟩
  clear h9
  have hr : rightB F = true := by rw [right_ref]; exact hok
  have hkd := refOk_kind F hok
  have hw := wsum_bd _ hkd.1 hkd.2
  have hB1 : Below w.heap.size w w1 := ((Below.refl _ _).alloc (Nat.le_refl _) _).trans (hb1.mono (by simp))
  have hs1 := hB1.size
  have hT1 := hT.below hB1 hT.pos
  clear hb1 hf hi hok
  go_wp2_with fail
  refine (frame_right F hr _ (hT1.alloc _)).mono ?_
  rintro e w2 ⟨rfl, hb2⟩
  simp only [World.size_alloc] at hb2
  have hs2 := hb2.size
  simp only [World.size_alloc] at hs2
  have hC2 := (CmdAt.new w1 F 23).below hb2 (by omega)
  have hB2 : Below w.heap.size w w2 := (hB1.alloc hs1 _).trans (hb2.mono (by omega))
  have hT2 := hT.below hB2 hT.pos
  obtain ⟨X, hX⟩ : ∃ X, X = strOfNums (frameL F) := ⟨_, rfl⟩
  rw [← hX]
  have hXs : X.size = 1 + wsum (partsL (F 0)) := by rw [hX, frame_size]
  have HX : Hid (X = strOfNums (frameL F)) := hX
  have hx1 : 0 < X.size := by omega
  have hx2 : X.size ≤ 15 := by omega
  have hadd : ∀ w, (Op.stringOp .add X tail).run Tryd.prog w = .ok (.string (X ++ tail)) w := fun w => run_string_add_sum w X tail (by omega)
  have hYs : (X ++ tail).size ≤ maxLen := by rw [ByteArray.size_append]; unfold maxLen; omega
  clear hX hb2 hT1 hB1 hkd hw hXs
  go_wp2_with fail
  refine (unf_frame F hr X tail HX.out hYs _ hT2).mono ?_
  rintro e w3 ⟨rfl, hb3⟩
  have hs3 := hb3.size
  have hC3 := hC2.below hb3 (by omega)
  have hB3 := hB2.trans (hb3.mono (by omega))
  have hT3 := hT.below hB3 hT.pos
  obtain ⟨c0, c1, c2, c3, c4, c5, c6, c7⟩ := hC3.all
  have hlt3 : w1.heap.size < w3.heap.size := by omega
  obtain ⟨k, hk⟩ := Int.eq_ofNat_of_zero_le (pk_bd cut (X.size : Int) (by omega)).1
  have hkl : k < X.size := by have := (pk_bd cut (X.size : Int) (by omega)).2; omega
  have HK : Hid (pk cut (X.size : Int) = (k : Int)) := hk
  clear hk hb3 hT2 hB2 hC2 hC3 hadd hYs
  go_wp2_with fail
  refine (pick_any cut (X.size : Int) _ hc.1 hc.2 (by omega) (by omega)).mono ?_
  rw [HK.out]
  rintro e w4 ⟨rfl, rfl⟩
  have hcut : ¬ Good (X.extract 0 k) := by
    have hk' := hkl
    rw [HX.out] at hk' ⊢
    exact bad_cut F hr k hk'
  have hes : (X.extract 0 k).size ≤ maxLen := by simp [ByteArray.size_extract]; unfold maxLen; omega
  have HG : Hid (¬ Good (X.extract 0 k)) := hcut
  clear hcut c0 c1 c2 c3 c4 c5 c6 c7 HK
  go_wp2_with fail
  refine (unf_bad _ hes HG.out _ (hT3.alloc _)).mono ?_
  rintro e w5 ⟨rfl, hb5⟩
  simp only [World.size_alloc] at hb5
  have hs5 := hb5.size
  simp only [World.size_alloc] at hs5
  have hB5 : Below w.heap.size w w5 := (hB3.alloc (by omega) _).trans (hb5.mono (by omega))
  have hT5 := hT.below hB5 hT.pos
  clear hb5 hB3 hT3 HG hes
  by_cases hg : Good s
  · obtain ⟨h2, h0, hl, hrr⟩ := hg
    have hkk := good_kind s h2 hrr
    have hfb := frame_bytes s h2 hkk.1 hkk.2 h0 hl
    have hu := unf_good s hs ⟨h2, h0, hl, hrr⟩
    have hfr := frame_right (goodF s h2) hrr
    obtain ⟨q, hq⟩ : ∃ q, q = 1 + goodN s h2 := ⟨_, rfl⟩
    have hq1 : 1 ≤ q := by omega
    have hq2 : q ≤ s.size := by rw [hq]; exact hl
    have heq : ((strOfNums (frameL (goodF s h2))).toList == (s.extract 0 q).toList) = true := by
      rw [beq_iff_eq, hq]
      unfold goodF goodN
      rw [hfb, h0]
    rw [← hq] at hu
    obtain ⟨G, hG⟩ : ∃ G, G = goodF s h2 := ⟨_, rfl⟩
    rw [← hG] at heq hu hfr
    obtain ⟨Z, hZ⟩ : ∃ Z, Z = strOfNums (frameL G) := ⟨_, rfl⟩
    rw [← hZ] at heq hfr
    have HU : Hid (∀ w, TabW w → Calls Tryd.prog 14 #[.string s] w fun e w' => e = .returned (.tuple #[cmdV G, .int .i64 ((q : Nat) : Int), .int .i64 0]) ∧ Below w.heap.size w w') := hu
    have HR : Hid (∀ w, TabW w → Calls Tryd.prog 13 #[cmdV G] w fun e w' => e = .returned (.tuple #[.string Z, .int .i64 0]) ∧ Below w.heap.size w w') := hfr
    unfold maxLen at hs
    clear hu hfr hG hZ hq hfb hkk h0 hl hrr
    go_wp2_with fail
    refine (HU.out _ (hT5.alloc _)).mono ?_
    rintro e w6 ⟨rfl, hb6⟩
    simp only [World.size_alloc] at hb6
    have hs6 := hb6.size
    simp only [World.size_alloc] at hs6
    have hB6 : Below w.heap.size w w6 := (hB5.alloc (by omega) _).trans (hb6.mono (by omega))
    have hT6 := hT.below hB6 hT.pos
    clear hb6 hB5 hT5 HU
    go_wp2_with fail
    refine (HR.out _ (hT6.alloc _)).mono ?_
    rintro e w7 ⟨rfl, hb7⟩
    simp only [World.size_alloc] at hb7
    have hB7 : Below w.heap.size w w7 := (hB6.alloc (by omega) _).trans (hb7.mono (by omega))
    clear hb7 hB6 hT6 HR hT
    go_wp2
    go_ret
    exact ⟨rfl, hB7⟩
  · have HG : Hid (¬ Good s) := hg
    clear hg
    go_wp2_with fail
    refine (unf_bad s hs HG.out _ (hT5.alloc _)).mono ?_
    rintro e w6 ⟨rfl, hb6⟩
    simp only [World.size_alloc] at hb6
    have hB6 : Below w.heap.size w w6 := (hB5.alloc (by omega) _).trans (hb6.mono (by omega))
    clear hb6 hB5 hT5 HG hT
    go_wp2
    go_ret
    exact ⟨rfl, hB6.alloc hB6.size _⟩

end Go.Proofs.YtdblmheoghhepaaDoor
