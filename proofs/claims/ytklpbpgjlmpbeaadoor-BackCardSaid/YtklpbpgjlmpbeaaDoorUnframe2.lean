/- 'Unframe' of package command, where the length is right. -/
import Derived.Test.YtklpbpgjlmpbeaaDoorUnframe
namespace Go.Proofs.YtklpbpgjlmpbeaaDoor
open Go.RowKit

/-- What 'Unframe' answers where the length is right. -/
def got3 (b : Bool) (f : Nat → Int) (n : Nat) : Value := if b then .tuple #[cmdV f, .int .i64 (1 + (n : Int)), .int .i64 0] else none3

set_option maxRecDepth 100000 in
set_option maxHeartbeats 1000000 in
theorem unframe_read (s : ByteArray) (w : World) (hT : TabW w) (hs : s.size ≤ maxLen) (h : 2 ≤ s.size) (L : List Part) (hL : partsL ((s[1]'(by omega)).toNat : Int) = L)
    (hm : (((s[0]'(by omega)).toNat : Int) != ((wsum L : Nat) : Int)) = false) (hlen : 1 + wsum L ≤ s.size) :
    Calls Tryd.prog 35 #[.string s] w fun e w' => e = .returned (got3 (rightB (rd (s.data.toList.drop 1) L fun _ => 0)) (rd (s.data.toList.drop 1) L fun _ => 0) (wsum L)) ∧ Below w.heap.size w w' := by
  unfold maxLen at hs
  have hk1 : wrap64 (((s[1]'(by omega)).toNat : Nat) : Int) = (((s[1]'(by omega)).toNat : Nat) : Int) := w64 _ (by have := (s[1]'(by omega)).toNat_lt; omega)
  have hk0 : wrap64 (((s[0]'(by omega)).toNat : Nat) : Int) = (((s[0]'(by omega)).toNat : Nat) : Int) := w64 _ (by have := (s[0]'(by omega)).toNat_lt; omega)
  have hl9 := partsL_len ((s[1]'(by omega)).toNat : Int)
  have hok := partsL_ok ((s[1]'(by omega)).toNat : Int)
  rw [hL] at hl9 hok
  have hw := wsum_le L fun p hp => (hok p hp).1
  have HL : Hid (partsL ((s[1]'(by omega)).toNat : Int) = L) := hL
  clear hL
  have hes : (s.extract 1 s.size).size = s.size - 1 := by simp [ByteArray.size_extract]
  have HX : Hid ((s.extract 1 s.size).data.toList = s.data.toList.drop 1) := extract_toList s 1
  have hsum : wsum L ≤ (s.extract 1 s.size).size := by omega
  have hmx : (s.extract 1 s.size).size ≤ maxLen := by unfold maxLen; omega
  obtain ⟨F, hF⟩ : ∃ F, F = rd (s.data.toList.drop 1) L fun _ => 0 := ⟨_, rfl⟩
  rw [← hF]
  have HF : Hid (F = rd (s.data.toList.drop 1) L fun _ => 0) := hF
  clear hF hes
  go_enter Tryd.func35, Tryd.ntmps35
  go_wp2_with fail
  refine (partsOf_any _ _ (hT.alloc _)).mono ?_
  rw [HL.out]
  rintro e w1 ⟨rfl, hp1, hb1⟩
  simp only [World.size_alloc] at hp1 hb1 ⊢
  go_wp2_with fail
  refine (widthOf_any L _ _ hl9 (fun p hp => (hok p hp).1) hp1).mono ?_
  rintro e w2 ⟨rfl, hb2⟩
  have hz2 := hp1.1
  have hs2 := hb2.size
  have hp2 := hp1.below hb2
  have hb12 := hb1.trans (hb2.mono (by omega))
  clear hp1 hb1 hb2
  go_wp2_with fail
  refine (readAll_any L (w.heap.size + 1) (s.extract 1 s.size) _ hl9 hmx (by omega) hp2 hok hsum).mono ?_
  rw [HX.out, ← HF.out]
  rintro e w3 ⟨rfl, hb3⟩
  have hs3 := hb3.size
  have hb13 := hb12.trans (hb3.mono (by omega))
  have hB3 : Below w.heap.size w w3 := ((Below.refl _ _).alloc (Nat.le_refl _) _).trans (hb13.mono (by omega))
  have hT3 := hT.below hB3 hT.pos
  clear hp2 hb12 hb3 hT hok hsum hmx
  go_wp2_with fail
  refine (right_any F _ (hT3.alloc _)).mono ?_
  rintro e w4 ⟨rfl, hb4⟩
  simp only [World.size_alloc] at hb4
  have hs4 := hb4.size
  simp only [World.size_alloc] at hs4
  have hC4 := (CmdAt.new w3 F 23).below hb4 (by omega)
  have hb14 : Below (w.heap.size + 1) (w.alloc (.cells (cmdC fun _ => 0) 23)) w4 := (hb13.alloc (by omega) _).trans (hb4.mono (by omega))
  obtain ⟨hZ, hF⟩ := zero_new w hb14 (by omega)
  obtain ⟨c0, c1, c2, c3, c4, c5, c6, c7⟩ := hZ.all
  obtain ⟨d0, d1, d2, d3, d4, d5, d6, d7⟩ := hC4.all
  have f0 := hF 0
  have f1 := hF 1
  have f2 := hF 2
  have f3 := hF 3
  have f4 := hF 4
  have f5 := hF 5
  have f6 := hF 6
  have f7 := hF 7
  have hB : Below w.heap.size w w4 := ((Below.refl _ _).alloc (Nat.le_refl _) _).trans (hb14.mono (by omega))
  have ne1 : ¬ w.heap.size = w3.heap.size := by omega
  have ne2 : ¬ w3.heap.size = w.heap.size := by omega
  clear hZ hF hC4 hb4 hb14 hb13 hB3 hT3
  cases hr : rightB F with
  | true =>
    have hE : rightE F = 0 := by simp [rightE, hr]
    rw [hE]
    go_wp2
    refine bodyPost_ret (v := .tuple #[cmdV F, .int .i64 (1 + (wsum L : Int)), .int .i64 0]) (by simp [results, Tryd.results35, go_sem, *]) rfl ⟨by rw [got3, if_pos hr], ?_⟩
    exact below8 hB _ (Nat.le_refl _) _ _ _ _ _ _ _ _
  | false =>
    have hE : rightE F = 1 := by simp [rightE, hr]
    rw [hE]
    go_wp2
    refine bodyPost_ret (v := none3) (by simp [results, Tryd.results35, go_sem, *]) rfl ⟨by rw [got3, if_neg (by rw [hr]; decide)], ?_⟩
    exact below8 hB _ (Nat.le_refl _) _ _ _ _ _ _ _ _

end Go.Proofs.YtklpbpgjlmpbeaaDoor
