/- P4: the code's 'Unframe' and the document's answer the same. -/
import Derived.Test.YtdblmheoghhepaaGreatDoorKPureAll
import Derived.Test.YtdblmheoghhepaaGreatDoorKRefUnframe
namespace Go.Proofs.YtdblmheoghhepaaGreatDoor
open Go.RowKit

theorem first_byte (s : ByteArray) (h : 0 < s.size) : s.data.toList = (s[0]'h) :: s.data.toList.drop 1 := by
  have h' : 0 < s.data.toList.length := by simpa using h
  have e := List.drop_eq_getElem_cons (i := 0) (l := s.data.toList) h'
  rw [List.drop_zero] at e
  exact e
theorem second_byte (s : ByteArray) (h : 1 < s.size) : s.data.toList.drop 1 = (s[1]'h) :: s.data.toList.drop 2 := by
  have h' : 1 < s.data.toList.length := by simpa using h
  exact List.drop_eq_getElem_cons (i := 1) (l := s.data.toList) h'

/-- The bytes open with the frame of a right command. -/
def Good (s : ByteArray) : Prop := ∃ h : 2 ≤ s.size, (s[0]'(by omega)).toNat = wsum (partsL ((s[1]'(by omega)).toNat : Int)) ∧ 1 + wsum (partsL ((s[1]'(by omega)).toNat : Int)) ≤ s.size ∧
  rightB (rd (s.data.toList.drop 1) (partsL ((s[1]'(by omega)).toNat : Int)) zero8) = true

theorem ofNat_toNat (b : UInt8) : UInt8.ofNat ((b.toNat : Int)).toNat = b := by simp

/-- What is good, in the document's words. -/
theorem good_kind (s : ByteArray) (h : 2 ≤ s.size) (hr : rightB (rd (s.data.toList.drop 1) (partsL ((s[1]'(by omega)).toNat : Int)) zero8) = true) : 1 ≤ ((s[1]'(by omega)).toNat : Int) ∧ ((s[1]'(by omega)).toNat : Int) ≤ 8 := by
  rw [right_ref] at hr
  have hk := refOk_kind _ hr
  rw [second_byte s (by omega), rd_kind] at hk
  exact hk

theorem piece (s : ByteArray) (n : Nat) : (s.extract 1 (1 + n)).data.toList = (s.data.toList.drop 1).take n := by
  simp only [ByteArray.data_extract, Array.toList_extract, List.extract_eq_take_drop]
  rw [Nat.add_sub_cancel_left]
theorem piece0 (s : ByteArray) (n : Nat) : (s.extract 0 n).data.toList = s.data.toList.take n := by
  simp [ByteArray.data_extract, Array.toList_extract, List.extract_eq_take_drop]

/-- Where a kind asks for just these bytes, guess and reading are one. -/
theorem guess_read (s : ByteArray) (h : 2 ≤ s.size) (h1 : 1 ≤ ((s[1]'(by omega)).toNat : Int)) (h8 : ((s[1]'(by omega)).toNat : Int) ≤ 8) (h0 : (s[0]'(by omega)).toNat = wsum (partsL ((s[1]'(by omega)).toNat : Int))) (hl : 1 + wsum (partsL ((s[1]'(by omega)).toNat : Int)) ≤ s.size) :
    guessF (s.extract 1 (1 + (s[0]'(by omega)).toNat)) = norm (rd (s.data.toList.drop 1) (partsL ((s[1]'(by omega)).toNat : Int)) zero8) ∧
    body (rd (s.data.toList.drop 1) (partsL ((s[1]'(by omega)).toNat : Int)) zero8) (partsL ((s[1]'(by omega)).toNat : Int)) = ((s.data.toList.drop 1).take (s[0]'(by omega)).toNat).map fun b => (b.toNat : Int) := by
  have hw := wsum_bd _ h1 h8
  rw [guess_list, piece]
  have hlen : s.data.toList.length = s.size := by simp
  have e2 := second_byte s (by omega)
  have et : (s.data.toList.drop 1).take (s[0]'(by omega)).toNat = (s[1]'(by omega)) :: (s.data.toList.drop 2).take ((s[0]'(by omega)).toNat - 1) := by
    rw [e2]
    obtain ⟨m, hm⟩ : ∃ m, (s[0]'(by omega)).toNat = m + 1 := ⟨(s[0]'(by omega)).toNat - 1, by omega⟩
    rw [hm, List.take_succ_cons, Nat.add_sub_cancel]
  have hlt : ((s[1]'(by omega)) :: (s.data.toList.drop 2).take ((s[0]'(by omega)).toNat - 1)).length = wsum (partsL ((s[1]'(by omega)).toNat : Int)) := by
    rw [← et, List.length_take, List.length_drop, hlen]; omega
  have hkey := key _ _ h1 h8 hlt
  rw [← et, rd_take _ _ _ _ (by omega)] at hkey
  exact ⟨norm_guess _ _ hkey.1, hkey.2⟩

theorem frame_bytes (s : ByteArray) (h : 2 ≤ s.size) (h1 : 1 ≤ ((s[1]'(by omega)).toNat : Int)) (h8 : ((s[1]'(by omega)).toNat : Int) ≤ 8) (h0 : (s[0]'(by omega)).toNat = wsum (partsL ((s[1]'(by omega)).toNat : Int))) (hl : 1 + wsum (partsL ((s[1]'(by omega)).toNat : Int)) ≤ s.size) :
    strOfNums (frameL (rd (s.data.toList.drop 1) (partsL ((s[1]'(by omega)).toNat : Int)) zero8)) = s.extract 0 (1 + (s[0]'(by omega)).toNat) := by
  have hg := (guess_read s h h1 h8 h0 hl).2
  have e2 := second_byte s (by omega)
  apply ByteArray.ext
  apply Array.toList_inj.1
  rw [strOfNums_data, piece0]
  unfold frameL
  rw [show rd (s.data.toList.drop 1) (partsL ((s[1]'(by omega)).toNat : Int)) zero8 0 = ((s[1]'(by omega)).toNat : Int) from by rw [e2, rd_kind], hg, ← h0]
  rw [List.map_cons, List.map_map, Nat.add_comm]
  conv => rhs; rw [first_byte s (by omega)]
  rw [List.take_succ_cons]
  congr 1
  · exact ofNat_toNat _
  · conv => rhs; rw [← List.map_id ((s.data.toList.drop 1).take (s[0]'(by omega)).toNat)]
    apply List.map_congr_left
    intro b _
    exact ofNat_toNat b

end Go.Proofs.YtdblmheoghhepaaGreatDoor
