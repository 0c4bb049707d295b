/- Plain mathematics for the law Back: what is framed is unframed as it was, with anything behind it; what is cut is none. -/
import Derived.Test.YtdblmheoghhepaaGreatDoorKBoth2
namespace Go.Proofs.YtdblmheoghhepaaGreatDoor
open Go.RowKit
set_option maxRecDepth 100000

/-- Numbers as bytes. -/
def bytesU (l : List Int) : List UInt8 := l.map fun n => UInt8.ofNat n.toNat
theorem bytesU_append (a b : List Int) : bytesU (a ++ b) = bytesU a ++ bytesU b := by simp [bytesU]
theorem bytesU_length (a : List Int) : (bytesU a).length = a.length := by simp [bytesU]

theorem num_bytes (n : Int) (k : Nat) (h0 : 0 ≤ n) (h1 : n < (256 : Int) ^ k) : num (bytesU (bytesOf n k)) = n := by
  induction k generalizing n with
  | zero => simp at h1; simp [bytesOf, bytesU, num]; omega
  | succ k ih =>
    rw [Int.pow_succ] at h1
    have e : num (bytesU (bytesOf n (k + 1))) = ((UInt8.ofNat (n % 256).toNat).toNat : Int) + 256 * num (bytesU (bytesOf (n / 256) k)) := rfl
    rw [e, ih (n / 256) (by omega) (by omega)]
    have e2 : ((UInt8.ofNat (n % 256).toNat).toNat : Int) = n % 256 := by
      rw [UInt8.toNat_ofNat']
      omega
    rw [e2]; omega

/-- Each number of a right command fits into its bytes. -/
theorem fits_bytes (F : Nat → Int) (h : rightB F = true) : ∀ p ∈ partsL (F 0), 0 ≤ F (ix p.need) + p.lift ∧ F (ix p.need) + p.lift < (256 : Int) ^ p.width := by
  intro p hp
  have hok : okAll (partsL (F 0)) F = true := by
    unfold rightB at h
    simp only [Bool.and_eq_true] at h
    exact h.1
  have ht : takesB p (F (ix p.need)) = true := by
    unfold okAll at hok
    exact List.all_eq_true.1 hok p hp
  have hm : p ∈ table := (List.mem_filter.1 hp).1
  simp only [takesB, Bool.and_eq_true, decide_eq_true_eq] at ht
  obtain ⟨_, t1, t2⟩ := ht
  simp [table] at hm
  rcases hm with rfl | rfl | rfl | rfl | rfl | rfl | rfl | rfl | rfl <;> simp at t1 t2 ⊢ <;> omega

/-- Reading a body gives its numbers back. -/
theorem rd_body (F : Nat → Int) (L : List Part) (t : List UInt8) (g : Nat → Int) (hf : ∀ p ∈ L, 0 ≤ F (ix p.need) + p.lift ∧ F (ix p.need) + p.lift < (256 : Int) ^ p.width) (j : Nat) :
    rd (bytesU (body F L) ++ t) L g j = if L.any (fun p => ix p.need == j) then F j else g j := by
  induction L generalizing g with
  | nil => simp [rd]
  | cons p r ih =>
    have hp := hf p (by simp)
    have hl : (bytesU (bytesOf (F (ix p.need) + p.lift) p.width)).length = p.width := by rw [bytesU_length, bytesOf_length]
    rw [body, bytesU_append, List.append_assoc, rd, List.drop_left' hl, List.take_left' hl, num_bytes _ _ hp.1 hp.2, ih _ fun q hq => hf q (by simp [hq])]
    rw [show F (ix p.need) + p.lift - p.lift = F (ix p.need) from by omega]
    unfold upd
    by_cases h1 : r.any (fun p => ix p.need == j) = true
    · simp [h1]
    · by_cases h2 : ix p.need = j
      · simp [h1, h2]
      · simp [h1, h2]

theorem parts_head (k : Int) : ∃ r, partsL k = pK :: r := by
  rcases kinds k with rfl | rfl | rfl | rfl | rfl | rfl | rfl | rfl | h
  · exact ⟨_, parts1⟩
  · exact ⟨_, parts2⟩
  · exact ⟨_, parts3⟩
  · exact ⟨_, parts4⟩
  · exact ⟨_, parts5⟩
  · exact ⟨_, parts6⟩
  · exact ⟨_, parts7⟩
  · exact ⟨_, parts8⟩
  · exact ⟨_, parts0 k h⟩

/-- The bytes of a frame with some behind them. -/
theorem frame_list (F : Nat → Int) (tail : ByteArray) : (strOfNums (frameL F) ++ tail).data.toList = UInt8.ofNat (wsum (partsL (F 0))) :: (bytesU (body F (partsL (F 0))) ++ tail.data.toList) := by
  simp [ByteArray.data_append, strOfNums, frameL, bytesU]

theorem same8_at (f g : Nat → Int) (h : same8 f g = true) (j : Nat) (hj : j < 8) : f j = g j := by
  unfold same8 at h
  simp only [Bool.and_eq_true, beq_iff_eq] at h
  obtain ⟨h0, h1, h2, h3, h4, h5, h6, h7⟩ := h
  match j, hj with
  | 0, _ => exact h0
  | 1, _ => exact h1
  | 2, _ => exact h2
  | 3, _ => exact h3
  | 4, _ => exact h4
  | 5, _ => exact h5
  | 6, _ => exact h6
  | 7, _ => exact h7

theorem frame_size (F : Nat → Int) : (strOfNums (frameL F)).size = 1 + wsum (partsL (F 0)) := by
  rw [strOfNums_size]; unfold frameL; rw [List.length_cons, body_length]; omega

/-- What is framed is good, whatever stands behind it, and tells the command. -/
theorem good_frame (F : Nat → Int) (hr : rightB F = true) (tail : ByteArray) :
    ∃ hg : Good (strOfNums (frameL F) ++ tail), cmdV (goodF (strOfNums (frameL F) ++ tail) hg.1) = cmdV F ∧ goodN (strOfNums (frameL F) ++ tail) hg.1 = wsum (partsL (F 0)) := by
  have hk := refOk_kind F (by rw [← right_ref]; exact hr)
  have hw := wsum_bd _ hk.1 hk.2
  have hl := frame_list F tail
  have hfit := fits_bytes F hr
  have hsz : (strOfNums (frameL F) ++ tail).size = 1 + wsum (partsL (F 0)) + tail.size := by rw [ByteArray.size_append, frame_size]
  obtain ⟨s, hs⟩ : ∃ s, s = strOfNums (frameL F) ++ tail := ⟨_, rfl⟩
  rw [← hs] at hl hsz ⊢
  clear hs
  have h2 : 2 ≤ s.size := by omega
  have f1 := first_byte s (by omega)
  rw [hl] at f1
  have e0 : (s[0]'(by omega)) = UInt8.ofNat (wsum (partsL (F 0))) := (List.cons.inj f1).1.symm
  have ed : s.data.toList.drop 1 = bytesU (body F (partsL (F 0))) ++ tail.data.toList := by rw [hl]; rfl
  obtain ⟨r, hpr⟩ := parts_head (F 0)
  have f2 := second_byte s (by omega)
  have hb : bytesU (body F (partsL (F 0))) = UInt8.ofNat (F 0).toNat :: bytesU (body F r) := by
    rw [hpr]
    have hm : F 0 % 256 = F 0 := by omega
    simp [body, pK, ix, bytesOf, bytesU, hm]
  rw [ed, hb, List.cons_append] at f2
  have e1 : (s[1]'(by omega)) = UInt8.ofNat (F 0).toNat := (List.cons.inj f2).1.symm
  have n1 : ((s[1]'(by omega)).toNat : Int) = F 0 := by rw [e1, UInt8.toNat_ofNat']; omega
  have n0 : (s[0]'(by omega)).toNat = wsum (partsL (F 0)) := by rw [e0, UInt8.toNat_ofNat']; omega
  have hrd : ∀ j, j < 8 → rd (s.data.toList.drop 1) (partsL (F 0)) zero8 j = F j := by
    intro j hj
    rw [ed, rd_body F _ _ _ hfit]
    have hs8 : same8 (nd (partsL (F 0)) F) F = true := by
      unfold rightB at hr
      simp only [Bool.and_eq_true] at hr
      exact hr.2
    exact same8_at _ _ hs8 j hj
  have hR : rightB (rd (s.data.toList.drop 1) (partsL (F 0)) zero8) = true := by
    rw [right_ref] at hr ⊢
    rw [← hr]
    unfold refOk
    rw [hrd 0 (by omega), hrd 1 (by omega), hrd 2 (by omega), hrd 3 (by omega), hrd 4 (by omega), hrd 5 (by omega), hrd 6 (by omega), hrd 7 (by omega)]
  refine ⟨⟨h2, by rw [n1]; exact n0, by rw [n1]; omega, by rw [n1]; exact hR⟩, ?_, ?_⟩
  · unfold goodF
    rw [n1]
    simp only [cmdV]
    rw [hrd 0 (by omega), hrd 1 (by omega), hrd 2 (by omega), hrd 3 (by omega), hrd 4 (by omega), hrd 5 (by omega), hrd 6 (by omega), hrd 7 (by omega)]
  · unfold goodN
    rw [n1]

/-- What is cut is none. -/
theorem bad_cut (F : Nat → Int) (hr : rightB F = true) (k : Nat) (hk : k < (strOfNums (frameL F)).size) : ¬ Good ((strOfNums (frameL F)).extract 0 k) := by
  rintro ⟨h2, h0, hl, _⟩
  obtain ⟨hg, _, hn⟩ := good_frame F hr ByteArray.empty
  have hfs := frame_size F
  have hle : k ≤ (strOfNums (frameL F)).size := by omega
  have hsz : ((strOfNums (frameL F)).extract 0 k).size = k := by simp [ByteArray.size_extract]; omega
  have hpc : ((strOfNums (frameL F)).extract 0 k).data.toList = (strOfNums (frameL F)).data.toList.take k := piece0 _ _
  have hlst := frame_list F ByteArray.empty
  have he : strOfNums (frameL F) ++ ByteArray.empty = strOfNums (frameL F) := by simp
  rw [he] at hlst
  have f1 := first_byte ((strOfNums (frameL F)).extract 0 k) (by omega)
  rw [hpc, hlst] at f1
  obtain ⟨m, hm⟩ : ∃ m, k = m + 1 := ⟨k - 1, by omega⟩
  have e0 : (((strOfNums (frameL F)).extract 0 k)[0]'(by omega)) = UInt8.ofNat (wsum (partsL (F 0))) := by
    subst hm
    rw [List.take_succ_cons] at f1
    exact (List.cons.inj f1).1.symm
  have hkd := refOk_kind F (by rw [← right_ref]; exact hr)
  have hw := wsum_bd _ hkd.1 hkd.2
  have n0 : (((strOfNums (frameL F)).extract 0 k)[0]'(by omega)).toNat = wsum (partsL (F 0)) := by rw [e0, UInt8.toNat_ofNat']; omega
  omega

end Go.Proofs.YtdblmheoghhepaaGreatDoor
