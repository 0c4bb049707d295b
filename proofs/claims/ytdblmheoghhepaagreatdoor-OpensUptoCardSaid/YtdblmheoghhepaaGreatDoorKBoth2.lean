/- P4: the code's 'Unframe' and the document's answer the same: the calls. -/
import Derived.Test.YtdblmheoghhepaaGreatDoorKBoth
namespace Go.Proofs.YtdblmheoghhepaaGreatDoor
open Go.RowKit

/-- What 'Unframe' tells of good bytes. -/
def goodF (s : ByteArray) (h : 2 ≤ s.size) : Nat → Int := rd (s.data.toList.drop 1) (partsL ((s[1]'(by omega)).toNat : Int)) zero8
def goodN (s : ByteArray) (h : 2 ≤ s.size) : Nat := wsum (partsL ((s[1]'(by omega)).toNat : Int))
abbrev good3 (s : ByteArray) (h : 2 ≤ s.size) : Value := .tuple #[cmdV (goodF s h), .int .i64 (1 + (goodN s h : Int)), .int .i64 0]

theorem code_good (s : ByteArray) (hs : s.size ≤ maxLen) (hg : Good s) (w : World) (hT : TabW w) :
    Calls Tryz.prog 41 #[.string s] w fun e w' => e = .returned (good3 s hg.1) ∧ Below w.heap.size w w' := by
  obtain ⟨h, h0, hl, hr⟩ := hg
  refine (unframe_read s w hT hs h _ rfl (by rw [bne_eq_false_iff_eq]; omega) hl).mono ?_
  rintro e w' ⟨rfl, hb⟩
  have hv : got3 (rightB (goodF s h)) (goodF s h) (goodN s h) = good3 s h := by rw [show rightB (goodF s h) = true from hr]; rfl
  exact ⟨congrArg Ending.returned hv, hb⟩

theorem code_bad (s : ByteArray) (hs : s.size ≤ maxLen) (hg : ¬ Good s) (w : World) (hT : TabW w) :
    Calls Tryz.prog 41 #[.string s] w fun e w' => e = .returned none3 ∧ Below w.heap.size w w' := by
  by_cases h : 2 ≤ s.size
  · by_cases h0 : (s[0]'(by omega)).toNat = wsum (partsL ((s[1]'(by omega)).toNat : Int))
    · by_cases hl : 1 + wsum (partsL ((s[1]'(by omega)).toNat : Int)) ≤ s.size
      · have hr : rightB (rd (s.data.toList.drop 1) (partsL ((s[1]'(by omega)).toNat : Int)) zero8) = false := by
          cases hc : rightB (rd (s.data.toList.drop 1) (partsL ((s[1]'(by omega)).toNat : Int)) zero8) with
          | false => rfl
          | true => exact absurd ⟨h, h0, hl, hc⟩ hg
        refine (unframe_read s w hT hs h _ rfl (by rw [bne_eq_false_iff_eq]; omega) hl).mono ?_
        rintro e w' ⟨rfl, hb⟩
        refine ⟨?_, hb⟩
        rw [show (fun _ => (0 : Int)) = zero8 from rfl, hr]
        rfl
      · exact unframe_wrong s w hT hs h _ rfl (Or.inr ⟨by rw [bne_eq_false_iff_eq]; omega, by omega⟩)
    · exact unframe_wrong s w hT hs h _ rfl (Or.inl (by rw [bne_iff_ne]; omega))
  · exact unframe_short s w hT (by omega)

theorem ref_good (s : ByteArray) (hs : s.size ≤ maxLen) (hg : Good s) (w : World) :
    Calls Tryz.prog 28 #[.string s] w fun e w' => e = .returned (good3 s hg.1) ∧ Below w.heap.size w w' := by
  obtain ⟨h, h0, hl, hr⟩ := hg
  have hk := good_kind s h hr
  have hgr := (guess_read s h hk.1 hk.2 h0 hl).1
  have hfb := frame_bytes s h hk.1 hk.2 h0 hl
  have hrr : refOk (guessF (s.extract 1 (1 + (s[0]'(by omega)).toNat))) = true := by rw [hgr, norm_ok, ← right_ref]; exact hr
  have hk' := refOk_kind _ (by rw [← right_ref]; exact hr)
  refine (refUnframe_right s w hs (by omega) (by omega) _ rfl hrr ?_).mono ?_
  · rw [hgr, norm_fr, ← frame_ref _ hk'.1 hk'.2, hfb]
    exact beq_self_eq_true _
  · rintro e w' ⟨rfl, hb⟩
    refine ⟨?_, hb⟩
    rw [hgr, norm_cmd]
    show _ = Ending.returned (.tuple #[cmdV (goodF s h), .int .i64 (1 + (goodN s h : Int)), .int .i64 0])
    unfold goodN goodF
    rw [← h0]
    rfl

/-- What the document calls right is good. -/
theorem good_of_ref (s : ByteArray) (hp : 0 < s.size) (hl : 1 + (s[0]'hp).toNat ≤ s.size) (hr : refOk (guessF (s.extract 1 (1 + (s[0]'hp).toNat))) = true)
    (he : strOfNums (fr8 (guessF (s.extract 1 (1 + (s[0]'hp).toNat))) (qOf (guessF (s.extract 1 (1 + (s[0]'hp).toNat))))) = s.extract 0 (1 + (s[0]'hp).toNat)) : Good s := by
  have hk := refOk_kind _ hr
  rw [← frame_ref _ hk.1 hk.2] at he
  have hsz := congrArg ByteArray.size he
  have hfl : (frameL (guessF (s.extract 1 (1 + (s[0]'hp).toNat)))).length = 1 + wsum (partsL (guessF (s.extract 1 (1 + (s[0]'hp).toNat)) 0)) := by
    unfold frameL; rw [List.length_cons, body_length]; omega
  have hex : (s.extract 0 (1 + (s[0]'hp).toNat)).size = 1 + (s[0]'hp).toNat := by simp [ByteArray.size_extract]; omega
  rw [strOfNums_size, hfl, hex] at hsz
  have hw := wsum_bd _ hk.1 hk.2
  have h2 : 2 ≤ s.size := by omega
  have hK : guessF (s.extract 1 (1 + (s[0]'hp).toNat)) 0 = ((s[1]'(by omega)).toNat : Int) := by
    rw [guess_list, piece, second_byte s (by omega)]
    obtain ⟨m, hm⟩ : ∃ m, (s[0]'hp).toNat = m + 1 := ⟨(s[0]'hp).toNat - 1, by omega⟩
    rw [hm, List.take_succ_cons]
    simp [guessL, mkF, lK, cutNL, cutBL, num]
  rw [hK] at hk hsz
  refine ⟨h2, by omega, by omega, ?_⟩
  have hgr := (guess_read s h2 hk.1 hk.2 (by omega) (by omega)).1
  rw [hgr, norm_ok, ← right_ref] at hr
  exact hr

theorem ref_bad (s : ByteArray) (hs : s.size ≤ maxLen) (hg : ¬ Good s) (w : World) :
    Calls Tryz.prog 28 #[.string s] w fun e w' => e = .returned none3 ∧ Below w.heap.size w w' := by
  by_cases hp : 0 < s.size
  · by_cases hl : 1 + (s[0]'hp).toNat ≤ s.size
    · cases hr : refOk (guessF (s.extract 1 (1 + (s[0]'hp).toNat))) with
      | false => exact refUnframe_wrong s w hs hp hl _ rfl hr
      | true =>
        refine refUnframe_other s w hs hp hl _ rfl hr ?_
        rw [beq_eq_false_iff_ne]
        intro he
        rw [ByteArray.toList_eq, ByteArray.toList_eq] at he
        exact hg (good_of_ref s hp hl hr (ByteArray.ext (Array.toList_inj.1 he)))
    · exact refUnframe_short s w hp (by omega)
  · exact refUnframe_empty s w (by omega)

end Go.Proofs.YtdblmheoghhepaaGreatDoor
