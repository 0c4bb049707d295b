/- Whether some bytes may be the first ones of a frame: the document's way, field by field, and the program's are one. -/
import Derived.Test.YtdblmheoghhepaaGreatDoorKReplayAll
namespace Go.Proofs.YtdblmheoghhepaaGreatDoor
open Go.RowKit
set_option maxRecDepth 100000

/-- Is there a number from lo to hi that has N as its m low bytes, of which it may have so many? -/
def fieldN (N : Int) (m size : Nat) (lo hi : Int) : Bool :=
  if m = 0 then true
  else if m = size then decide (lo ≤ N) && decide (N ≤ hi)
  else decide ((if lo - lo % (256 : Int) ^ m + N < lo then lo - lo % (256 : Int) ^ m + N + (256 : Int) ^ m else lo - lo % (256 : Int) ^ m + N) ≤ hi)
def fieldB (l : List UInt8) (size : Nat) (lo hi : Int) : Bool := fieldN (num (l.take size)) (l.take size).length size lo hi

theorem pw1 : (256 : Int) ^ 1 = 256 := by decide
theorem pw2 : (256 : Int) ^ 2 = 65536 := by decide
theorem pw3 : (256 : Int) ^ 3 = 16777216 := by decide
theorem pw4 : (256 : Int) ^ 4 = 4294967296 := by decide

theorem take_bd (l : List UInt8) (n : Nat) : (l.take n).length ≤ n ∧ 0 ≤ num (l.take n) ∧ num (l.take n) < (256 : Int) ^ (l.take n).length := ⟨by simp; omega, num_bd _⟩

theorem fieldP (l : List UInt8) (p : Part) (hp : p ∈ table) (hn : p.need ≠ 64) : fieldB l p.width p.low p.high = canB p (l.take p.width) := by
  obtain ⟨hl, hb⟩ := take_bd l p.width
  unfold fieldB canB
  generalize num (l.take p.width) = N at *
  generalize (l.take p.width).length = m at *
  simp [table] at hp
  rcases hp with rfl | rfl | rfl | rfl | rfl | rfl | rfl | rfl | rfl
  case inr.inr.inr.inr.inr.inr.inl => exact absurd rfl hn
  all_goals
    simp only [Nat.le_iff_lt_or_eq] at hl
    have hc : m = 0 ∨ m = 1 ∨ m = 2 ∨ m = 3 ∨ m = 4 := by omega
    rcases hc with rfl | rfl | rfl | rfl | rfl
  all_goals first | (exfalso; omega) | skip
  all_goals
    try rw [pw1] at hb
    try rw [pw2] at hb
    try rw [pw3] at hb
    try rw [pw4] at hb
    unfold fieldN takesB
    rw [Bool.eq_iff_iff]
    simp [pw1, pw2, pw3, pw4]
    try omega

theorem fieldA (l : List UInt8) : (fieldB l 4 2146483648 2147483647 || fieldB l 4 2147483649 2148483648) = canB ⟨64, -1000000, 1000000, 4, 2147483648⟩ (l.take 4) := by
  obtain ⟨hl, hb⟩ := take_bd l 4
  unfold fieldB canB
  generalize num (l.take 4) = N at *
  generalize (l.take 4).length = m at *
  have hc : m = 0 ∨ m = 1 ∨ m = 2 ∨ m = 3 ∨ m = 4 := by omega
  rcases hc with rfl | rfl | rfl | rfl | rfl
  all_goals
    try rw [pw1] at hb
    try rw [pw2] at hb
    try rw [pw3] at hb
    try rw [pw4] at hb
    unfold fieldN takesB
    rw [Bool.eq_iff_iff]
    simp [pw1, pw2, pw3, pw4]
    try omega

/-- What 'begins' tells of bytes that are no whole frame. -/
def beginsB : List UInt8 → Bool
  | [] => true
  | [b] => widthB (b.toNat : Int)
  | b0 :: b1 :: t => (decide (1 ≤ b1.toNat) && decide (b1.toNat ≤ 8)) && (((b0.toNat : Int) == ((wsum (partsL (b1.toNat : Int)) : Nat) : Int)) && goB t ((partsL (b1.toNat : Int)).drop 1))

theorem canB_kind (b : UInt8) : canB pK [b] = (decide (1 ≤ b.toNat) && decide (b.toNat ≤ 8)) := by
  have := b.toNat_lt
  unfold canB takesB num num pK
  rw [Bool.eq_iff_iff]
  simp
  omega
theorem widthB_pos (n : Int) (h : widthB n = true) : 0 < n := by
  unfold widthB at h
  rw [List.any_eq_true] at h
  obtain ⟨k, _, hk⟩ := h
  have := wsum_pos ((k : Int) + 1)
  simp at hk
  omega
theorem torn_begins (b0 : UInt8) (t : List UInt8) : tornB (b0 :: t) = (decide ((b0 :: t).length < 1 + b0.toNat) && beginsB (b0 :: t)) := by
  match t with
  | [] =>
    show widthB (b0.toNat : Int) = (decide (1 < 1 + b0.toNat) && widthB (b0.toNat : Int))
    cases h : widthB (b0.toNat : Int) with
    | false => simp
    | true =>
      have := widthB_pos _ h
      simp
      omega
  | b1 :: t =>
    obtain ⟨r, hr⟩ := parts_head (b1.toNat : Int)
    have hk := canB_kind b1
    have bt : beginsB (b0 :: b1 :: t) = ((decide (1 ≤ b1.toNat) && decide (b1.toNat ≤ 8)) && (((b0.toNat : Int) == ((wsum (partsL (b1.toNat : Int)) : Nat) : Int)) && goB t ((partsL (b1.toNat : Int)).drop 1))) := rfl
    rw [tornB_two, bt]
    generalize hw : wsum (partsL (b1.toNat : Int)) = W
    rw [hr]
    have e : goB (b1 :: t) (pK :: r) = (canB pK [b1] && goB t r) := rfl
    rw [e, hk, List.drop_one, List.tail_cons]
    by_cases h : (b0.toNat : Int) = (W : Int)
    · have h' : b0.toNat = W := by omega
      rw [h']
      simp
    · have : ((b0.toNat : Int) == (W : Int)) = false := by simpa using h
      rw [this]
      simp

/-- What is a whole frame is not torn. -/
theorem unf_torn (l : List UInt8) (x : (Nat → Int) × Nat) (h : unfL l = some x) : tornB l = false := by
  match l, h with
  | [], h => cases h
  | [b], h => cases h
  | b0 :: b1 :: t, h =>
    rw [unfL_two] at h
    split at h
    · rename_i hc
      rw [tornB_two, decide_eq_false (by have := hc.2.1; omega)]
      simp
    · cases h

end Go.Proofs.YtdblmheoghhepaaGreatDoor
