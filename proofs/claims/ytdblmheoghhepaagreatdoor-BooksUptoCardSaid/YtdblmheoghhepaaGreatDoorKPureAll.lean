/- Plain mathematics: the code's answers are the document's. -/
import Derived.Test.YtdblmheoghhepaaGreatDoorKFrame
import Derived.Test.YtdblmheoghhepaaGreatDoorKRefFrame
import Derived.Test.YtdblmheoghhepaaGreatDoorKGuess
import Derived.Test.YtdblmheoghhepaaGreatDoorKReadAllB
namespace Go.Proofs.YtdblmheoghhepaaGreatDoor
open Go.RowKit

def pK : Part := ⟨1, 1, 8, 1, 0⟩
def pI : Part := ⟨2, 0, 2147483647, 4, 0⟩
def pG : Part := ⟨4, 0, 3, 1, 0⟩
def pC : Part := ⟨8, 0, 2, 1, 0⟩
def pD : Part := ⟨16, 0, 15, 1, 0⟩
def pQ : Part := ⟨32, 1, 1000000, 4, 0⟩
def pJ : Part := ⟨64, -1000000, 1000000, 4, 2147483648⟩
def pH : Part := ⟨128, 1, 4294967295, 4, 0⟩
def pT : Part := ⟨256, 1, 1000, 2, 0⟩

theorem parts1 : partsL 1 = [pK, pI, pG, pQ] := by kernel_rfl
theorem parts2 : partsL 2 = [pK, pI, pG, pD, pQ] := by kernel_rfl
theorem parts3 : partsL 3 = [pK, pI, pG, pC, pQ] := by kernel_rfl
theorem parts4 : partsL 4 = [pK, pI, pG, pC, pD, pQ, pT] := by kernel_rfl
theorem parts5 : partsL 5 = [pK, pI, pH] := by kernel_rfl
theorem parts6 : partsL 6 = [pK, pI, pH] := by kernel_rfl
theorem parts7 : partsL 7 = [pK, pI, pG, pJ] := by kernel_rfl
theorem parts8 : partsL 8 = [pK, pI, pT] := by kernel_rfl
theorem needsOf_other (k : Int) (h : k < 1 ∨ 8 < k) : needsOf k = 3 := by unfold needsOf; (repeat' split) <;> omega
theorem parts0 (k : Int) (h : k < 1 ∨ 8 < k) : partsL k = [pK, pI] := by
  unfold partsL; rw [needsOf_other k h]; kernel_rfl

theorem kinds (k : Int) : k = 1 ∨ k = 2 ∨ k = 3 ∨ k = 4 ∨ k = 5 ∨ k = 6 ∨ k = 7 ∨ k = 8 ∨ (k < 1 ∨ 8 < k) := by omega

/-- P3: the code's 'Right' is the document's. -/
theorem right_ref (f : Nat → Int) : rightB f = refOk f := by
  rw [Bool.eq_iff_iff]
  rcases kinds (f 0) with h | h | h | h | h | h | h | h | h
  all_goals
    unfold rightB refOk
    first
      | rw [h, parts1]
      | rw [h, parts2]
      | rw [h, parts3]
      | rw [h, parts4]
      | rw [h, parts5]
      | rw [h, parts6]
      | rw [h, parts7]
      | rw [h, parts8]
      | rw [parts0 _ h]
    simp [okAll, takesB, ix, nd, same8, fitsB, needG, needC, needD, needQ, needH, needT, pK, pI, pG, pC, pD, pQ, pJ, pH, pT, h]
    try omega

end Go.Proofs.YtdblmheoghhepaaGreatDoor

/- Plain mathematics: frames. -/
namespace Go.Proofs.YtdblmheoghhepaaGreatDoor
open Go.RowKit

theorem refOk_kind (f : Nat → Int) (h : refOk f = true) : 1 ≤ f 0 ∧ f 0 ≤ 8 := ⟨(refOk_parts f h).1, (refOk_parts f h).2.1⟩

/-- P3: the code's frame is the document's. -/
theorem frame_ref (f : Nat → Int) (h1 : 1 ≤ f 0) (h2 : f 0 ≤ 8) : frameL f = fr8 f (qOf f) := by
  have hk : f 0 = 1 ∨ f 0 = 2 ∨ f 0 = 3 ∨ f 0 = 4 ∨ f 0 = 5 ∨ f 0 = 6 ∨ f 0 = 7 ∨ f 0 = 8 := by omega
  unfold frameL
  rcases hk with h | h | h | h | h | h | h | h
  all_goals
    first
      | rw [h, parts1]
      | rw [h, parts2]
      | rw [h, parts3]
      | rw [h, parts4]
      | rw [h, parts5]
      | rw [h, parts6]
      | rw [h, parts7]
      | rw [h, parts8]
    simp [body, wsum, ix, bytesOf, qOf, fr8, fr7, fr6, fr5, fr4, fr3, fr2, fr1, lowL, needG, needC, needD, needQ, needH, needT, pK, pI, pG, pC, pD, pQ, pJ, pH, pT, h]

/-- A command that is right has numbers that stand in its frame. -/
theorem right_fits (f : Nat → Int) (h : rightB f = true) : ∀ p ∈ partsL (f 0), 0 ≤ f (ix p.need) + p.lift ∧ f (ix p.need) + p.lift ≤ 4294967295 := by
  intro p hp
  have hok : okAll (partsL (f 0)) f = true := by
    unfold rightB at h
    simp only [Bool.and_eq_true] at h
    exact h.1
  have ht : takesB p (f (ix p.need)) = true := by
    unfold okAll at hok
    exact List.all_eq_true.1 hok p hp
  have hm : p ∈ table := (List.mem_filter.1 hp).1
  simp only [takesB, Bool.and_eq_true, decide_eq_true_eq] at ht
  obtain ⟨_, t1, t2⟩ := ht
  simp [table] at hm
  rcases hm with rfl | rfl | rfl | rfl | rfl | rfl | rfl | rfl | rfl <;> simp at t1 t2 ⊢ <;> omega

/- The document's 'guess' over lists. -/
def cutBL (b : Bool) (l : List UInt8) (n : Nat) : Bool := b && decide (n ≤ l.length)
def cutNL (b : Bool) (l : List UInt8) (n : Nat) : Int := if cutBL b l n then num (l.take n) else 0
def cutSL (b : Bool) (l : List UInt8) (n : Nat) : List UInt8 := if cutBL b l n then l.drop n else l
theorem cutB_list (b : Bool) (s : ByteArray) (n : Nat) : cutB b s n = cutBL b s.data.toList n := by simp [cutB, cutBL]
theorem cutN_list (b : Bool) (s : ByteArray) (n : Nat) : cutN b s n = cutNL b s.data.toList n := by
  unfold cutN cutNL; rw [cutB_list, numFrom_zero]
theorem cutS_list (b : Bool) (s : ByteArray) (n : Nat) : (cutS b s n).data.toList = cutSL b s.data.toList n := by
  unfold cutS cutSL; rw [cutB_list]; split
  · exact extract_toList s n
  · rfl
def lK (l : List UInt8) : Int := cutNL true l 1
def lS1 (l : List UInt8) := cutSL true l 1
def lS2 (l : List UInt8) := cutSL true (lS1 l) 4
def lS3 (l : List UInt8) := cutSL (needG (lK l)) (lS2 l) 1
def lS4 (l : List UInt8) := cutSL (needC (lK l)) (lS3 l) 1
def lS5 (l : List UInt8) := cutSL (needD (lK l)) (lS4 l) 1
def lS6 (l : List UInt8) := cutSL (needQ (lK l)) (lS5 l) 4
def lS7 (l : List UInt8) := cutSL (needH (lK l)) (lS6 l) 4
def lQ (l : List UInt8) : Int := if lK l == 7 then cutNL (needQ (lK l)) (lS5 l) 4 - 2147483648 else cutNL (needQ (lK l)) (lS5 l) 4
def guessL (l : List UInt8) : Nat → Int := mkF (lK l) (cutNL true (lS1 l) 4) (cutNL (needG (lK l)) (lS2 l) 1) (cutNL (needC (lK l)) (lS3 l) 1) (cutNL (needD (lK l)) (lS4 l) 1) (lQ l) (cutNL (needH (lK l)) (lS6 l) 4) (cutNL (needT (lK l)) (lS7 l) 2)
theorem guess_list (s : ByteArray) : guessF s = guessL s.data.toList := by
  unfold guessF guessL gQ lQ
  simp only [cutN_list, gS7, gS6, gS5, gS4, gS3, gS2, gS1, gK, cutS_list]
  rfl

end Go.Proofs.YtdblmheoghhepaaGreatDoor

/- Plain mathematics: what is framed is unframed, and the other way. -/
namespace Go.Proofs.YtdblmheoghhepaaGreatDoor
open Go.RowKit

theorem bytes_num (l : List UInt8) : bytesOf (num l) l.length = l.map fun b => (b.toNat : Int) := by
  induction l with
  | nil => rfl
  | cons b t ih =>
    have hb := b.toNat_lt
    simp only [num, List.length_cons, bytesOf, List.map_cons]
    rw [show ((b.toNat : Int) + 256 * num t) % 256 = b.toNat from by omega, show ((b.toNat : Int) + 256 * num t) / 256 = num t from by omega, ih]
theorem bytes_num1 (a : UInt8) : bytesOf (num [a]) 1 = [(a.toNat : Int)] := bytes_num [a]
theorem bytes_num2 (a b : UInt8) : bytesOf (num [a, b]) 2 = [(a.toNat : Int), (b.toNat : Int)] := bytes_num [a, b]
theorem bytes_num4 (a b c d : UInt8) : bytesOf (num [a, b, c, d]) 4 = [(a.toNat : Int), (b.toNat : Int), (c.toNat : Int), (d.toNat : Int)] := bytes_num [a, b, c, d]

def zero8 : Nat → Int := fun _ => 0

theorem key1 (b0 b1 b2 b3 b4 b5 b6 b7 b8 b9 : UInt8) (h : (b0.toNat : Int) = 1) :
    (∀ j, j < 8 → guessL [b0, b1, b2, b3, b4, b5, b6, b7, b8, b9] j = rd [b0, b1, b2, b3, b4, b5, b6, b7, b8, b9] (partsL 1) zero8 j) ∧ body (rd [b0, b1, b2, b3, b4, b5, b6, b7, b8, b9] (partsL 1) zero8) (partsL 1) = [b0, b1, b2, b3, b4, b5, b6, b7, b8, b9].map fun b => (b.toNat : Int) := by
  have hK : lK [b0, b1, b2, b3, b4, b5, b6, b7, b8, b9] = 1 := by simp [lK, cutNL, cutBL, num, h]
  have hN : num [b0] = 1 := by simp [num, h]
  rw [parts1]
  constructor
  · intro j hj
    simp only [guessL, lQ, lS7, lS6, lS5, lS4, lS3, lS2, lS1, hK]
    match j, hj with
    | 0, _ | 1, _ | 2, _ | 3, _ | 4, _ | 5, _ | 6, _ | 7, _ => simp [mkF, cutNL, cutSL, cutBL, needG, needC, needD, needQ, needH, needT, rd, upd, ix, zero8, pK, pI, pG, pQ, hN]
  · simp [body, rd, upd, ix, pK, pI, pG, pQ, bytes_num1, bytes_num4]

theorem key2 (b0 b1 b2 b3 b4 b5 b6 b7 b8 b9 b10 : UInt8) (h : (b0.toNat : Int) = 2) :
    (∀ j, j < 8 → guessL [b0, b1, b2, b3, b4, b5, b6, b7, b8, b9, b10] j = rd [b0, b1, b2, b3, b4, b5, b6, b7, b8, b9, b10] (partsL 2) zero8 j) ∧ body (rd [b0, b1, b2, b3, b4, b5, b6, b7, b8, b9, b10] (partsL 2) zero8) (partsL 2) = [b0, b1, b2, b3, b4, b5, b6, b7, b8, b9, b10].map fun b => (b.toNat : Int) := by
  have hK : lK [b0, b1, b2, b3, b4, b5, b6, b7, b8, b9, b10] = 2 := by simp [lK, cutNL, cutBL, num, h]
  have hN : num [b0] = 2 := by simp [num, h]
  rw [parts2]
  constructor
  · intro j hj
    simp only [guessL, lQ, lS7, lS6, lS5, lS4, lS3, lS2, lS1, hK]
    match j, hj with
    | 0, _ | 1, _ | 2, _ | 3, _ | 4, _ | 5, _ | 6, _ | 7, _ => simp [mkF, cutNL, cutSL, cutBL, needG, needC, needD, needQ, needH, needT, rd, upd, ix, zero8, pK, pI, pG, pD, pQ, hN]
  · simp [body, rd, upd, ix, pK, pI, pG, pD, pQ, bytes_num1, bytes_num4]

theorem key3 (b0 b1 b2 b3 b4 b5 b6 b7 b8 b9 b10 : UInt8) (h : (b0.toNat : Int) = 3) :
    (∀ j, j < 8 → guessL [b0, b1, b2, b3, b4, b5, b6, b7, b8, b9, b10] j = rd [b0, b1, b2, b3, b4, b5, b6, b7, b8, b9, b10] (partsL 3) zero8 j) ∧ body (rd [b0, b1, b2, b3, b4, b5, b6, b7, b8, b9, b10] (partsL 3) zero8) (partsL 3) = [b0, b1, b2, b3, b4, b5, b6, b7, b8, b9, b10].map fun b => (b.toNat : Int) := by
  have hK : lK [b0, b1, b2, b3, b4, b5, b6, b7, b8, b9, b10] = 3 := by simp [lK, cutNL, cutBL, num, h]
  have hN : num [b0] = 3 := by simp [num, h]
  rw [parts3]
  constructor
  · intro j hj
    simp only [guessL, lQ, lS7, lS6, lS5, lS4, lS3, lS2, lS1, hK]
    match j, hj with
    | 0, _ | 1, _ | 2, _ | 3, _ | 4, _ | 5, _ | 6, _ | 7, _ => simp [mkF, cutNL, cutSL, cutBL, needG, needC, needD, needQ, needH, needT, rd, upd, ix, zero8, pK, pI, pG, pC, pQ, hN]
  · simp [body, rd, upd, ix, pK, pI, pG, pC, pQ, bytes_num1, bytes_num4]

theorem key4 (b0 b1 b2 b3 b4 b5 b6 b7 b8 b9 b10 b11 b12 b13 : UInt8) (h : (b0.toNat : Int) = 4) :
    (∀ j, j < 8 → guessL [b0, b1, b2, b3, b4, b5, b6, b7, b8, b9, b10, b11, b12, b13] j = rd [b0, b1, b2, b3, b4, b5, b6, b7, b8, b9, b10, b11, b12, b13] (partsL 4) zero8 j) ∧ body (rd [b0, b1, b2, b3, b4, b5, b6, b7, b8, b9, b10, b11, b12, b13] (partsL 4) zero8) (partsL 4) = [b0, b1, b2, b3, b4, b5, b6, b7, b8, b9, b10, b11, b12, b13].map fun b => (b.toNat : Int) := by
  have hK : lK [b0, b1, b2, b3, b4, b5, b6, b7, b8, b9, b10, b11, b12, b13] = 4 := by simp [lK, cutNL, cutBL, num, h]
  have hN : num [b0] = 4 := by simp [num, h]
  rw [parts4]
  constructor
  · intro j hj
    simp only [guessL, lQ, lS7, lS6, lS5, lS4, lS3, lS2, lS1, hK]
    match j, hj with
    | 0, _ | 1, _ | 2, _ | 3, _ | 4, _ | 5, _ | 6, _ | 7, _ => simp [mkF, cutNL, cutSL, cutBL, needG, needC, needD, needQ, needH, needT, rd, upd, ix, zero8, pK, pI, pG, pC, pD, pQ, pT, hN]
  · simp [body, rd, upd, ix, pK, pI, pG, pC, pD, pQ, pT, bytes_num1, bytes_num2, bytes_num4]

theorem key5 (b0 b1 b2 b3 b4 b5 b6 b7 b8 : UInt8) (h : (b0.toNat : Int) = 5) :
    (∀ j, j < 8 → guessL [b0, b1, b2, b3, b4, b5, b6, b7, b8] j = rd [b0, b1, b2, b3, b4, b5, b6, b7, b8] (partsL 5) zero8 j) ∧ body (rd [b0, b1, b2, b3, b4, b5, b6, b7, b8] (partsL 5) zero8) (partsL 5) = [b0, b1, b2, b3, b4, b5, b6, b7, b8].map fun b => (b.toNat : Int) := by
  have hK : lK [b0, b1, b2, b3, b4, b5, b6, b7, b8] = 5 := by simp [lK, cutNL, cutBL, num, h]
  have hN : num [b0] = 5 := by simp [num, h]
  rw [parts5]
  constructor
  · intro j hj
    simp only [guessL, lQ, lS7, lS6, lS5, lS4, lS3, lS2, lS1, hK]
    match j, hj with
    | 0, _ | 1, _ | 2, _ | 3, _ | 4, _ | 5, _ | 6, _ | 7, _ => simp [mkF, cutNL, cutSL, cutBL, needG, needC, needD, needQ, needH, needT, rd, upd, ix, zero8, pK, pI, pH, hN]
  · simp [body, rd, upd, ix, pK, pI, pH, bytes_num1, bytes_num4]

theorem key6 (b0 b1 b2 b3 b4 b5 b6 b7 b8 : UInt8) (h : (b0.toNat : Int) = 6) :
    (∀ j, j < 8 → guessL [b0, b1, b2, b3, b4, b5, b6, b7, b8] j = rd [b0, b1, b2, b3, b4, b5, b6, b7, b8] (partsL 6) zero8 j) ∧ body (rd [b0, b1, b2, b3, b4, b5, b6, b7, b8] (partsL 6) zero8) (partsL 6) = [b0, b1, b2, b3, b4, b5, b6, b7, b8].map fun b => (b.toNat : Int) := by
  have hK : lK [b0, b1, b2, b3, b4, b5, b6, b7, b8] = 6 := by simp [lK, cutNL, cutBL, num, h]
  have hN : num [b0] = 6 := by simp [num, h]
  rw [parts6]
  constructor
  · intro j hj
    simp only [guessL, lQ, lS7, lS6, lS5, lS4, lS3, lS2, lS1, hK]
    match j, hj with
    | 0, _ | 1, _ | 2, _ | 3, _ | 4, _ | 5, _ | 6, _ | 7, _ => simp [mkF, cutNL, cutSL, cutBL, needG, needC, needD, needQ, needH, needT, rd, upd, ix, zero8, pK, pI, pH, hN]
  · simp [body, rd, upd, ix, pK, pI, pH, bytes_num1, bytes_num4]

theorem key7 (b0 b1 b2 b3 b4 b5 b6 b7 b8 b9 : UInt8) (h : (b0.toNat : Int) = 7) :
    (∀ j, j < 8 → guessL [b0, b1, b2, b3, b4, b5, b6, b7, b8, b9] j = rd [b0, b1, b2, b3, b4, b5, b6, b7, b8, b9] (partsL 7) zero8 j) ∧ body (rd [b0, b1, b2, b3, b4, b5, b6, b7, b8, b9] (partsL 7) zero8) (partsL 7) = [b0, b1, b2, b3, b4, b5, b6, b7, b8, b9].map fun b => (b.toNat : Int) := by
  have hK : lK [b0, b1, b2, b3, b4, b5, b6, b7, b8, b9] = 7 := by simp [lK, cutNL, cutBL, num, h]
  have hN : num [b0] = 7 := by simp [num, h]
  rw [parts7]
  constructor
  · intro j hj
    simp only [guessL, lQ, lS7, lS6, lS5, lS4, lS3, lS2, lS1, hK]
    match j, hj with
    | 0, _ | 1, _ | 2, _ | 3, _ | 4, _ | 5, _ | 6, _ | 7, _ => simp [mkF, cutNL, cutSL, cutBL, needG, needC, needD, needQ, needH, needT, rd, upd, ix, zero8, pK, pI, pG, pJ, hN]
  · simp [body, rd, upd, ix, pK, pI, pG, pJ, bytes_num1, bytes_num4]

theorem key8 (b0 b1 b2 b3 b4 b5 b6 : UInt8) (h : (b0.toNat : Int) = 8) :
    (∀ j, j < 8 → guessL [b0, b1, b2, b3, b4, b5, b6] j = rd [b0, b1, b2, b3, b4, b5, b6] (partsL 8) zero8 j) ∧ body (rd [b0, b1, b2, b3, b4, b5, b6] (partsL 8) zero8) (partsL 8) = [b0, b1, b2, b3, b4, b5, b6].map fun b => (b.toNat : Int) := by
  have hK : lK [b0, b1, b2, b3, b4, b5, b6] = 8 := by simp [lK, cutNL, cutBL, num, h]
  have hN : num [b0] = 8 := by simp [num, h]
  rw [parts8]
  constructor
  · intro j hj
    simp only [guessL, lQ, lS7, lS6, lS5, lS4, lS3, lS2, lS1, hK]
    match j, hj with
    | 0, _ | 1, _ | 2, _ | 3, _ | 4, _ | 5, _ | 6, _ | 7, _ => simp [mkF, cutNL, cutSL, cutBL, needG, needC, needD, needQ, needH, needT, rd, upd, ix, zero8, pK, pI, pT, hN]
  · simp [body, rd, upd, ix, pK, pI, pT, bytes_num1, bytes_num2, bytes_num4]

end Go.Proofs.YtdblmheoghhepaaGreatDoor

/- Plain mathematics: 'Unframe' is the document's. -/
namespace Go.Proofs.YtdblmheoghhepaaGreatDoor
open Go.RowKit

theorem uncons {l : List UInt8} {n : Nat} (h : l.length = n + 1) : ∃ b t, l = b :: t ∧ t.length = n := by
  cases l with
  | nil => simp at h
  | cons b t => exact ⟨b, t, rfl, by simpa using h⟩
theorem wsum1 : wsum (partsL 1) = 10 := by rw [parts1]; rfl
theorem wsum2 : wsum (partsL 2) = 11 := by rw [parts2]; rfl
theorem wsum3 : wsum (partsL 3) = 11 := by rw [parts3]; rfl
theorem wsum4 : wsum (partsL 4) = 14 := by rw [parts4]; rfl
theorem wsum5 : wsum (partsL 5) = 9 := by rw [parts5]; rfl
theorem wsum6 : wsum (partsL 6) = 9 := by rw [parts6]; rfl
theorem wsum7 : wsum (partsL 7) = 10 := by rw [parts7]; rfl
theorem wsum8 : wsum (partsL 8) = 7 := by rw [parts8]; rfl

/-- A list of bytes as long as its kind asks: the document's guess and the code's reading are one, and its frame is the bytes. -/
theorem key (b0 : UInt8) (r : List UInt8) (h1 : 1 ≤ (b0.toNat : Int)) (h2 : (b0.toNat : Int) ≤ 8) (hl : (b0 :: r).length = wsum (partsL (b0.toNat : Int))) :
    (∀ j, j < 8 → guessL (b0 :: r) j = rd (b0 :: r) (partsL (b0.toNat : Int)) zero8 j) ∧ body (rd (b0 :: r) (partsL (b0.toNat : Int)) zero8) (partsL (b0.toNat : Int)) = (b0 :: r).map fun b => (b.toNat : Int) := by
  have hk : (b0.toNat : Int) = 1 ∨ (b0.toNat : Int) = 2 ∨ (b0.toNat : Int) = 3 ∨ (b0.toNat : Int) = 4 ∨ (b0.toNat : Int) = 5 ∨ (b0.toNat : Int) = 6 ∨ (b0.toNat : Int) = 7 ∨ (b0.toNat : Int) = 8 := by omega
  rcases hk with h | h | h | h | h | h | h | h
  · rw [h, wsum1, List.length_cons] at hl
    rw [h]
    have e0 : r.length = 9 := by omega
    obtain ⟨b1, r1, rfl, e1⟩ := uncons (n := 8) e0
    obtain ⟨b2, r2, rfl, e2⟩ := uncons (n := 7) e1
    obtain ⟨b3, r3, rfl, e3⟩ := uncons (n := 6) e2
    obtain ⟨b4, r4, rfl, e4⟩ := uncons (n := 5) e3
    obtain ⟨b5, r5, rfl, e5⟩ := uncons (n := 4) e4
    obtain ⟨b6, r6, rfl, e6⟩ := uncons (n := 3) e5
    obtain ⟨b7, r7, rfl, e7⟩ := uncons (n := 2) e6
    obtain ⟨b8, r8, rfl, e8⟩ := uncons (n := 1) e7
    obtain ⟨b9, r9, rfl, e9⟩ := uncons (n := 0) e8
    have hn : r9 = [] := List.eq_nil_of_length_eq_zero e9
    subst hn
    exact key1 b0 b1 b2 b3 b4 b5 b6 b7 b8 b9 h
  · rw [h, wsum2, List.length_cons] at hl
    rw [h]
    have e0 : r.length = 10 := by omega
    obtain ⟨b1, r1, rfl, e1⟩ := uncons (n := 9) e0
    obtain ⟨b2, r2, rfl, e2⟩ := uncons (n := 8) e1
    obtain ⟨b3, r3, rfl, e3⟩ := uncons (n := 7) e2
    obtain ⟨b4, r4, rfl, e4⟩ := uncons (n := 6) e3
    obtain ⟨b5, r5, rfl, e5⟩ := uncons (n := 5) e4
    obtain ⟨b6, r6, rfl, e6⟩ := uncons (n := 4) e5
    obtain ⟨b7, r7, rfl, e7⟩ := uncons (n := 3) e6
    obtain ⟨b8, r8, rfl, e8⟩ := uncons (n := 2) e7
    obtain ⟨b9, r9, rfl, e9⟩ := uncons (n := 1) e8
    obtain ⟨b10, r10, rfl, e10⟩ := uncons (n := 0) e9
    have hn : r10 = [] := List.eq_nil_of_length_eq_zero e10
    subst hn
    exact key2 b0 b1 b2 b3 b4 b5 b6 b7 b8 b9 b10 h
  · rw [h, wsum3, List.length_cons] at hl
    rw [h]
    have e0 : r.length = 10 := by omega
    obtain ⟨b1, r1, rfl, e1⟩ := uncons (n := 9) e0
    obtain ⟨b2, r2, rfl, e2⟩ := uncons (n := 8) e1
    obtain ⟨b3, r3, rfl, e3⟩ := uncons (n := 7) e2
    obtain ⟨b4, r4, rfl, e4⟩ := uncons (n := 6) e3
    obtain ⟨b5, r5, rfl, e5⟩ := uncons (n := 5) e4
    obtain ⟨b6, r6, rfl, e6⟩ := uncons (n := 4) e5
    obtain ⟨b7, r7, rfl, e7⟩ := uncons (n := 3) e6
    obtain ⟨b8, r8, rfl, e8⟩ := uncons (n := 2) e7
    obtain ⟨b9, r9, rfl, e9⟩ := uncons (n := 1) e8
    obtain ⟨b10, r10, rfl, e10⟩ := uncons (n := 0) e9
    have hn : r10 = [] := List.eq_nil_of_length_eq_zero e10
    subst hn
    exact key3 b0 b1 b2 b3 b4 b5 b6 b7 b8 b9 b10 h
  · rw [h, wsum4, List.length_cons] at hl
    rw [h]
    have e0 : r.length = 13 := by omega
    obtain ⟨b1, r1, rfl, e1⟩ := uncons (n := 12) e0
    obtain ⟨b2, r2, rfl, e2⟩ := uncons (n := 11) e1
    obtain ⟨b3, r3, rfl, e3⟩ := uncons (n := 10) e2
    obtain ⟨b4, r4, rfl, e4⟩ := uncons (n := 9) e3
    obtain ⟨b5, r5, rfl, e5⟩ := uncons (n := 8) e4
    obtain ⟨b6, r6, rfl, e6⟩ := uncons (n := 7) e5
    obtain ⟨b7, r7, rfl, e7⟩ := uncons (n := 6) e6
    obtain ⟨b8, r8, rfl, e8⟩ := uncons (n := 5) e7
    obtain ⟨b9, r9, rfl, e9⟩ := uncons (n := 4) e8
    obtain ⟨b10, r10, rfl, e10⟩ := uncons (n := 3) e9
    obtain ⟨b11, r11, rfl, e11⟩ := uncons (n := 2) e10
    obtain ⟨b12, r12, rfl, e12⟩ := uncons (n := 1) e11
    obtain ⟨b13, r13, rfl, e13⟩ := uncons (n := 0) e12
    have hn : r13 = [] := List.eq_nil_of_length_eq_zero e13
    subst hn
    exact key4 b0 b1 b2 b3 b4 b5 b6 b7 b8 b9 b10 b11 b12 b13 h
  · rw [h, wsum5, List.length_cons] at hl
    rw [h]
    have e0 : r.length = 8 := by omega
    obtain ⟨b1, r1, rfl, e1⟩ := uncons (n := 7) e0
    obtain ⟨b2, r2, rfl, e2⟩ := uncons (n := 6) e1
    obtain ⟨b3, r3, rfl, e3⟩ := uncons (n := 5) e2
    obtain ⟨b4, r4, rfl, e4⟩ := uncons (n := 4) e3
    obtain ⟨b5, r5, rfl, e5⟩ := uncons (n := 3) e4
    obtain ⟨b6, r6, rfl, e6⟩ := uncons (n := 2) e5
    obtain ⟨b7, r7, rfl, e7⟩ := uncons (n := 1) e6
    obtain ⟨b8, r8, rfl, e8⟩ := uncons (n := 0) e7
    have hn : r8 = [] := List.eq_nil_of_length_eq_zero e8
    subst hn
    exact key5 b0 b1 b2 b3 b4 b5 b6 b7 b8 h
  · rw [h, wsum6, List.length_cons] at hl
    rw [h]
    have e0 : r.length = 8 := by omega
    obtain ⟨b1, r1, rfl, e1⟩ := uncons (n := 7) e0
    obtain ⟨b2, r2, rfl, e2⟩ := uncons (n := 6) e1
    obtain ⟨b3, r3, rfl, e3⟩ := uncons (n := 5) e2
    obtain ⟨b4, r4, rfl, e4⟩ := uncons (n := 4) e3
    obtain ⟨b5, r5, rfl, e5⟩ := uncons (n := 3) e4
    obtain ⟨b6, r6, rfl, e6⟩ := uncons (n := 2) e5
    obtain ⟨b7, r7, rfl, e7⟩ := uncons (n := 1) e6
    obtain ⟨b8, r8, rfl, e8⟩ := uncons (n := 0) e7
    have hn : r8 = [] := List.eq_nil_of_length_eq_zero e8
    subst hn
    exact key6 b0 b1 b2 b3 b4 b5 b6 b7 b8 h
  · rw [h, wsum7, List.length_cons] at hl
    rw [h]
    have e0 : r.length = 9 := by omega
    obtain ⟨b1, r1, rfl, e1⟩ := uncons (n := 8) e0
    obtain ⟨b2, r2, rfl, e2⟩ := uncons (n := 7) e1
    obtain ⟨b3, r3, rfl, e3⟩ := uncons (n := 6) e2
    obtain ⟨b4, r4, rfl, e4⟩ := uncons (n := 5) e3
    obtain ⟨b5, r5, rfl, e5⟩ := uncons (n := 4) e4
    obtain ⟨b6, r6, rfl, e6⟩ := uncons (n := 3) e5
    obtain ⟨b7, r7, rfl, e7⟩ := uncons (n := 2) e6
    obtain ⟨b8, r8, rfl, e8⟩ := uncons (n := 1) e7
    obtain ⟨b9, r9, rfl, e9⟩ := uncons (n := 0) e8
    have hn : r9 = [] := List.eq_nil_of_length_eq_zero e9
    subst hn
    exact key7 b0 b1 b2 b3 b4 b5 b6 b7 b8 b9 h
  · rw [h, wsum8, List.length_cons] at hl
    rw [h]
    have e0 : r.length = 6 := by omega
    obtain ⟨b1, r1, rfl, e1⟩ := uncons (n := 5) e0
    obtain ⟨b2, r2, rfl, e2⟩ := uncons (n := 4) e1
    obtain ⟨b3, r3, rfl, e3⟩ := uncons (n := 3) e2
    obtain ⟨b4, r4, rfl, e4⟩ := uncons (n := 2) e3
    obtain ⟨b5, r5, rfl, e5⟩ := uncons (n := 1) e4
    obtain ⟨b6, r6, rfl, e6⟩ := uncons (n := 0) e5
    have hn : r6 = [] := List.eq_nil_of_length_eq_zero e6
    subst hn
    exact key8 b0 b1 b2 b3 b4 b5 b6 h

theorem wsum_bd (k : Int) (h1 : 1 ≤ k) (h2 : k ≤ 8) : 7 ≤ wsum (partsL k) ∧ wsum (partsL k) ≤ 14 := by
  have hk : k = 1 ∨ k = 2 ∨ k = 3 ∨ k = 4 ∨ k = 5 ∨ k = 6 ∨ k = 7 ∨ k = 8 := by omega
  rcases hk with rfl | rfl | rfl | rfl | rfl | rfl | rfl | rfl
  · rw [wsum1]; omega
  · rw [wsum2]; omega
  · rw [wsum3]; omega
  · rw [wsum4]; omega
  · rw [wsum5]; omega
  · rw [wsum6]; omega
  · rw [wsum7]; omega
  · rw [wsum8]; omega

/-- The kind is the first byte. -/
theorem rd_kind (b0 : UInt8) (r : List UInt8) (k : Int) : rd (b0 :: r) (partsL k) zero8 0 = (b0.toNat : Int) := by
  rcases kinds k with rfl | rfl | rfl | rfl | rfl | rfl | rfl | rfl | h
  all_goals
    first
      | rw [parts1]
      | rw [parts2]
      | rw [parts3]
      | rw [parts4]
      | rw [parts5]
      | rw [parts6]
      | rw [parts7]
      | rw [parts8]
      | rw [parts0 _ h]
    simp [rd, upd, ix, pK, pI, pG, pC, pD, pQ, pJ, pH, pT, num]

theorem rd_take (l : List UInt8) (L : List Part) (f : Nat → Int) (m : Nat) (hm : wsum L ≤ m) : rd (l.take m) L f = rd l L f := by
  induction L generalizing l f m with
  | nil => rfl
  | cons p t ih =>
    rw [wsum_cons] at hm
    rw [rd, rd, List.take_take, Nat.min_eq_left (by omega), List.drop_take, ih _ _ (m - p.width) (by omega)]

/-- The eight numbers of a command, and nothing else. -/
def norm (f : Nat → Int) : Nat → Int := mkF (f 0) (f 1) (f 2) (f 3) (f 4) (f 5) (f 6) (f 7)
theorem norm_ok (f : Nat → Int) : refOk (norm f) = refOk f := rfl
theorem norm_fr (f : Nat → Int) : fr8 (norm f) (qOf (norm f)) = fr8 f (qOf f) := rfl
theorem norm_cmd (f : Nat → Int) : cmdV (norm f) = cmdV f := rfl
theorem norm_guess (l : List UInt8) (f : Nat → Int) (h : ∀ j, j < 8 → guessL l j = f j) : guessL l = norm f := by
  have e : guessL l = norm (guessL l) := by
    funext j
    unfold norm guessL
    match j with
    | 0 | 1 | 2 | 3 | 4 | 5 | 6 => rfl
    | j + 7 => rfl
  rw [e]
  unfold norm
  rw [h 0 (by omega), h 1 (by omega), h 2 (by omega), h 3 (by omega), h 4 (by omega), h 5 (by omega), h 6 (by omega), h 7 (by omega)]

end Go.Proofs.YtdblmheoghhepaaGreatDoor
