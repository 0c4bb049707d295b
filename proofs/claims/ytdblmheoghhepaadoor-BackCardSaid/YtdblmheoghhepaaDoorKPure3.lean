/- Plain mathematics: what is framed is unframed, and the other way. -/
import Derived.Test.YtdblmheoghhepaaDoorKPure2
namespace Go.Proofs.YtdblmheoghhepaaDoor
open Go.RowKit

theorem bytes_num (l : List UInt8) : bytesOf (num l) l.length = l.map fun b => (b.toNat : Int) := by
  induction l with
  | nil => rfl
  | cons b t ih =>
    have hb := b.toNat_lt
    simp only [num, List.length_cons, bytesOf, List.map_cons]
    rw [show ((b.toNat : Int) + 256 * num t) % 256 = b.toNat from by omega, show ((b.toNat : Int) + 256 * num t) / 256 = num t from by omega, ih]
theorem bytes_num1 (a : UInt8) : bytesOf (num [a]) 1 = [(a.toNat : Int)] := bytes_num [a]
theorem bytes_num2 (a b : UInt8) : bytesOf (num [a, b]) 2 = [(a.toNat : Int), (b.toNat : Int)] := bytes_num [a, b]
theorem bytes_num4 (a b c d : UInt8) : bytesOf (num [a, b, c, d]) 4 = [(a.toNat : Int), (b.toNat : Int), (c.toNat : Int), (d.toNat : Int)] := bytes_num [a, b, c, d]

def zero8 : Nat → Int := fun _ => 0

theorem key1 (b0 b1 b2 b3 b4 b5 b6 b7 b8 b9 : UInt8) (h : (b0.toNat : Int) = 1) :
    (∀ j, j < 8 → guessL [b0, b1, b2, b3, b4, b5, b6, b7, b8, b9] j = rd [b0, b1, b2, b3, b4, b5, b6, b7, b8, b9] (partsL 1) zero8 j) ∧ body (rd [b0, b1, b2, b3, b4, b5, b6, b7, b8, b9] (partsL 1) zero8) (partsL 1) = [b0, b1, b2, b3, b4, b5, b6, b7, b8, b9].map fun b => (b.toNat : Int) := by
  have hK : lK [b0, b1, b2, b3, b4, b5, b6, b7, b8, b9] = 1 := by simp [lK, cutNL, cutBL, num, h]
  have hN : num [b0] = 1 := by simp [num, h]
  rw [parts1]
  constructor
  · intro j hj
    simp only [guessL, lQ, lS7, lS6, lS5, lS4, lS3, lS2, lS1, hK]
    match j, hj with
    | 0, _ | 1, _ | 2, _ | 3, _ | 4, _ | 5, _ | 6, _ | 7, _ => simp [mkF, cutNL, cutSL, cutBL, needG, needC, needD, needQ, needH, needT, rd, upd, ix, zero8, pK, pI, pG, pQ, hN]
  · simp [body, rd, upd, ix, pK, pI, pG, pQ, bytes_num1, bytes_num4]

theorem key2 (b0 b1 b2 b3 b4 b5 b6 b7 b8 b9 b10 : UInt8) (h : (b0.toNat : Int) = 2) :
    (∀ j, j < 8 → guessL [b0, b1, b2, b3, b4, b5, b6, b7, b8, b9, b10] j = rd [b0, b1, b2, b3, b4, b5, b6, b7, b8, b9, b10] (partsL 2) zero8 j) ∧ body (rd [b0, b1, b2, b3, b4, b5, b6, b7, b8, b9, b10] (partsL 2) zero8) (partsL 2) = [b0, b1, b2, b3, b4, b5, b6, b7, b8, b9, b10].map fun b => (b.toNat : Int) := by
  have hK : lK [b0, b1, b2, b3, b4, b5, b6, b7, b8, b9, b10] = 2 := by simp [lK, cutNL, cutBL, num, h]
  have hN : num [b0] = 2 := by simp [num, h]
  rw [parts2]
  constructor
  · intro j hj
    simp only [guessL, lQ, lS7, lS6, lS5, lS4, lS3, lS2, lS1, hK]
    match j, hj with
    | 0, _ | 1, _ | 2, _ | 3, _ | 4, _ | 5, _ | 6, _ | 7, _ => simp [mkF, cutNL, cutSL, cutBL, needG, needC, needD, needQ, needH, needT, rd, upd, ix, zero8, pK, pI, pG, pD, pQ, hN]
  · simp [body, rd, upd, ix, pK, pI, pG, pD, pQ, bytes_num1, bytes_num4]

theorem key3 (b0 b1 b2 b3 b4 b5 b6 b7 b8 b9 b10 : UInt8) (h : (b0.toNat : Int) = 3) :
    (∀ j, j < 8 → guessL [b0, b1, b2, b3, b4, b5, b6, b7, b8, b9, b10] j = rd [b0, b1, b2, b3, b4, b5, b6, b7, b8, b9, b10] (partsL 3) zero8 j) ∧ body (rd [b0, b1, b2, b3, b4, b5, b6, b7, b8, b9, b10] (partsL 3) zero8) (partsL 3) = [b0, b1, b2, b3, b4, b5, b6, b7, b8, b9, b10].map fun b => (b.toNat : Int) := by
  have hK : lK [b0, b1, b2, b3, b4, b5, b6, b7, b8, b9, b10] = 3 := by simp [lK, cutNL, cutBL, num, h]
  have hN : num [b0] = 3 := by simp [num, h]
  rw [parts3]
  constructor
  · intro j hj
    simp only [guessL, lQ, lS7, lS6, lS5, lS4, lS3, lS2, lS1, hK]
    match j, hj with
    | 0, _ | 1, _ | 2, _ | 3, _ | 4, _ | 5, _ | 6, _ | 7, _ => simp [mkF, cutNL, cutSL, cutBL, needG, needC, needD, needQ, needH, needT, rd, upd, ix, zero8, pK, pI, pG, pC, pQ, hN]
  · simp [body, rd, upd, ix, pK, pI, pG, pC, pQ, bytes_num1, bytes_num4]

theorem key4 (b0 b1 b2 b3 b4 b5 b6 b7 b8 b9 b10 b11 b12 b13 : UInt8) (h : (b0.toNat : Int) = 4) :
    (∀ j, j < 8 → guessL [b0, b1, b2, b3, b4, b5, b6, b7, b8, b9, b10, b11, b12, b13] j = rd [b0, b1, b2, b3, b4, b5, b6, b7, b8, b9, b10, b11, b12, b13] (partsL 4) zero8 j) ∧ body (rd [b0, b1, b2, b3, b4, b5, b6, b7, b8, b9, b10, b11, b12, b13] (partsL 4) zero8) (partsL 4) = [b0, b1, b2, b3, b4, b5, b6, b7, b8, b9, b10, b11, b12, b13].map fun b => (b.toNat : Int) := by
  have hK : lK [b0, b1, b2, b3, b4, b5, b6, b7, b8, b9, b10, b11, b12, b13] = 4 := by simp [lK, cutNL, cutBL, num, h]
  have hN : num [b0] = 4 := by simp [num, h]
  rw [parts4]
  constructor
  · intro j hj
    simp only [guessL, lQ, lS7, lS6, lS5, lS4, lS3, lS2, lS1, hK]
    match j, hj with
    | 0, _ | 1, _ | 2, _ | 3, _ | 4, _ | 5, _ | 6, _ | 7, _ => simp [mkF, cutNL, cutSL, cutBL, needG, needC, needD, needQ, needH, needT, rd, upd, ix, zero8, pK, pI, pG, pC, pD, pQ, pT, hN]
  · simp [body, rd, upd, ix, pK, pI, pG, pC, pD, pQ, pT, bytes_num1, bytes_num2, bytes_num4]

theorem key5 (b0 b1 b2 b3 b4 b5 b6 b7 b8 : UInt8) (h : (b0.toNat : Int) = 5) :
    (∀ j, j < 8 → guessL [b0, b1, b2, b3, b4, b5, b6, b7, b8] j = rd [b0, b1, b2, b3, b4, b5, b6, b7, b8] (partsL 5) zero8 j) ∧ body (rd [b0, b1, b2, b3, b4, b5, b6, b7, b8] (partsL 5) zero8) (partsL 5) = [b0, b1, b2, b3, b4, b5, b6, b7, b8].map fun b => (b.toNat : Int) := by
  have hK : lK [b0, b1, b2, b3, b4, b5, b6, b7, b8] = 5 := by simp [lK, cutNL, cutBL, num, h]
  have hN : num [b0] = 5 := by simp [num, h]
  rw [parts5]
  constructor
  · intro j hj
    simp only [guessL, lQ, lS7, lS6, lS5, lS4, lS3, lS2, lS1, hK]
    match j, hj with
    | 0, _ | 1, _ | 2, _ | 3, _ | 4, _ | 5, _ | 6, _ | 7, _ => simp [mkF, cutNL, cutSL, cutBL, needG, needC, needD, needQ, needH, needT, rd, upd, ix, zero8, pK, pI, pH, hN]
  · simp [body, rd, upd, ix, pK, pI, pH, bytes_num1, bytes_num4]

theorem key6 (b0 b1 b2 b3 b4 b5 b6 b7 b8 : UInt8) (h : (b0.toNat : Int) = 6) :
    (∀ j, j < 8 → guessL [b0, b1, b2, b3, b4, b5, b6, b7, b8] j = rd [b0, b1, b2, b3, b4, b5, b6, b7, b8] (partsL 6) zero8 j) ∧ body (rd [b0, b1, b2, b3, b4, b5, b6, b7, b8] (partsL 6) zero8) (partsL 6) = [b0, b1, b2, b3, b4, b5, b6, b7, b8].map fun b => (b.toNat : Int) := by
  have hK : lK [b0, b1, b2, b3, b4, b5, b6, b7, b8] = 6 := by simp [lK, cutNL, cutBL, num, h]
  have hN : num [b0] = 6 := by simp [num, h]
  rw [parts6]
  constructor
  · intro j hj
    simp only [guessL, lQ, lS7, lS6, lS5, lS4, lS3, lS2, lS1, hK]
    match j, hj with
    | 0, _ | 1, _ | 2, _ | 3, _ | 4, _ | 5, _ | 6, _ | 7, _ => simp [mkF, cutNL, cutSL, cutBL, needG, needC, needD, needQ, needH, needT, rd, upd, ix, zero8, pK, pI, pH, hN]
  · simp [body, rd, upd, ix, pK, pI, pH, bytes_num1, bytes_num4]

theorem key7 (b0 b1 b2 b3 b4 b5 b6 b7 b8 b9 : UInt8) (h : (b0.toNat : Int) = 7) :
    (∀ j, j < 8 → guessL [b0, b1, b2, b3, b4, b5, b6, b7, b8, b9] j = rd [b0, b1, b2, b3, b4, b5, b6, b7, b8, b9] (partsL 7) zero8 j) ∧ body (rd [b0, b1, b2, b3, b4, b5, b6, b7, b8, b9] (partsL 7) zero8) (partsL 7) = [b0, b1, b2, b3, b4, b5, b6, b7, b8, b9].map fun b => (b.toNat : Int) := by
  have hK : lK [b0, b1, b2, b3, b4, b5, b6, b7, b8, b9] = 7 := by simp [lK, cutNL, cutBL, num, h]
  have hN : num [b0] = 7 := by simp [num, h]
  rw [parts7]
  constructor
  · intro j hj
    simp only [guessL, lQ, lS7, lS6, lS5, lS4, lS3, lS2, lS1, hK]
    match j, hj with
    | 0, _ | 1, _ | 2, _ | 3, _ | 4, _ | 5, _ | 6, _ | 7, _ => simp [mkF, cutNL, cutSL, cutBL, needG, needC, needD, needQ, needH, needT, rd, upd, ix, zero8, pK, pI, pG, pJ, hN]
  · simp [body, rd, upd, ix, pK, pI, pG, pJ, bytes_num1, bytes_num4]

theorem key8 (b0 b1 b2 b3 b4 b5 b6 : UInt8) (h : (b0.toNat : Int) = 8) :
    (∀ j, j < 8 → guessL [b0, b1, b2, b3, b4, b5, b6] j = rd [b0, b1, b2, b3, b4, b5, b6] (partsL 8) zero8 j) ∧ body (rd [b0, b1, b2, b3, b4, b5, b6] (partsL 8) zero8) (partsL 8) = [b0, b1, b2, b3, b4, b5, b6].map fun b => (b.toNat : Int) := by
  have hK : lK [b0, b1, b2, b3, b4, b5, b6] = 8 := by simp [lK, cutNL, cutBL, num, h]
  have hN : num [b0] = 8 := by simp [num, h]
  rw [parts8]
  constructor
  · intro j hj
    simp only [guessL, lQ, lS7, lS6, lS5, lS4, lS3, lS2, lS1, hK]
    match j, hj with
    | 0, _ | 1, _ | 2, _ | 3, _ | 4, _ | 5, _ | 6, _ | 7, _ => simp [mkF, cutNL, cutSL, cutBL, needG, needC, needD, needQ, needH, needT, rd, upd, ix, zero8, pK, pI, pT, hN]
  · simp [body, rd, upd, ix, pK, pI, pT, bytes_num1, bytes_num2, bytes_num4]

end Go.Proofs.YtdblmheoghhepaaDoor
