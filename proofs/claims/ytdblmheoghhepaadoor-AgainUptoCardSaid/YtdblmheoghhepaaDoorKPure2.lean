/- Plain mathematics: frames. -/
import Derived.Test.YtdblmheoghhepaaDoorKPure
import Derived.Test.YtdblmheoghhepaaDoorKGuess
import Derived.Test.YtdblmheoghhepaaDoorKReadAllB
namespace Go.Proofs.YtdblmheoghhepaaDoor
open Go.RowKit

theorem refOk_kind (f : Nat → Int) (h : refOk f = true) : 1 ≤ f 0 ∧ f 0 ≤ 8 := ⟨(refOk_parts f h).1, (refOk_parts f h).2.1⟩

/-- P3: the code's frame is the document's. -/
theorem frame_ref (f : Nat → Int) (h1 : 1 ≤ f 0) (h2 : f 0 ≤ 8) : frameL f = fr8 f (qOf f) := by
  have hk : f 0 = 1 ∨ f 0 = 2 ∨ f 0 = 3 ∨ f 0 = 4 ∨ f 0 = 5 ∨ f 0 = 6 ∨ f 0 = 7 ∨ f 0 = 8 := by omega
  unfold frameL
  rcases hk with h | h | h | h | h | h | h | h
  all_goals
    first
      | rw [h, parts1]
      | rw [h, parts2]
      | rw [h, parts3]
      | rw [h, parts4]
      | rw [h, parts5]
      | rw [h, parts6]
      | rw [h, parts7]
      | rw [h, parts8]
    simp [body, wsum, ix, bytesOf, qOf, fr8, fr7, fr6, fr5, fr4, fr3, fr2, fr1, lowL, needG, needC, needD, needQ, needH, needT, pK, pI, pG, pC, pD, pQ, pJ, pH, pT, h]

/-- A command that is right has numbers that stand in its frame. -/
theorem right_fits (f : Nat → Int) (h : rightB f = true) : ∀ p ∈ partsL (f 0), 0 ≤ f (ix p.need) + p.lift ∧ f (ix p.need) + p.lift ≤ 4294967295 := by
  intro p hp
  have hok : okAll (partsL (f 0)) f = true := by
    unfold rightB at h
    simp only [Bool.and_eq_true] at h
    exact h.1
  have ht : takesB p (f (ix p.need)) = true := by
    unfold okAll at hok
    exact List.all_eq_true.1 hok p hp
  have hm : p ∈ table := (List.mem_filter.1 hp).1
  simp only [takesB, Bool.and_eq_true, decide_eq_true_eq] at ht
  obtain ⟨_, t1, t2⟩ := ht
  simp [table] at hm
  rcases hm with rfl | rfl | rfl | rfl | rfl | rfl | rfl | rfl | rfl <;> simp at t1 t2 ⊢ <;> omega

/- The document's 'guess' over lists. -/
def cutBL (b : Bool) (l : List UInt8) (n : Nat) : Bool := b && decide (n ≤ l.length)
def cutNL (b : Bool) (l : List UInt8) (n : Nat) : Int := if cutBL b l n then num (l.take n) else 0
def cutSL (b : Bool) (l : List UInt8) (n : Nat) : List UInt8 := if cutBL b l n then l.drop n else l
theorem cutB_list (b : Bool) (s : ByteArray) (n : Nat) : cutB b s n = cutBL b s.data.toList n := by simp [cutB, cutBL]
theorem cutN_list (b : Bool) (s : ByteArray) (n : Nat) : cutN b s n = cutNL b s.data.toList n := by
  unfold cutN cutNL; rw [cutB_list, numFrom_zero]
theorem cutS_list (b : Bool) (s : ByteArray) (n : Nat) : (cutS b s n).data.toList = cutSL b s.data.toList n := by
  unfold cutS cutSL; rw [cutB_list]; split
  · exact extract_toList s n
  · rfl
def lK (l : List UInt8) : Int := cutNL true l 1
def lS1 (l : List UInt8) := cutSL true l 1
def lS2 (l : List UInt8) := cutSL true (lS1 l) 4
def lS3 (l : List UInt8) := cutSL (needG (lK l)) (lS2 l) 1
def lS4 (l : List UInt8) := cutSL (needC (lK l)) (lS3 l) 1
def lS5 (l : List UInt8) := cutSL (needD (lK l)) (lS4 l) 1
def lS6 (l : List UInt8) := cutSL (needQ (lK l)) (lS5 l) 4
def lS7 (l : List UInt8) := cutSL (needH (lK l)) (lS6 l) 4
def lQ (l : List UInt8) : Int := if lK l == 7 then cutNL (needQ (lK l)) (lS5 l) 4 - 2147483648 else cutNL (needQ (lK l)) (lS5 l) 4
def guessL (l : List UInt8) : Nat → Int := mkF (lK l) (cutNL true (lS1 l) 4) (cutNL (needG (lK l)) (lS2 l) 1) (cutNL (needC (lK l)) (lS3 l) 1) (cutNL (needD (lK l)) (lS4 l) 1) (lQ l) (cutNL (needH (lK l)) (lS6 l) 4) (cutNL (needT (lK l)) (lS7 l) 2)
theorem guess_list (s : ByteArray) : guessF s = guessL s.data.toList := by
  unfold guessF guessL gQ lQ
  simp only [cutN_list, gS7, gS6, gS5, gS4, gS3, gS2, gS1, gK, cutS_list]
  rfl

end Go.Proofs.YtdblmheoghhepaaDoor
