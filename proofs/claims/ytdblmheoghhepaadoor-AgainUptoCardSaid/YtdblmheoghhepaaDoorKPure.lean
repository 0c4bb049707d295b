/- Plain mathematics: the code's answers are the document's. -/
import Derived.Test.YtdblmheoghhepaaDoorKFrame
import Derived.Test.YtdblmheoghhepaaDoorKRefFrame
namespace Go.Proofs.YtdblmheoghhepaaDoor
open Go.RowKit

def pK : Part := ⟨1, 1, 8, 1, 0⟩
def pI : Part := ⟨2, 0, 2147483647, 4, 0⟩
def pG : Part := ⟨4, 0, 3, 1, 0⟩
def pC : Part := ⟨8, 0, 2, 1, 0⟩
def pD : Part := ⟨16, 0, 15, 1, 0⟩
def pQ : Part := ⟨32, 1, 1000000, 4, 0⟩
def pJ : Part := ⟨64, -1000000, 1000000, 4, 2147483648⟩
def pH : Part := ⟨128, 1, 4294967295, 4, 0⟩
def pT : Part := ⟨256, 1, 1000, 2, 0⟩

theorem parts1 : partsL 1 = [pK, pI, pG, pQ] := by kernel_rfl
theorem parts2 : partsL 2 = [pK, pI, pG, pD, pQ] := by kernel_rfl
theorem parts3 : partsL 3 = [pK, pI, pG, pC, pQ] := by kernel_rfl
theorem parts4 : partsL 4 = [pK, pI, pG, pC, pD, pQ, pT] := by kernel_rfl
theorem parts5 : partsL 5 = [pK, pI, pH] := by kernel_rfl
theorem parts6 : partsL 6 = [pK, pI, pH] := by kernel_rfl
theorem parts7 : partsL 7 = [pK, pI, pG, pJ] := by kernel_rfl
theorem parts8 : partsL 8 = [pK, pI, pT] := by kernel_rfl
theorem needsOf_other (k : Int) (h : k < 1 ∨ 8 < k) : needsOf k = 3 := by unfold needsOf; (repeat' split) <;> omega
theorem parts0 (k : Int) (h : k < 1 ∨ 8 < k) : partsL k = [pK, pI] := by
  unfold partsL; rw [needsOf_other k h]; kernel_rfl

theorem kinds (k : Int) : k = 1 ∨ k = 2 ∨ k = 3 ∨ k = 4 ∨ k = 5 ∨ k = 6 ∨ k = 7 ∨ k = 8 ∨ (k < 1 ∨ 8 < k) := by omega

/-- P3: the code's 'Right' is the document's. -/
theorem right_ref (f : Nat → Int) : rightB f = refOk f := by
  rw [Bool.eq_iff_iff]
  rcases kinds (f 0) with h | h | h | h | h | h | h | h | h
  all_goals
    unfold rightB refOk
    first
      | rw [h, parts1]
      | rw [h, parts2]
      | rw [h, parts3]
      | rw [h, parts4]
      | rw [h, parts5]
      | rw [h, parts6]
      | rw [h, parts7]
      | rw [h, parts8]
      | rw [parts0 _ h]
    simp [okAll, takesB, ix, nd, same8, fitsB, needG, needC, needD, needQ, needH, needT, pK, pI, pG, pC, pD, pQ, pJ, pH, pT, h]
    try omega

end Go.Proofs.YtdblmheoghhepaaDoor
