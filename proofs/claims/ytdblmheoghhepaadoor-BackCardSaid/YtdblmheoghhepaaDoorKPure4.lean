/- Plain mathematics: 'Unframe' is the document's. -/
import Derived.Test.YtdblmheoghhepaaDoorKPure3
namespace Go.Proofs.YtdblmheoghhepaaDoor
open Go.RowKit

theorem uncons {l : List UInt8} {n : Nat} (h : l.length = n + 1) : ∃ b t, l = b :: t ∧ t.length = n := by
  cases l with
  | nil => simp at h
  | cons b t => exact ⟨b, t, rfl, by simpa using h⟩
theorem wsum1 : wsum (partsL 1) = 10 := by rw [parts1]; rfl
theorem wsum2 : wsum (partsL 2) = 11 := by rw [parts2]; rfl
theorem wsum3 : wsum (partsL 3) = 11 := by rw [parts3]; rfl
theorem wsum4 : wsum (partsL 4) = 14 := by rw [parts4]; rfl
theorem wsum5 : wsum (partsL 5) = 9 := by rw [parts5]; rfl
theorem wsum6 : wsum (partsL 6) = 9 := by rw [parts6]; rfl
theorem wsum7 : wsum (partsL 7) = 10 := by rw [parts7]; rfl
theorem wsum8 : wsum (partsL 8) = 7 := by rw [parts8]; rfl

/-- A list of bytes as long as its kind asks: the document's guess and the code's reading are one, and its frame is the bytes. -/
theorem key (b0 : UInt8) (r : List UInt8) (h1 : 1 ≤ (b0.toNat : Int)) (h2 : (b0.toNat : Int) ≤ 8) (hl : (b0 :: r).length = wsum (partsL (b0.toNat : Int))) :
    (∀ j, j < 8 → guessL (b0 :: r) j = rd (b0 :: r) (partsL (b0.toNat : Int)) zero8 j) ∧ body (rd (b0 :: r) (partsL (b0.toNat : Int)) zero8) (partsL (b0.toNat : Int)) = (b0 :: r).map fun b => (b.toNat : Int) := by
  have hk : (b0.toNat : Int) = 1 ∨ (b0.toNat : Int) = 2 ∨ (b0.toNat : Int) = 3 ∨ (b0.toNat : Int) = 4 ∨ (b0.toNat : Int) = 5 ∨ (b0.toNat : Int) = 6 ∨ (b0.toNat : Int) = 7 ∨ (b0.toNat : Int) = 8 := by omega
  rcases hk with h | h | h | h | h | h | h | h
  · rw [h, wsum1, List.length_cons] at hl
    rw [h]
    have e0 : r.length = 9 := by omega
    obtain ⟨b1, r1, rfl, e1⟩ := uncons (n := 8) e0
    obtain ⟨b2, r2, rfl, e2⟩ := uncons (n := 7) e1
    obtain ⟨b3, r3, rfl, e3⟩ := uncons (n := 6) e2
    obtain ⟨b4, r4, rfl, e4⟩ := uncons (n := 5) e3
    obtain ⟨b5, r5, rfl, e5⟩ := uncons (n := 4) e4
    obtain ⟨b6, r6, rfl, e6⟩ := uncons (n := 3) e5
    obtain ⟨b7, r7, rfl, e7⟩ := uncons (n := 2) e6
    obtain ⟨b8, r8, rfl, e8⟩ := uncons (n := 1) e7
    obtain ⟨b9, r9, rfl, e9⟩ := uncons (n := 0) e8
    have hn : r9 = [] := List.eq_nil_of_length_eq_zero e9
    subst hn
    exact key1 b0 b1 b2 b3 b4 b5 b6 b7 b8 b9 h
  · rw [h, wsum2, List.length_cons] at hl
    rw [h]
    have e0 : r.length = 10 := by omega
    obtain ⟨b1, r1, rfl, e1⟩ := uncons (n := 9) e0
    obtain ⟨b2, r2, rfl, e2⟩ := uncons (n := 8) e1
    obtain ⟨b3, r3, rfl, e3⟩ := uncons (n := 7) e2
    obtain ⟨b4, r4, rfl, e4⟩ := uncons (n := 6) e3
    obtain ⟨b5, r5, rfl, e5⟩ := uncons (n := 5) e4
    obtain ⟨b6, r6, rfl, e6⟩ := uncons (n := 4) e5
    obtain ⟨b7, r7, rfl, e7⟩ := uncons (n := 3) e6
    obtain ⟨b8, r8, rfl, e8⟩ := uncons (n := 2) e7
    obtain ⟨b9, r9, rfl, e9⟩ := uncons (n := 1) e8
    obtain ⟨b10, r10, rfl, e10⟩ := uncons (n := 0) e9
    have hn : r10 = [] := List.eq_nil_of_length_eq_zero e10
    subst hn
    exact key2 b0 b1 b2 b3 b4 b5 b6 b7 b8 b9 b10 h
  · rw [h, wsum3, List.length_cons] at hl
    rw [h]
    have e0 : r.length = 10 := by omega
    obtain ⟨b1, r1, rfl, e1⟩ := uncons (n := 9) e0
    obtain ⟨b2, r2, rfl, e2⟩ := uncons (n := 8) e1
    obtain ⟨b3, r3, rfl, e3⟩ := uncons (n := 7) e2
    obtain ⟨b4, r4, rfl, e4⟩ := uncons (n := 6) e3
    obtain ⟨b5, r5, rfl, e5⟩ := uncons (n := 5) e4
    obtain ⟨b6, r6, rfl, e6⟩ := uncons (n := 4) e5
    obtain ⟨b7, r7, rfl, e7⟩ := uncons (n := 3) e6
    obtain ⟨b8, r8, rfl, e8⟩ := uncons (n := 2) e7
    obtain ⟨b9, r9, rfl, e9⟩ := uncons (n := 1) e8
    obtain ⟨b10, r10, rfl, e10⟩ := uncons (n := 0) e9
    have hn : r10 = [] := List.eq_nil_of_length_eq_zero e10
    subst hn
    exact key3 b0 b1 b2 b3 b4 b5 b6 b7 b8 b9 b10 h
  · rw [h, wsum4, List.length_cons] at hl
    rw [h]
    have e0 : r.length = 13 := by omega
    obtain ⟨b1, r1, rfl, e1⟩ := uncons (n := 12) e0
    obtain ⟨b2, r2, rfl, e2⟩ := uncons (n := 11) e1
    obtain ⟨b3, r3, rfl, e3⟩ := uncons (n := 10) e2
    obtain ⟨b4, r4, rfl, e4⟩ := uncons (n := 9) e3
    obtain ⟨b5, r5, rfl, e5⟩ := uncons (n := 8) e4
    obtain ⟨b6, r6, rfl, e6⟩ := uncons (n := 7) e5
    obtain ⟨b7, r7, rfl, e7⟩ := uncons (n := 6) e6
    obtain ⟨b8, r8, rfl, e8⟩ := uncons (n := 5) e7
    obtain ⟨b9, r9, rfl, e9⟩ := uncons (n := 4) e8
    obtain ⟨b10, r10, rfl, e10⟩ := uncons (n := 3) e9
    obtain ⟨b11, r11, rfl, e11⟩ := uncons (n := 2) e10
    obtain ⟨b12, r12, rfl, e12⟩ := uncons (n := 1) e11
    obtain ⟨b13, r13, rfl, e13⟩ := uncons (n := 0) e12
    have hn : r13 = [] := List.eq_nil_of_length_eq_zero e13
    subst hn
    exact key4 b0 b1 b2 b3 b4 b5 b6 b7 b8 b9 b10 b11 b12 b13 h
  · rw [h, wsum5, List.length_cons] at hl
    rw [h]
    have e0 : r.length = 8 := by omega
    obtain ⟨b1, r1, rfl, e1⟩ := uncons (n := 7) e0
    obtain ⟨b2, r2, rfl, e2⟩ := uncons (n := 6) e1
    obtain ⟨b3, r3, rfl, e3⟩ := uncons (n := 5) e2
    obtain ⟨b4, r4, rfl, e4⟩ := uncons (n := 4) e3
    obtain ⟨b5, r5, rfl, e5⟩ := uncons (n := 3) e4
    obtain ⟨b6, r6, rfl, e6⟩ := uncons (n := 2) e5
    obtain ⟨b7, r7, rfl, e7⟩ := uncons (n := 1) e6
    obtain ⟨b8, r8, rfl, e8⟩ := uncons (n := 0) e7
    have hn : r8 = [] := List.eq_nil_of_length_eq_zero e8
    subst hn
    exact key5 b0 b1 b2 b3 b4 b5 b6 b7 b8 h
  · rw [h, wsum6, List.length_cons] at hl
    rw [h]
    have e0 : r.length = 8 := by omega
    obtain ⟨b1, r1, rfl, e1⟩ := uncons (n := 7) e0
    obtain ⟨b2, r2, rfl, e2⟩ := uncons (n := 6) e1
    obtain ⟨b3, r3, rfl, e3⟩ := uncons (n := 5) e2
    obtain ⟨b4, r4, rfl, e4⟩ := uncons (n := 4) e3
    obtain ⟨b5, r5, rfl, e5⟩ := uncons (n := 3) e4
    obtain ⟨b6, r6, rfl, e6⟩ := uncons (n := 2) e5
    obtain ⟨b7, r7, rfl, e7⟩ := uncons (n := 1) e6
    obtain ⟨b8, r8, rfl, e8⟩ := uncons (n := 0) e7
    have hn : r8 = [] := List.eq_nil_of_length_eq_zero e8
    subst hn
    exact key6 b0 b1 b2 b3 b4 b5 b6 b7 b8 h
  · rw [h, wsum7, List.length_cons] at hl
    rw [h]
    have e0 : r.length = 9 := by omega
    obtain ⟨b1, r1, rfl, e1⟩ := uncons (n := 8) e0
    obtain ⟨b2, r2, rfl, e2⟩ := uncons (n := 7) e1
    obtain ⟨b3, r3, rfl, e3⟩ := uncons (n := 6) e2
    obtain ⟨b4, r4, rfl, e4⟩ := uncons (n := 5) e3
    obtain ⟨b5, r5, rfl, e5⟩ := uncons (n := 4) e4
    obtain ⟨b6, r6, rfl, e6⟩ := uncons (n := 3) e5
    obtain ⟨b7, r7, rfl, e7⟩ := uncons (n := 2) e6
    obtain ⟨b8, r8, rfl, e8⟩ := uncons (n := 1) e7
    obtain ⟨b9, r9, rfl, e9⟩ := uncons (n := 0) e8
    have hn : r9 = [] := List.eq_nil_of_length_eq_zero e9
    subst hn
    exact key7 b0 b1 b2 b3 b4 b5 b6 b7 b8 b9 h
  · rw [h, wsum8, List.length_cons] at hl
    rw [h]
    have e0 : r.length = 6 := by omega
    obtain ⟨b1, r1, rfl, e1⟩ := uncons (n := 5) e0
    obtain ⟨b2, r2, rfl, e2⟩ := uncons (n := 4) e1
    obtain ⟨b3, r3, rfl, e3⟩ := uncons (n := 3) e2
    obtain ⟨b4, r4, rfl, e4⟩ := uncons (n := 2) e3
    obtain ⟨b5, r5, rfl, e5⟩ := uncons (n := 1) e4
    obtain ⟨b6, r6, rfl, e6⟩ := uncons (n := 0) e5
    have hn : r6 = [] := List.eq_nil_of_length_eq_zero e6
    subst hn
    exact key8 b0 b1 b2 b3 b4 b5 b6 h

theorem wsum_bd (k : Int) (h1 : 1 ≤ k) (h2 : k ≤ 8) : 7 ≤ wsum (partsL k) ∧ wsum (partsL k) ≤ 14 := by
  have hk : k = 1 ∨ k = 2 ∨ k = 3 ∨ k = 4 ∨ k = 5 ∨ k = 6 ∨ k = 7 ∨ k = 8 := by omega
  rcases hk with rfl | rfl | rfl | rfl | rfl | rfl | rfl | rfl
  · rw [wsum1]; omega
  · rw [wsum2]; omega
  · rw [wsum3]; omega
  · rw [wsum4]; omega
  · rw [wsum5]; omega
  · rw [wsum6]; omega
  · rw [wsum7]; omega
  · rw [wsum8]; omega

/-- The kind is the first byte. -/
theorem rd_kind (b0 : UInt8) (r : List UInt8) (k : Int) : rd (b0 :: r) (partsL k) zero8 0 = (b0.toNat : Int) := by
  rcases kinds k with rfl | rfl | rfl | rfl | rfl | rfl | rfl | rfl | h
  all_goals
    first
      | rw [parts1]
      | rw [parts2]
      | rw [parts3]
      | rw [parts4]
      | rw [parts5]
      | rw [parts6]
      | rw [parts7]
      | rw [parts8]
      | rw [parts0 _ h]
    simp [rd, upd, ix, pK, pI, pG, pC, pD, pQ, pJ, pH, pT, num]

theorem rd_take (l : List UInt8) (L : List Part) (f : Nat → Int) (m : Nat) (hm : wsum L ≤ m) : rd (l.take m) L f = rd l L f := by
  induction L generalizing l f m with
  | nil => rfl
  | cons p t ih =>
    rw [wsum_cons] at hm
    rw [rd, rd, List.take_take, Nat.min_eq_left (by omega), List.drop_take, ih _ _ (m - p.width) (by omega)]

/-- The eight numbers of a command, and nothing else. -/
def norm (f : Nat → Int) : Nat → Int := mkF (f 0) (f 1) (f 2) (f 3) (f 4) (f 5) (f 6) (f 7)
theorem norm_ok (f : Nat → Int) : refOk (norm f) = refOk f := rfl
theorem norm_fr (f : Nat → Int) : fr8 (norm f) (qOf (norm f)) = fr8 f (qOf f) := rfl
theorem norm_cmd (f : Nat → Int) : cmdV (norm f) = cmdV f := rfl
theorem norm_guess (l : List UInt8) (f : Nat → Int) (h : ∀ j, j < 8 → guessL l j = f j) : guessL l = norm f := by
  have e : guessL l = norm (guessL l) := by
    funext j
    unfold norm guessL
    match j with
    | 0 | 1 | 2 | 3 | 4 | 5 | 6 => rfl
    | j + 7 => rfl
  rw [e]
  unfold norm
  rw [h 0 (by omega), h 1 (by omega), h 2 (by omega), h 3 (by omega), h 4 (by omega), h 5 (by omega), h 6 (by omega), h 7 (by omega)]

end Go.Proofs.YtdblmheoghhepaaDoor
