/- The document's ledger as plain data: what counts, what it lists, its last commands. -/
import Derived.Test.YtdblmheoghhepaaGreatDoorKPlain
namespace Go.Proofs.YtdblmheoghhepaaGreatDoor
open Go.RowKit

/-- The quantity of a hold, if it counts for a good up to a day. -/
def leftQ (g d : Int) (h : Nat → Int) : Int := if (countsB h && (h 1 == g && decide (h 3 ≤ d))) = true then h 4 else 0
theorem leftQ_eq (g d : Int) : leftQ g d = keepQ g d (-1) := by
  funext h
  have e : (countsB h && (h 1 == g && decide (h 3 ≤ d))) = keepB g d (-1) h := by
    unfold keepB countsB
    have e : decide ((-1 : Int) < 0) = true := by decide
    rw [e]
    cases (h 7 == 1 || h 7 == 2) <;> cases (h 1 == g) <;> cases decide (h 3 ≤ d) <;> rfl
  unfold leftQ keepQ
  rw [e]
/-- The quantity of a hold, if it counts for a channel of a good. -/
def freeQ (g c : Int) (h : Nat → Int) : Int := if (countsB h && (h 1 == g && h 2 == c)) = true then h 4 else 0
theorem leftQ_bd (g d : Int) (h : Nat → Int) (hq : 0 ≤ h 4 ∧ h 4 ≤ 1000000) : 0 ≤ leftQ g d h ∧ leftQ g d h ≤ 1000000 := by unfold leftQ; split <;> omega
theorem freeQ_bd (g c : Int) (h : Nat → Int) (hq : 0 ≤ h 4 ∧ h 4 ≤ 1000000) : 0 ≤ freeQ g c h ∧ freeQ g c h ≤ 1000000 := by unfold freeQ; split <;> omega
theorem free_ch (H : List (Nat → Int)) (g c : Int) : sumL (freeQ g c) H = sumL (chQ c) (counting H g) := by
  induction H with
  | nil => rfl
  | cons x t ih =>
    have e1 : sumL (freeQ g c) (x :: t) = freeQ g c x + sumL (freeQ g c) t := by simp [sumL]
    rw [e1, ih]
    unfold counting
    rw [List.filter_cons]
    by_cases h : (x 1 == g && countsB x) = true
    · rw [if_pos h]
      have e2 : sumL (chQ c) (x :: t.filter fun h => h 1 == g && countsB h) = chQ c x + sumL (chQ c) (t.filter fun h => h 1 == g && countsB h) := by simp [sumL]
      rw [e2]
      congr 1
      simp only [Bool.and_eq_true] at h
      unfold freeQ chQ
      rw [h.1, h.2]
      by_cases e : x 2 = c
      · rw [if_pos (by simp [e]), if_neg (by simp [e])]
      · rw [if_neg (by simp [e]), if_pos e]
    · rw [if_neg h]
      have : freeQ g c x = 0 := by
        unfold freeQ
        rw [if_neg]
        intro hk
        apply h
        simp only [Bool.and_eq_true] at hk ⊢
        exact ⟨hk.2.1, hk.1⟩
      rw [this, Int.zero_add]

/-- What is listed of the first k holds. -/
def someK (H : List (Nat → Int)) (af : Int) (k : Nat) : List (Nat → Int) := (H.take k).drop (fromOf af H.length)
theorem someK_zero (H : List (Nat → Int)) (af : Int) : someK H af 0 = [] := by simp [someK]
theorem someK_yes {H : List (Nat → Int)} {af : Int} {k : Nat} {h : Nat → Int} (hk : H[k]? = some h) (ha : af < (k : Int) + 1) : someK H af (k + 1) = someK H af k ++ [h] := by
  have hl : k < H.length := (List.getElem?_eq_some_iff.1 hk).1
  have hF : fromOf af H.length ≤ k := by unfold fromOf; omega
  unfold someK
  rw [List.take_add_one, hk, Option.toList_some, List.drop_append_of_le_length (by simp; omega)]
theorem someK_no {H : List (Nat → Int)} {af : Int} {k : Nat} (hl : k < H.length) (ha : ¬ af < (k : Int) + 1) : someK H af (k + 1) = someK H af k := by
  have hF : k + 1 ≤ fromOf af H.length := by unfold fromOf; omega
  unfold someK
  rw [List.drop_of_length_le (by simp; omega), List.drop_of_length_le (by simp; omega)]
theorem someK_len (H : List (Nat → Int)) (af : Int) (k : Nat) (hk : k ≤ H.length) : (someK H af k).length = k - fromOf af H.length := by
  unfold someK; simp; omega
theorem someK_all (H : List (Nat → Int)) (af n : Int) (h : ((someK H af H.length).length : Int) ≤ max n 0) : someK H af H.length = cutL H af n := by
  rw [someK_len H af _ (Nat.le_refl _)] at h
  unfold someK cutL
  rw [List.take_length, List.take_of_length_le]
  rw [List.length_drop]
  unfold manyOf
  omega
theorem someK_full (H : List (Nat → Int)) (af n : Int) (k : Nat) (hk : k ≤ H.length) (h : ((someK H af k).length : Int) = max n 0) : someK H af k = cutL H af n := by
  rw [someK_len H af _ hk] at h
  have hF : fromOf af H.length ≤ H.length := by unfold fromOf; omega
  unfold someK cutL
  by_cases h0 : k ≤ fromOf af H.length
  · have e : manyOf n (H.length - fromOf af H.length) = 0 := by unfold manyOf; omega
    rw [e, List.take_zero, List.drop_of_length_le (by simp; omega)]
  · have e : manyOf n (H.length - fromOf af H.length) = k - fromOf af H.length := by unfold manyOf; omega
    rw [e, List.drop_take]

/-! ### The last commands -/
def dAt (D : List (Nat → Int)) (i : Nat) : Nat → Int := (D.reverse[i]?).getD (fun _ => 0)
/-- The last answers A are the rows D, the oldest first. -/
structure DOk (A : Nat → Int) (D : List (Nat → Int)) : Prop where
  len : D.length ≤ 8
  rows : ∀ i j, i < 8 → j < 10 → A (i * 10 + j) = dAt D i j
  kind : ∀ d ∈ D, d 0 ≠ 0
  ids : ∀ (i j : Nat) (d d' : Nat → Int), D.reverse[i]? = some d → D.reverse[j]? = some d' → d 1 = d' 1 → i = j
theorem dok_nil : DOk (fun _ => 0) [] := ⟨by simp, fun _ _ _ _ => (by simp [dAt]), fun _ h => (by cases h), fun _ _ _ _ h => (by simp at h)⟩
theorem rev_at {D : List (Nat → Int)} {i : Nat} {d : Nat → Int} (h : D[i]? = some d) : D.reverse[D.length - 1 - i]? = some d := by
  have hl : i < D.length := (List.getElem?_eq_some_iff.1 h).1
  rw [List.getElem?_reverse (by omega), show D.length - 1 - (D.length - 1 - i) = i by omega, h]
theorem dok_hit {A : Nat → Int} {D : List (Nat → Int)} (h : DOk A D) {i : Nat} {d : Nat → Int} {id : Int} (hd : D[i]? = some d) (h1 : d 1 = id) : ∃ k, hitOf A id = some k ∧ ∀ j, j < 10 → rowA A k j = d j := by
  have hl : i < D.length := (List.getElem?_eq_some_iff.1 hd).1
  have hr := rev_at hd
  have h8 := h.len
  have row : ∀ j, j < 10 → A ((D.length - 1 - i) * 10 + j) = d j := fun j hj => by rw [h.rows _ j (by omega) hj, dAt, hr]; rfl
  refine ⟨D.length - 1 - i, ?_, row⟩
  unfold hitOf
  rw [List.find?_range_eq_some]
  refine ⟨?_, List.mem_range.2 (by omega), fun j hj => ?_⟩
  · unfold hitA
    have a := row 0 (by omega)
    rw [Nat.add_zero] at a
    rw [a, row 1 (by omega), h1]
    simp [h.kind d (List.mem_of_getElem? hd)]
  · unfold hitA
    have a := h.rows j 0 (by omega) (by omega)
    have b := h.rows j 1 (by omega) (by omega)
    rw [Nat.add_zero] at a
    rw [a, b]
    obtain ⟨d', hd'⟩ : ∃ d', D.reverse[j]? = some d' := ⟨D.reverse[j]'(by simp; omega), List.getElem?_eq_getElem _⟩
    have e : dAt D j = d' := by unfold dAt; rw [hd']; rfl
    rw [e]
    by_cases hne : d' 1 = id
    · have := h.ids _ _ _ _ hd' hr (by rw [hne, h1])
      omega
    · simp [hne]
theorem dok_miss {A : Nat → Int} {D : List (Nat → Int)} (h : DOk A D) {id : Int} (hd : ∀ d ∈ D, d 1 ≠ id) : hitOf A id = none := by
  unfold hitOf
  rw [List.find?_eq_none]
  intro k hk
  have hk8 := List.mem_range.1 hk
  have a := h.rows k 0 hk8 (by omega)
  have b := h.rows k 1 hk8 (by omega)
  rw [Nat.add_zero] at a
  unfold hitA
  rw [a, b]
  unfold dAt
  cases e : D.reverse[k]? with
  | none => simp
  | some d =>
    have := hd d (by simpa using List.mem_of_getElem? e)
    simp [this]
/-- One row more, of eight at most. -/
def last8 (D : List (Nat → Int)) (r : Nat → Int) : List (Nat → Int) := if 8 < D.length + 1 then (D ++ [r]).drop 1 else D ++ [r]
theorem last8_rev (D : List (Nat → Int)) (r : Nat → Int) (h : D.length ≤ 8) : (last8 D r).reverse = (r :: D.reverse).take 8 := by
  unfold last8
  split
  · have hl : D.length = 8 := by omega
    rw [List.drop_one, List.tail_append_of_ne_nil (by intro e; rw [e] at hl; cases hl), List.reverse_append]
    simp only [List.reverse_cons, List.reverse_nil, List.nil_append, List.singleton_append, List.take_succ_cons]
    congr 1
    rw [List.take_reverse, hl, ← List.drop_one]
  · rw [List.take_of_length_le (by simp; omega)]
    simp
theorem dok_push {A : Nat → Int} {D : List (Nat → Int)} (h : DOk A D) {r : Nat → Int} (h0 : r 0 ≠ 0) (h1 : ∀ d ∈ D, d 1 ≠ r 1) : DOk (pushA A r) (last8 D r) := by
  have hr := last8_rev D r h.len
  have hl : (last8 D r).length ≤ 8 := by
    have := congrArg List.length hr
    rw [List.length_reverse, List.length_take] at this
    omega
  have hm : ∀ d ∈ last8 D r, d = r ∨ d ∈ D := fun d hd => by
    unfold last8 at hd
    split at hd
    · have := List.mem_of_mem_drop hd
      simp at this
      exact this.symm
    · simp at hd
      exact hd.symm
  refine ⟨hl, fun i j hi hj => ?_, fun d hd => ?_, fun i j d d' hd hd' e => ?_⟩
  · unfold dAt
    rw [hr, List.getElem?_take_of_lt hi]
    unfold pushA
    cases i with
    | zero => rw [if_pos (by omega)]; simp
    | succ i =>
      rw [if_neg (by omega), show (i + 1) * 10 + j - 10 = i * 10 + j by omega, h.rows i j (by omega) hj]
      rfl
  · rcases hm d hd with rfl | hd
    · exact h0
    · exact h.kind d hd
  · rw [hr] at hd hd'
    have g : ∀ (i : Nat) (d : Nat → Int), ((r :: D.reverse).take 8)[i]? = some d → (r :: D.reverse)[i]? = some d := fun i d hd => by
      have : i < ((r :: D.reverse).take 8).length := (List.getElem?_eq_some_iff.1 hd).1
      rw [List.length_take] at this
      rwa [List.getElem?_take_of_lt (by omega)] at hd
    have a := g i d hd
    have b := g j d' hd'
    cases i with
    | zero =>
      cases j with
      | zero => rfl
      | succ j =>
        simp at a b
        subst a
        have := h1 d' (by
          have := List.mem_of_getElem? (l := D.reverse) (i := j) (a := d') (by simpa using b)
          simpa using this)
        exact absurd e.symm this
    | succ i =>
      cases j with
      | zero =>
        simp at a b
        subst b
        have := h1 d (by
          have := List.mem_of_getElem? (l := D.reverse) (i := i) (a := d) (by simpa using a)
          simpa using this)
        exact absurd e this
      | succ j =>
        have := h.ids i j d d' (by simpa using a) (by simpa using b) e
        omega

end Go.Proofs.YtdblmheoghhepaaGreatDoor
