/- Plain facts on a ledger's data: its holds, its numbers in another order, sums and least values. -/
import Derived.Test.YtdblmheoghhepaaGreatDoorKDoAll
import Derived.Test.YtdblmheoghhepaaGreatDoorKNew
namespace Go.Proofs.YtdblmheoghhepaaGreatDoor
open Go.RowKit

theorem flat_len (L : List (Nat → Int)) : (L.flatMap hc).length = L.length * 8 := by
  induction L with
  | nil => rfl
  | cons a t ih => rw [List.flatMap_cons, List.length_append, ih, List.length_cons]; simp; omega
theorem flat_close (H : List (Nat → Int)) (k : Nat) (s : Int) (l : List Value) (hl : l.take (H.length * 8) = H.flatMap hc) (hn : H.length * 8 ≤ l.length) : (l.set (k * 8 + 7) (.int .i64 s)).take (H.length * 8) = (closeAt H k s).flatMap hc := by
  apply List.ext_getElem?
  intro i
  by_cases hi : i < H.length * 8
  · have hk : i / 8 < H.length := by omega
    have hj : i % 8 < 8 := by omega
    have ei : i / 8 * 8 + i % 8 = i := by omega
    obtain ⟨x, hx⟩ : ∃ x, H[i / 8]? = some x := ⟨H[i / 8], by simp [hk]⟩
    have f1 := flat8 H (i / 8) x hx (i % 8) hj
    rw [ei, ← hl, List.getElem?_take_of_lt hi] at f1
    have hc' : (closeAt H k s)[i / 8]? = some (if k = i / 8 then setSt x s else x) := by
      unfold closeAt
      rw [List.getElem?_modify, hx]
      simp
    have f2 := flat8 (closeAt H k s) (i / 8) _ hc' (i % 8) hj
    rw [ei] at f2
    rw [List.getElem?_take_of_lt hi, f2, List.getElem?_set]
    by_cases e : k * 8 + 7 = i
    · have e1 : k = i / 8 := by omega
      have e2 : i % 8 = 7 := by omega
      rw [if_pos e, if_pos e1, e2]
      simp [setSt]
      omega
    · rw [if_neg e, f1]
      by_cases e1 : k = i / 8
      · rw [if_pos e1]
        have e2 : i % 8 ≠ 7 := by omega
        simp [setSt, e2]
      · rw [if_neg e1]
  · rw [List.getElem?_eq_none (by simp; omega), List.getElem?_eq_none]
    rw [flat_len]
    simp [closeAt]
    omega
theorem close_close (H : List (Nat → Int)) (k : Nat) (s s' : Int) : closeAt (closeAt H k s) k s' = closeAt H k s' := by
  unfold closeAt
  apply List.ext_getElem?
  intro i
  rw [List.getElem?_modify, List.getElem?_modify, List.getElem?_modify]
  cases H[i]? with
  | none => rfl
  | some x =>
    by_cases e : k = i
    · simp only [e, if_true, Option.map_eq_map, Option.map_some, Option.some.injEq]
      funext j
      unfold setSt
      split <;> rfl
    · simp [e]
/-- The first k holds are expired, if they must be. -/
def expK (now : Int) (H : List (Nat → Int)) (k : Nat) : List (Nat → Int) := (H.take k).map (exp1 now) ++ H.drop k
theorem expK_len (now : Int) (H : List (Nat → Int)) (k : Nat) : (expK now H k).length = H.length := by simp [expK]; omega
theorem expK_zero (now : Int) (H : List (Nat → Int)) : expK now H 0 = H := by simp [expK]
theorem expK_all (now : Int) (H : List (Nat → Int)) : expK now H H.length = expL now H := by simp [expK, expL]
theorem expK_get (now : Int) (H : List (Nat → Int)) (k i : Nat) : (expK now H k)[i]? = (H[i]?).map fun x => if i < k then exp1 now x else x := by
  unfold expK
  by_cases h : i < k
  · by_cases h2 : i < H.length
    · rw [List.getElem?_append_left (by simp; omega), List.getElem?_map, List.getElem?_take_of_lt h]
      simp [h]
    · rw [List.getElem?_eq_none (l := H) (by omega), List.getElem?_eq_none (by simp; omega)]
      rfl
  · by_cases h2 : k ≤ H.length
    · rw [List.getElem?_append_right (by simp; omega), List.getElem?_drop]
      simp only [List.length_map, List.length_take, Nat.min_eq_left h2]
      rw [show k + (i - k) = i by omega]
      simp [h]
    · rw [List.getElem?_eq_none (l := H) (by omega), List.getElem?_eq_none (by simp; omega)]
      rfl
theorem expK_at (now : Int) (H : List (Nat → Int)) (k : Nat) : (expK now H k)[k]? = H[k]? := by
  rw [expK_get]
  cases H[k]? <;> simp
theorem expK_keep (now : Int) (H : List (Nat → Int)) (k : Nat) (x : Nat → Int) (hx : H[k]? = some x) (he : expB now x = false) : expK now H (k + 1) = expK now H k := by
  apply List.ext_getElem?
  intro i
  rw [expK_get, expK_get]
  by_cases e : i = k
  · subst e
    rw [hx]
    simp [exp1, he]
  · have : (i < k + 1) = (i < k) := by simp; omega
    simp only [this]
theorem expK_close (now : Int) (H : List (Nat → Int)) (k : Nat) (x : Nat → Int) (hx : H[k]? = some x) (he : expB now x = true) : expK now H (k + 1) = closeAt (expK now H k) k 4 := by
  apply List.ext_getElem?
  intro i
  unfold closeAt
  rw [List.getElem?_modify, expK_get, expK_get]
  by_cases e : i = k
  · subst e
    rw [hx]
    simp [exp1, he]
  · have : (i < k + 1) = (i < k) := by simp; omega
    have e' : ¬ k = i := fun h => e h.symm
    simp only [this, e', if_false]
    cases H[i]? <;> rfl
/-- The quantity of a hold, if it is asked for. -/
def keepB (good day ch : Int) (h : Nat → Int) : Bool := h 1 == good && (decide (h 3 ≤ day) && ((decide (ch < 0) || h 2 == ch) && (h 7 == 1 || h 7 == 2)))
def keepQ (good day ch : Int) (h : Nat → Int) : Int := if keepB good day ch h = true then h 4 else 0
theorem keepQ_bd (good day ch : Int) (h : Nat → Int) (hq : 0 ≤ h 4 ∧ h 4 ≤ 1000000) : 0 ≤ keepQ good day ch h ∧ keepQ good day ch h ≤ 1000000 := by unfold keepQ; split <;> omega
/-- What is there or planned up to a day, less what is promised up to that. -/
def kLeft (P : Nat → Int) (H : List (Nat → Int)) (g d : Nat) : Int := P g + sumTo (fun k => P (4 + g * 16 + k)) (d + 1) - sumL (keepQ g d (-1)) H
/-- The caller's eighty numbers of a ledger's. -/
def pofG (G : Nat → Int) : Nat → Int := fun k =>
  if k < 4 then G (k * 20) else if k < 68 then G ((k - 4) / 16 * 20 + 1 + (k - 4) % 16) else G ((k - 68) / 3 * 20 + 17 + (k - 68) % 3)
theorem pofG_hand (G : Nat → Int) (g : Nat) (hg : g < 4) : pofG G g = G (g * 20) := by simp [pofG, hg]
theorem pofG_plan (G : Nat → Int) (g d : Nat) (hg : g < 4) (hd : d < 16) : pofG G (4 + g * 16 + d) = G (g * 20 + 1 + d) := by
  unfold pofG
  rw [if_neg (by omega), if_pos (by omega), show (4 + g * 16 + d - 4) / 16 = g by omega, show (4 + g * 16 + d - 4) % 16 = d by omega]
theorem pofG_share (G : Nat → Int) (g c : Nat) (hg : g < 4) (hc : c < 3) : pofG G (68 + g * 3 + c) = G (g * 20 + 17 + c) := by
  unfold pofG
  rw [if_neg (by omega), if_neg (by omega), show (68 + g * 3 + c - 68) / 3 = g by omega, show (68 + g * 3 + c - 68) % 3 = c by omega]
theorem pofG_bd (G : Nat → Int) (h : ∀ k, k < 80 → -1000000000 ≤ G k ∧ G k ≤ 1000000000) : ∀ k, k < 80 → -1000000000 ≤ pofG G k ∧ pofG G k ≤ 1000000000 := fun k hk => by
  unfold pofG
  split
  · exact h _ (by omega)
  · split
    · exact h _ (by omega)
    · exact h _ (by omega)
theorem pofG_upd1 (G : Nat → Int) (g : Nat) (x : Int) (hg : g < 4) : ∀ k, k < 80 → updG (pofG G) g x k = pofG (updG G (g * 20) x) k := fun k hk => by
  unfold updG pofG
  by_cases e : k = g
  · subst e; simp [hg]
  · rw [if_neg e]
    split
    · exact (if_neg (by omega)).symm
    · split
      · exact (if_neg (by omega)).symm
      · exact (if_neg (by omega)).symm
theorem pofG_upd2 (G : Nat → Int) (g d : Nat) (x : Int) (hg : g < 4) (hd : d < 16) : ∀ k, k < 80 → updG (pofG G) (4 + g * 16 + d) x k = pofG (updG G (g * 20 + 1 + d) x) k := fun k hk => by
  by_cases e : k = 4 + g * 16 + d
  · subst e; rw [pofG_plan _ g d hg hd]; simp [updG]
  · unfold updG pofG
    rw [if_neg e]
    split
    · exact (if_neg (by omega)).symm
    · split
      · exact (if_neg (by omega)).symm
      · exact (if_neg (by omega)).symm
theorem pofG_upd3 (G : Nat → Int) (g c : Nat) (x : Int) (hg : g < 4) (hc : c < 3) : ∀ k, k < 80 → updG (pofG G) (68 + g * 3 + c) x k = pofG (updG G (g * 20 + 17 + c) x) k := fun k hk => by
  by_cases e : k = 68 + g * 3 + c
  · subst e; rw [pofG_share _ g c hg hc]; simp [updG]
  · unfold updG pofG
    rw [if_neg e]
    split
    · exact (if_neg (by omega)).symm
    · split
      · exact (if_neg (by omega)).symm
      · exact (if_neg (by omega)).symm
theorem dec_N (S : Led) (f : Nat → Int) (h : (dec S f).E ≠ 0) : (dec S f).N = 0 := by
  unfold dec at h ⊢
  split
  · rfl
  · split
    · rfl
    · split
      · rfl
      · rename_i e1 e2 e3
        rw [if_neg e1, if_neg e2, if_neg e3] at h
        split
        · rename_i e4
          rw [if_pos e4] at h
          unfold promiseD at h ⊢
          split
          · rename_i e5; rw [if_pos e5] at h; exact absurd rfl h
          · rfl
        · split
          · unfold closeD; split <;> rfl
          · split
            · unfold closeD; split <;> rfl
            · unfold tickD; split <;> rfl
/-- The holds stand in their order; their days are days; none is open past its time. -/
structure HOk (now : Int) (H : List (Nat → Int)) : Prop where
  num : ∀ (k : Nat) h, H[k]? = some h → h 0 = (k : Int) + 1
  day : ∀ h ∈ H, h 3 ≤ 15
  ends : ∀ h ∈ H, h 7 = 1 → now < h 6
theorem hok_nil (now : Int) : HOk now [] := ⟨fun _ _ h => by simp at h, fun _ h => (by cases h), fun _ h => (by cases h)⟩
theorem hok_close {now : Int} {H : List (Nat → Int)} (h : HOk now H) (k : Nat) (s : Int) (hs : s ≠ 1) : HOk now (closeAt H k s) := by
  have get : ∀ (j : Nat) y, (closeAt H k s)[j]? = some y → ∃ x, H[j]? = some x ∧ (y = x ∨ y = setSt x s) := fun j y hy => by
    unfold closeAt at hy
    rw [List.getElem?_modify] at hy
    cases e : H[j]? with
    | none => rw [e] at hy; cases hy
    | some x =>
      rw [e] at hy
      simp at hy
      refine ⟨x, rfl, ?_⟩
      split at hy
      · exact Or.inr hy.symm
      · exact Or.inl hy.symm
  refine ⟨fun j y hy => ?_, fun y hy => ?_, fun y hy h7 => ?_⟩
  · obtain ⟨x, hx, rfl | rfl⟩ := get j y hy
    · exact h.num j _ hx
    · exact h.num j x hx
  · obtain ⟨j, hj⟩ := List.getElem?_of_mem hy
    obtain ⟨x, hx, rfl | rfl⟩ := get j y hj
    · exact h.day _ (List.mem_of_getElem? hx)
    · exact h.day x (List.mem_of_getElem? hx)
  · obtain ⟨j, hj⟩ := List.getElem?_of_mem hy
    obtain ⟨x, hx, rfl | rfl⟩ := get j y hj
    · exact h.ends _ (List.mem_of_getElem? hx) h7
    · exact absurd h7 (by simpa [setSt] using hs)
theorem hok_exp {now : Int} {H : List (Nat → Int)} (h : HOk now H) (t : Int) : HOk t (expL t H) := by
  unfold expL
  refine ⟨fun j y hy => ?_, fun y hy => ?_, fun y hy h7 => ?_⟩
  · rw [List.getElem?_map] at hy
    cases e : H[j]? with
    | none => rw [e] at hy; cases hy
    | some x =>
      rw [e] at hy
      simp at hy
      subst hy
      unfold exp1
      split
      · exact h.num j x e
      · exact h.num j x e
  · obtain ⟨x, hx, rfl⟩ := List.mem_map.1 hy
    unfold exp1
    split
    · exact h.day x hx
    · exact h.day x hx
  · obtain ⟨x, hx, rfl⟩ := List.mem_map.1 hy
    unfold exp1 at h7 ⊢
    split at h7
    · simp [setSt] at h7
    · rename_i hb
      rw [if_neg hb]
      simp only [expB, Bool.and_eq_true, beq_iff_eq, decide_eq_true_eq] at hb
      have : ¬ x 6 ≤ t := fun e => hb ⟨h7, e⟩
      omega
theorem hok_dec {S : Led} {f : Nat → Int} (h : HOk S.now S.H) (hr : RightC f) : HOk (dec S f).S.now (dec S f).S.H := by
  have hm : ∀ i q, (moveS S i q).now = S.now ∧ (moveS S i q).H = S.H := fun i q => by unfold moveS; split <;> exact ⟨rfl, rfl⟩
  have hc : ∀ o s, s ≠ 1 → HOk (closeD S o s).S.now (closeD S o s).S.H := fun o s hs => by
    unfold closeD
    split
    · exact hok_close h _ s hs
    · exact h
  cases hr using RightC.kinds with
  | receive g hg e0 e2 e3 e4 q e6 e7 => simp only [dec, e0, true_or, if_true, moveD]; rw [(hm _ _).1, (hm _ _).2]; exact h
  | adjust g hg e0 e2 e3 e4 q e6 e7 => simp only [dec, e0, or_true, if_true, moveD]; rw [(hm _ _).1, (hm _ _).2]; exact h
  | plan g d hg hd e0 e2 e3 e4 q e6 e7 =>
    have e : dec S f = moveD S (g * 20 + 1 + d) (f 5) := by simp [dec, e0, e2, e4]
    rw [e]; simp only [moveD]; rw [(hm _ _).1, (hm _ _).2]; exact h
  | allot g c hg hc e0 e2 e3 e4 q e6 e7 =>
    have e : dec S f = moveD S (g * 20 + 17 + c) (f 5) := by simp [dec, e0, e2, e3]
    rw [e]; simp only [moveD]; rw [(hm _ _).1, (hm _ _).2]; exact h
  | promise g c d hg hc hd e0 e2 e3 e4 q e6 t =>
    have e : dec S f = promiseD S g c d (f 5) (f 7) := by simp [dec, e0, e2, e3, e4]
    rw [e]
    unfold promiseD
    split
    · refine ⟨fun j y hy => ?_, fun y hy => ?_, fun y hy h7 => ?_⟩
      · rcases Nat.lt_or_ge j S.H.length with hj | hj
        · rw [List.getElem?_append_left hj] at hy
          exact h.num j y hy
        · rw [List.getElem?_append_right hj] at hy
          have hj0 : j - S.H.length = 0 := by
            rcases Nat.eq_zero_or_pos (j - S.H.length) with h0 | h0
            · exact h0
            · rw [List.getElem?_eq_none (by simp; omega)] at hy; cases hy
          rw [hj0] at hy
          simp at hy
          subst hy
          show ((S.H.length : Int) + 1) = _
          omega
      · rcases List.mem_append.1 hy with hy | hy
        · exact h.day y hy
        · simp at hy
          subst hy
          show (d : Int) ≤ 15
          omega
      · rcases List.mem_append.1 hy with hy | hy
        · exact h.ends y hy h7
        · simp at hy
          subst hy
          show S.now < S.now + f 7
          omega
    · exact h
  | commit e0 e2 e3 e4 e5 o e7 => simp only [dec, e0]; exact hc _ _ (by decide)
  | release e0 e2 e3 e4 e5 o e7 => simp only [dec, e0]; exact hc _ _ (by decide)
  | tick e0 e2 e3 e4 e5 e6 t =>
    have e : dec S f = tickD S (f 7) := by simp [dec, e0]
    rw [e]
    unfold tickD
    split
    · exact h
    · exact hok_exp h _
/-- A command with an Id that is not among the last. -/
theorem do_dec {S : Led} {f : Nat → Int} (hr : refOk f = true) (hi : hitOf S.A (f 1) = none) :
    (doD S f).E = (dec S f).E ∧ (doD S f).N = (dec S f).N ∧ (doD S f).S.now = (dec S f).S.now ∧ (doD S f).S.G = (dec S f).S.G ∧ (doD S f).S.H = (dec S f).S.H := by
  unfold doD
  rw [if_pos hr, hi]
  by_cases hE : (dec S f).E = 0
  · simp [hE]
  · simp only [hE, if_false, true_and]
    rw [dec_err S f hE]
    exact ⟨rfl, rfl, rfl⟩
theorem sumTo_congr {V W : Nat → Int} (n : Nat) (h : ∀ k, k < n → V k = W k) : sumTo V n = sumTo W n := by
  induction n with
  | zero => rfl
  | succ n ih => simp only [sumTo]; rw [ih fun k hk => h k (by omega), h n (by omega)]
theorem keep_day (H : List (Nat → Int)) (g d : Int) : sumL (keepQ g d (-1)) H = sumL (dayQ d) (counting H g) := by
  induction H with
  | nil => rfl
  | cons x t ih =>
    have e1 : sumL (keepQ g d (-1)) (x :: t) = keepQ g d (-1) x + sumL (keepQ g d (-1)) t := by simp [sumL]
    rw [e1, ih]
    unfold counting
    rw [List.filter_cons]
    by_cases h : (x 1 == g && countsB x) = true
    · rw [if_pos h]
      have e2 : sumL (dayQ d) (x :: t.filter fun h => h 1 == g && countsB h) = dayQ d x + sumL (dayQ d) (t.filter fun h => h 1 == g && countsB h) := by simp [sumL]
      rw [e2]
      congr 1
      simp only [Bool.and_eq_true] at h
      unfold keepQ dayQ keepB
      have h2 : (x 7 == 1 || x 7 == 2) = true := h.2
      rw [h.1, h2]
      by_cases e : x 3 ≤ d
      · rw [if_pos (by simp [e]), if_neg (by omega)]
      · rw [if_neg (by simp [e]), if_pos (by omega)]
    · rw [if_neg h]
      have : keepQ g d (-1) x = 0 := by
        unfold keepQ
        rw [if_neg]
        intro hk
        apply h
        unfold keepB at hk
        simp only [Bool.and_eq_true] at hk ⊢
        exact ⟨hk.1, hk.2.2.2⟩
      rw [this, Int.zero_add]
theorem keep_ch (H : List (Nat → Int)) (g c : Int) (hc : 0 ≤ c) (hd : ∀ h ∈ H, h 3 ≤ 15) : sumL (keepQ g 15 c) H = sumL (chQ c) (counting H g) := by
  induction H with
  | nil => rfl
  | cons x t ih =>
    have e1 : sumL (keepQ g 15 c) (x :: t) = keepQ g 15 c x + sumL (keepQ g 15 c) t := by simp [sumL]
    have h3 := hd x (by simp)
    rw [e1, ih fun h hm => hd h (by simp [hm])]
    unfold counting
    rw [List.filter_cons]
    by_cases h : (x 1 == g && countsB x) = true
    · rw [if_pos h]
      have e2 : sumL (chQ c) (x :: t.filter fun h => h 1 == g && countsB h) = chQ c x + sumL (chQ c) (t.filter fun h => h 1 == g && countsB h) := by simp [sumL]
      rw [e2]
      congr 1
      simp only [Bool.and_eq_true] at h
      unfold keepQ chQ keepB
      have h2 : (x 7 == 1 || x 7 == 2) = true := h.2
      rw [h.1, h2]
      have hn : ¬ c < 0 := by omega
      by_cases e : x 2 = c
      · rw [if_pos (by simp [e, h3]), if_neg (by simp [e])]
      · rw [if_neg (by simp [e, hn]), if_pos e]
    · rw [if_neg h]
      have : keepQ g 15 c x = 0 := by
        unfold keepQ
        rw [if_neg]
        intro hk
        apply h
        unfold keepB at hk
        simp only [Bool.and_eq_true] at hk ⊢
        exact ⟨hk.1, hk.2.2.2⟩
      rw [this, Int.zero_add]
/-- What is left up to a day. -/
def leftS (S : Led) (g d : Nat) : Int := leftV (goodG S.G g) (counting S.H g) d
theorem kLeft_eq (S : Led) (g d : Nat) (hg : g < 4) (hd : d < 16) : kLeft (pofG S.G) S.H g d = leftS S g d := by
  unfold kLeft leftS leftV supV goodG
  rw [keep_day, pofG_hand S.G g hg, sumTo_congr (W := fun k => S.G (g * 20 + (1 + k))) (d + 1) (fun k hk => by
    show pofG S.G (4 + g * 16 + k) = S.G (g * 20 + (1 + k))
    rw [pofG_plan S.G g k hg (by omega), Nat.add_assoc])]
  rfl
theorem leastTo_cons (V : Nat → Int) (n : Nat) : leastTo V (n + 2) = min (V 0) (leastTo (fun k => V (k + 1)) (n + 1)) := by
  induction n with
  | zero =>
    show min (min (V 0) (V 0)) (V 1) = min (V 0) (min (V 1) (V 1))
    omega
  | succ n ih =>
    rw [show leastTo V (n + 1 + 2) = min (leastTo V (n + 2)) (V (n + 2)) from rfl, ih]
    rw [show leastTo (fun k => V (k + 1)) (n + 1 + 1) = min (leastTo (fun k => V (k + 1)) (n + 1)) (V (n + 2)) from rfl]
    omega
/-- The least from a day on, as the caller reckons it, going down. -/
def leastD (S : Led) (g j : Nat) : Int := if j < 16 then atpS S g j else leftS S g 15
theorem leastD_step (S : Led) (g i : Nat) (hi : i < 16) : atpS S g i = min (leftS S g i) (leastD S g (i + 1)) := by
  unfold leastD atpS atpV
  by_cases e : i + 1 < 16
  · rw [if_pos e]
    obtain ⟨m, hm⟩ : ∃ m, 16 - i = m + 2 := ⟨14 - i, by omega⟩
    rw [hm, leastTo_cons, show 16 - (i + 1) = m + 1 by omega]
    have : (fun k => leftV (goodG S.G g) (counting S.H g) (i + (k + 1))) = fun k => leftV (goodG S.G g) (counting S.H g) (i + 1 + k) := by
      funext k
      rw [show i + (k + 1) = i + 1 + k by omega]
    rw [this]
    rfl
  · have e15 : i = 15 := by omega
    subst e15
    rw [if_neg e]
    show min (leftS S g 15) (leftS S g 15) = _
    rfl
theorem freeS_eq (S : Led) (g c : Nat) (hg : g < 4) (hc : c < 3) (hd : ∀ h ∈ S.H, h 3 ≤ 15) : freeS S g c = pofG S.G (68 + g * 3 + c) - sumL (keepQ g 15 c) S.H := by
  unfold freeS freeV goodG
  rw [keep_ch S.H g c (by omega) hd, pofG_share S.G g c hg hc, Nat.add_assoc]
theorem cutL_100 (H : List (Nat → Int)) (h : H.length ≤ 60) : cutL H 0 100 = H := by
  have e1 : fromOf 0 H.length = 0 := by unfold fromOf; omega
  unfold cutL
  rw [e1]
  have e2 : manyOf 100 (H.length - 0) = H.length := by unfold manyOf; omega
  rw [e2]
  simp
theorem ansRow_at (f : Nat → Int) (E N : Int) (j : Nat) (hj : j < 8) : ansRow f E N j = f j := by
  match j, hj with
  | 0, _ | 1, _ | 2, _ | 3, _ | 4, _ | 5, _ | 6, _ | 7, _ => rfl
theorem same8_of {f g : Nat → Int} (h : ∀ j, j < 8 → f j = g j) : same8 f g = true := by
  unfold same8
  rw [h 0 (by omega), h 1 (by omega), h 2 (by omega), h 3 (by omega), h 4 (by omega), h 5 (by omega), h 6 (by omega), h 7 (by omega)]
  simp
theorem same8_to {f g : Nat → Int} (h : same8 f g = true) : ∀ j, j < 8 → f j = g j := by
  unfold same8 at h
  simp only [Bool.and_eq_true, beq_iff_eq] at h
  obtain ⟨a0, a1, a2, a3, a4, a5, a6, a7⟩ := h
  intro j hj
  match j, hj with
  | 0, _ => exact a0
  | 1, _ => exact a1
  | 2, _ => exact a2
  | 3, _ => exact a3
  | 4, _ => exact a4
  | 5, _ => exact a5
  | 6, _ => exact a6
  | 7, _ => exact a7

end Go.Proofs.YtdblmheoghhepaaGreatDoor
