/- No more is promised than is there or planned: what a command does to it. -/
import Derived.Test.YtdblmheoghhepaaDoorKBoxes
namespace Go.Proofs.YtdblmheoghhepaaDoor
open Go.RowKit

/-- A quantity of the holds of a good that count. -/
def cntQ (g : Int) (q : (Nat → Int) → Int) (h : Nat → Int) : Int := if (h 1 == g && countsB h) = true then q h else 0
theorem sum_count (q : (Nat → Int) → Int) (H : List (Nat → Int)) (g : Int) : sumL q (counting H g) = sumL (cntQ g q) H := by
  induction H with
  | nil => rfl
  | cons x t ih =>
    have e1 : sumL (cntQ g q) (x :: t) = cntQ g q x + sumL (cntQ g q) t := by simp [sumL]
    rw [e1, ← ih]
    unfold counting
    rw [List.filter_cons]
    by_cases h : (x 1 == g && countsB x) = true
    · rw [if_pos h]
      have e2 : sumL q (x :: t.filter fun h => h 1 == g && countsB h) = q x + sumL q (t.filter fun h => h 1 == g && countsB h) := by simp [sumL]
      rw [e2]
      unfold cntQ
      rw [if_pos h]
    · rw [if_neg h]
      unfold cntQ
      rw [if_neg h, Int.zero_add]

/-- A quantity that hangs on neither the state nor the number, and is never below 0. -/
structure Plain (q : (Nat → Int) → Int) : Prop where
  set : ∀ x s, q (setSt x s) = q x
  pos : ∀ x, 0 ≤ x 4 → 0 ≤ q x
theorem plain_day (d : Int) : Plain (dayQ d) := ⟨fun x s => by unfold dayQ; rw [setSt_at x s 3 (by omega), setSt_at x s 4 (by omega)], fun x h => by unfold dayQ; split <;> omega⟩
theorem plain_ch (c : Int) : Plain (chQ c) := ⟨fun x s => by unfold chQ; rw [setSt_at x s 2 (by omega), setSt_at x s 4 (by omega)], fun x h => by unfold chQ; split <;> omega⟩

theorem cnt_set {q : (Nat → Int) → Int} (hq : Plain q) (g : Int) (x : Nat → Int) (s : Int) (h7 : x 7 = 1) (h4 : 0 ≤ x 4) : cntQ g q (setSt x s) ≤ cntQ g q x := by
  unfold cntQ
  rw [hq.set, setSt_at x s 1 (by omega)]
  have hc : countsB x = true := by simp [countsB, h7]
  rw [hc, Bool.and_true]
  have := hq.pos x h4
  by_cases e : (x 1 == g) = true
  · rw [if_pos e]
    split <;> omega
  · rw [if_neg e, if_neg (by simp [e])]
    exact Int.le_refl _

theorem sum_close {q : (Nat → Int) → Int} (hq : Plain q) (g : Int) (H : List (Nat → Int)) (k : Nat) (s : Int) (h7 : ∀ x, H[k]? = some x → x 7 = 1) (h4 : ∀ x ∈ H, 0 ≤ x 4) : sumL (cntQ g q) (closeAt H k s) ≤ sumL (cntQ g q) H := by
  unfold closeAt
  induction H generalizing k with
  | nil => simp
  | cons x t ih =>
    cases k with
    | zero =>
      have h := cnt_set hq g x s (h7 x rfl) (h4 x (by simp))
      simp only [List.modify_zero_cons, sumL, List.map_cons, List.sum_cons]
      omega
    | succ k =>
      have h := ih k (fun y hy => h7 y (by simpa using hy)) (fun y hy => h4 y (by simp [hy]))
      simp only [List.modify_succ_cons, sumL, List.map_cons, List.sum_cons] at h ⊢
      omega
theorem sum_exp {q : (Nat → Int) → Int} (hq : Plain q) (g t : Int) (H : List (Nat → Int)) (h4 : ∀ x ∈ H, 0 ≤ x 4) : sumL (cntQ g q) (expL t H) ≤ sumL (cntQ g q) H := by
  unfold expL
  induction H with
  | nil => simp
  | cons x r ih =>
    have h := ih (fun y hy => h4 y (by simp [hy]))
    have hx : cntQ g q (exp1 t x) ≤ cntQ g q x := by
      unfold exp1
      split
      · rename_i hb
        simp only [expB, Bool.and_eq_true, beq_iff_eq] at hb
        exact cnt_set hq g x 4 hb.1 (h4 x (by simp))
      · exact Int.le_refl _
    simp only [sumL, List.map_cons, List.sum_cons] at h ⊢
    omega
theorem sum_app (q : (Nat → Int) → Int) (H : List (Nat → Int)) (y : Nat → Int) : sumL q (H ++ [y]) = sumL q H + q y := by simp [sumL]

theorem sumTo_mono {V W : Nat → Int} (n : Nat) (h : ∀ k, V k ≤ W k) : sumTo V n ≤ sumTo W n := by
  induction n with
  | zero => exact Int.le_refl _
  | succ n ih => simp only [sumTo]; have := h n; omega

/-- All is covered. -/
def Cov (S : Led) : Prop := ∀ g, g < 4 → (∀ d, d < 16 → 0 ≤ leftS S g d) ∧ (∀ c, c < 3 → 0 ≤ freeS S g c)
theorem cov_zero : Cov S0 := by
  have hs : ∀ n, sumTo (fun _ => (0 : Int)) n = 0 := fun n => by induction n with
    | zero => rfl
    | succ n ih => simp only [sumTo]; omega
  intro g hg
  refine ⟨fun d hd => ?_, fun c hc => ?_⟩
  · show (0 : Int) ≤ 0 + sumTo (fun _ => (0 : Int)) (d + 1) - 0
    rw [hs]; omega
  · show (0 : Int) ≤ 0 - 0
    omega

theorem least_le (V : Nat → Int) (n : Nat) : ∀ k, k < n → leastTo V n ≤ V k := by
  induction n with
  | zero => intro k hk; omega
  | succ n ih =>
    intro k hk
    simp only [leastTo]
    by_cases e : k = n
    · subst e; omega
    · have := ih k (by omega); omega
theorem least_ge (V : Nat → Int) (n : Nat) (B : Int) (hn : 0 < n) (h : ∀ k, k < n → B ≤ V k) : B ≤ leastTo V n := by
  induction n with
  | zero => omega
  | succ n ih =>
    simp only [leastTo]
    have := h n (by omega)
    by_cases e : n = 0
    · subst e; simp only [leastTo]; omega
    · have := ih (by omega) fun k hk => h k (by omega)
      omega
theorem atp_le (S : Led) (g d k : Nat) (h1 : d ≤ k) (h2 : k < 16) : atpS S g d ≤ leftS S g k := by
  have := least_le (fun j => leftV (goodG S.G g) (counting S.H g) (d + j)) (16 - d) (k - d) (by omega)
  unfold atpS atpV leftS
  rwa [show d + (k - d) = k by omega] at this
theorem atp_pos (S : Led) (g d : Nat) (hd : d < 16) (h : ∀ k, k < 16 → 0 ≤ leftS S g k) : 0 ≤ atpS S g d :=
  least_ge _ _ 0 (by omega) fun k hk => h (d + k) (by omega)

theorem left_eq (S : Led) (g d : Nat) : leftS S g d = S.G (g * 20) + sumTo (fun k => S.G (g * 20 + (1 + k))) (d + 1) - sumL (cntQ g (dayQ d)) S.H := by
  unfold leftS leftV supV goodG
  rw [sum_count]
  rfl
theorem free_eq (S : Led) (g c : Nat) : freeS S g c = S.G (g * 20 + (17 + c)) - sumL (cntQ g (chQ c)) S.H := by
  unfold freeS freeV goodG
  rw [sum_count]

theorem cov_G {S S' : Led} (h : Cov S) (hG : ∀ k, S.G k ≤ S'.G k) (hH : S'.H = S.H) : Cov S' := by
  intro g hg
  obtain ⟨h1, h2⟩ := h g hg
  refine ⟨fun d hd => ?_, fun c hc => ?_⟩
  · have := h1 d hd
    rw [left_eq] at this ⊢
    rw [hH]
    have a := hG (g * 20)
    have b := sumTo_mono (V := fun k => S.G (g * 20 + (1 + k))) (W := fun k => S'.G (g * 20 + (1 + k))) (d + 1) (fun k => hG _)
    omega
  · have := h2 c hc
    rw [free_eq] at this ⊢
    rw [hH]
    have a := hG (g * 20 + (17 + c))
    omega
theorem cov_H {S S' : Led} (h : Cov S) (hG : S'.G = S.G) (hH : ∀ g q, Plain q → sumL (cntQ g q) S'.H ≤ sumL (cntQ g q) S.H) : Cov S' := by
  intro g hg
  obtain ⟨h1, h2⟩ := h g hg
  refine ⟨fun d hd => ?_, fun c hc => ?_⟩
  · have := h1 d hd
    rw [left_eq] at this ⊢
    rw [hG]
    have := hH g _ (plain_day d)
    omega
  · have := h2 c hc
    rw [free_eq] at this ⊢
    rw [hG]
    have := hH g _ (plain_ch c)
    omega

theorem cov_dec {S : Led} {f : Nat → Int} (hC : Cov S) (hO : LOk S) (hr : RightC f) (hf : ¬ (f 0 = 7 ∧ f 5 < 0)) : Cov (dec S f).S := by
  have h4 : ∀ x ∈ S.H, 0 ≤ x 4 := fun x hx => (hO.H x hx).1.1
  have mv : ∀ i q, 0 ≤ q → Cov (moveS S i q) := fun i q hq => by
    unfold moveS
    split
    · refine cov_G hC (fun k => ?_) rfl
      show S.G k ≤ updG S.G i (S.G i + q) k
      unfold updG
      split
      · rename_i e; rw [e]; omega
      · exact Int.le_refl _
    · exact hC
  have cl : ∀ o s, Cov (closeD S o s).S := fun o s => by
    unfold closeD
    split
    · rename_i ho
      obtain ⟨x, hx⟩ := Option.isSome_iff_exists.1 ho
      obtain ⟨_, xk, x7⟩ := of_open hx
      exact cov_H hC rfl fun g q hq => sum_close hq g S.H _ s (fun y hy => by rw [xk] at hy; cases hy; exact x7) h4
    · exact hC
  cases hr using RightC.kinds with
  | receive g hg e0 e2 e3 e4 q e6 e7 => simp only [dec, e0, true_or, if_true, moveD]; exact mv _ _ (by omega)
  | adjust g hg e0 e2 e3 e4 q e6 e7 => simp only [dec, e0, or_true, if_true, moveD]; exact mv _ _ (by omega)
  | plan g d hg hd e0 e2 e3 e4 q e6 e7 =>
    have e : dec S f = moveD S (g * 20 + 1 + d) (f 5) := by simp [dec, e0, e2, e4]
    rw [e]; exact mv _ _ (by omega)
  | allot g c hg hc e0 e2 e3 e4 q e6 e7 =>
    have e : dec S f = moveD S (g * 20 + 17 + c) (f 5) := by simp [dec, e0, e2, e3]
    rw [e]; exact mv _ _ (by omega)
  | promise g c d hg hc hd e0 e2 e3 e4 q e6 t =>
    have e : dec S f = promiseD S g c d (f 5) (f 7) := by simp [dec, e0, e2, e3, e4]
    rw [e]
    unfold promiseD
    split
    · rename_i hm
      have hm2 : ¬ freeS S g c < f 5 ∧ ¬ atpS S g d < f 5 := by
        unfold mayE at hm
        split at hm
        · cases hm
        · split at hm
          · cases hm
          · split at hm
            · cases hm
            · exact ⟨by assumption, by assumption⟩
      have hcb : countsB (newH S g c d (f 5) (f 7)) = true := rfl
      intro g' hg'
      obtain ⟨h1, h2⟩ := hC g' hg'
      refine ⟨fun k hk => ?_, fun c' hc' => ?_⟩
      · have a := h1 k hk
        rw [left_eq] at a ⊢
        show 0 ≤ S.G (g' * 20) + sumTo (fun k => S.G (g' * 20 + (1 + k))) (k + 1) - sumL (cntQ g' (dayQ k)) (S.H ++ [newH S g c d (f 5) (f 7)])
        rw [sum_app]
        unfold cntQ
        rw [hcb, Bool.and_true]
        show 0 ≤ S.G (g' * 20) + sumTo (fun k => S.G (g' * 20 + (1 + k))) (k + 1) - (sumL (cntQ g' (dayQ k)) S.H + if ((g : Int) == (g' : Int)) = true then (if (d : Int) > (k : Int) then 0 else f 5) else 0)
        split
        · rename_i eg
          have eg0 : (g : Int) = (g' : Int) := by simpa using eg
          have eg' : g = g' := by omega
          subst eg'
          split
          · omega
          · have b := atp_le S g d k (by omega) hk
            rw [left_eq] at b
            omega
        · omega
      · have a := h2 c' hc'
        rw [free_eq] at a ⊢
        show 0 ≤ S.G (g' * 20 + (17 + c')) - sumL (cntQ g' (chQ c')) (S.H ++ [newH S g c d (f 5) (f 7)])
        rw [sum_app]
        unfold cntQ
        rw [hcb, Bool.and_true]
        show 0 ≤ S.G (g' * 20 + (17 + c')) - (sumL (cntQ g' (chQ c')) S.H + if ((g : Int) == (g' : Int)) = true then (if (c : Int) ≠ (c' : Int) then 0 else f 5) else 0)
        split
        · rename_i eg
          have eg0 : (g : Int) = (g' : Int) := by simpa using eg
          have eg' : g = g' := by omega
          subst eg'
          split
          · omega
          · rename_i ec
            have ec' : c = c' := by omega
            subst ec'
            have b := hm2.1
            rw [free_eq] at b
            omega
        · omega
    · exact hC
  | commit e0 e2 e3 e4 e5 o e7 => simp only [dec, e0]; exact cl _ _
  | release e0 e2 e3 e4 e5 o e7 => simp only [dec, e0]; exact cl _ _
  | tick e0 e2 e3 e4 e5 e6 t =>
    have e : dec S f = tickD S (f 7) := by simp [dec, e0]
    rw [e]
    unfold tickD
    split
    · exact hC
    · exact cov_H hC rfl fun g q hq => sum_exp hq g _ S.H h4

theorem cov_do {S : Led} {f : Nat → Int} (hC : Cov S) (hO : LOk S) (hf : ¬ (f 0 = 7 ∧ f 5 < 0)) : Cov (doD S f).S := by
  unfold doD
  split
  · rename_i hr
    split
    · split <;> exact hC
    · split
      · exact cov_dec hC hO (rightC_of f hr) hf
      · exact hC
  · exact hC

/-- A promise is refused just when it must be. -/
theorem promise_iff {S : Led} {f : Nat → Int} (h0 : f 0 = 4) : ((dec S f).E = 0) ↔ (¬ 60 ≤ S.H.length ∧ f 5 ≤ freeS S (f 2).toNat (f 3).toNat ∧ f 5 ≤ atpS S (f 2).toNat (f 4).toNat) := by
  have e : dec S f = promiseD S (f 2).toNat (f 3).toNat (f 4).toNat (f 5) (f 7) := by simp [dec, h0]
  rw [e]
  unfold promiseD
  by_cases hm : mayE S (f 2).toNat (f 3).toNat (f 4).toNat (f 5) = 0
  · rw [if_pos hm]
    refine ⟨fun _ => ?_, fun _ => rfl⟩
    unfold mayE at hm
    split at hm
    · cases hm
    · split at hm
      · cases hm
      · split at hm
        · cases hm
        · refine ⟨by assumption, by omega, by omega⟩
  · rw [if_neg hm]
    refine ⟨fun h => absurd h hm, fun ⟨h1, h2, h3⟩ => ?_⟩
    exfalso
    apply hm
    unfold mayE
    rw [if_neg h1, if_neg (by omega), if_neg (by omega)]

theorem Run.skip {w0 w : World} {p : Adr} {a b : Nat} {hv : Value} {S : Led} {n : Nat} (h : Run w0 w p a b hv S n) : Run w0 w p a b hv S (n + 1) :=
  ⟨h.live, h.pa, h.book, h.new, h.apart, h.hok, fun i hi h0 => by have := h.ids i hi h0; omega, by have := h.jl; omega⟩

end Go.Proofs.YtdblmheoghhepaaDoor
