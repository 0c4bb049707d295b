/- Each hold ends once: what a command does to the list of holds. -/
import Derived.Test.YtdblmheoghhepaaDoorKBoxes
namespace Go.Proofs.YtdblmheoghhepaaDoor
open Go.RowKit

/-- The holds go on: none is lost, none but its state turns, and that only once. -/
def Grows (H H' : List (Nat → Int)) : Prop := H.length ≤ H'.length ∧ ∀ (k : Nat) x, H[k]? = some x → ∃ y, H'[k]? = some y ∧ (∀ j, j < 7 → y j = x j) ∧ (x 7 ≠ 1 → y 7 = x 7)
theorem grows_refl (H : List (Nat → Int)) : Grows H H := ⟨Nat.le_refl _, fun _ x h => ⟨x, h, fun _ _ => rfl, fun _ => rfl⟩⟩
theorem grows_app (H : List (Nat → Int)) (y : Nat → Int) : Grows H (H ++ [y]) := by
  refine ⟨by simp, fun k x h => ⟨x, ?_, fun _ _ => rfl, fun _ => rfl⟩⟩
  have hk : k < H.length := (List.getElem?_eq_some_iff.1 h).1
  rw [List.getElem?_append_left hk]
  exact h
theorem grows_close (H : List (Nat → Int)) (k : Nat) (s : Int) (h7 : ∀ x, H[k]? = some x → x 7 = 1) : Grows H (closeAt H k s) := by
  unfold closeAt
  refine ⟨by simp, fun j x h => ?_⟩
  rw [List.getElem?_modify, h]
  by_cases e : k = j
  · subst e
    refine ⟨setSt x s, by simp, fun i hi => setSt_at x s i (by omega), fun hn => absurd (h7 x h) hn⟩
  · exact ⟨x, by simp [e], fun _ _ => rfl, fun _ => rfl⟩
theorem grows_exp (H : List (Nat → Int)) (t : Int) : Grows H (expL t H) := by
  unfold expL
  refine ⟨by simp, fun j x h => ?_⟩
  refine ⟨exp1 t x, by rw [List.getElem?_map, h]; rfl, fun i hi => ?_, fun hn => ?_⟩
  · unfold exp1
    split
    · exact setSt_at x 4 i (by omega)
    · rfl
  · unfold exp1
    rw [if_neg]
    intro hb
    simp only [expB, Bool.and_eq_true, beq_iff_eq] at hb
    exact hn hb.1

theorem grows_dec {S : Led} {f : Nat → Int} (hr : RightC f) : Grows S.H (dec S f).S.H := by
  have hm : ∀ i q, (moveS S i q).H = S.H := fun i q => by unfold moveS; split <;> rfl
  have hc : ∀ o s, Grows S.H (closeD S o s).S.H := fun o s => by
    unfold closeD
    split
    · rename_i ho
      obtain ⟨x, hx⟩ := Option.isSome_iff_exists.1 ho
      obtain ⟨_, xk, x7⟩ := of_open hx
      exact grows_close _ _ _ fun y hy => by rw [xk] at hy; cases hy; exact x7
    · exact grows_refl _
  cases hr using RightC.kinds with
  | receive g hg e0 e2 e3 e4 q e6 e7 => simp only [dec, e0, true_or, if_true, moveD]; rw [hm]; exact grows_refl _
  | adjust g hg e0 e2 e3 e4 q e6 e7 => simp only [dec, e0, or_true, if_true, moveD]; rw [hm]; exact grows_refl _
  | plan g d hg hd e0 e2 e3 e4 q e6 e7 =>
    have e : dec S f = moveD S (g * 20 + 1 + d) (f 5) := by simp [dec, e0, e2, e4]
    rw [e]; simp only [moveD]; rw [hm]; exact grows_refl _
  | allot g c hg hc e0 e2 e3 e4 q e6 e7 =>
    have e : dec S f = moveD S (g * 20 + 17 + c) (f 5) := by simp [dec, e0, e2, e3]
    rw [e]; simp only [moveD]; rw [hm]; exact grows_refl _
  | promise g c d hg hc hd e0 e2 e3 e4 q e6 t =>
    have e : dec S f = promiseD S g c d (f 5) (f 7) := by simp [dec, e0, e2, e3, e4]
    rw [e]
    unfold promiseD
    split
    · exact grows_app _ _
    · exact grows_refl _
  | commit e0 e2 e3 e4 e5 o e7 => simp only [dec, e0]; exact hc _ _
  | release e0 e2 e3 e4 e5 o e7 => simp only [dec, e0]; exact hc _ _
  | tick e0 e2 e3 e4 e5 e6 t =>
    have e : dec S f = tickD S (f 7) := by simp [dec, e0]
    rw [e]
    unfold tickD
    split
    · exact grows_refl _
    · exact grows_exp _ _
theorem grows_do (S : Led) (f : Nat → Int) : Grows S.H (doD S f).S.H := by
  unfold doD
  split
  · rename_i hr
    split
    · split <;> exact grows_refl _
    · split
      · exact grows_dec (rightC_of f hr)
      · exact grows_refl _
  · exact grows_refl _

theorem tick_len (S : Led) (f : Nat → Int) (h : f 0 = 8) : (doD S f).S.H.length = S.H.length := by
  have e : dec S f = tickD S (f 7) := by simp [dec, h]
  unfold doD
  split
  · split
    · split <;> rfl
    · rw [e]
      split
      · show (tickD S (f 7)).S.H.length = _
        unfold tickD
        split
        · rfl
        · simp [expL]
      · rfl
  · rfl

def openB (h : Nat → Int) : Bool := h 7 == 1
theorem ages_sum (H : List (Nat → Int)) (now : Int) : ages H now 0 + ages H now 1 + ages H now 2 = H.countP openB := by
  unfold ages
  induction H with
  | nil => rfl
  | cons x t ih =>
    simp only [List.countP_cons]
    have hb : bandOf (now - x 5) = 0 ∨ bandOf (now - x 5) = 1 ∨ bandOf (now - x 5) = 2 := by
      unfold bandOf
      split
      · exact Or.inl rfl
      · split
        · exact Or.inr (Or.inl rfl)
        · exact Or.inr (Or.inr rfl)
    by_cases h7 : x 7 = 1
    · rcases hb with h | h | h <;> simp [ageP, openB, h7, h] <;> omega
    · simp [ageP, openB, h7]
      omega

theorem cutL_end (H : List (Nat → Int)) (n : Nat) (h : H.length = n) : (cutL H (n : Int) 100).length = 0 := by
  have e1 : fromOf (n : Int) H.length = H.length := by unfold fromOf; omega
  unfold cutL
  rw [e1]
  simp

/-- The list of holds that was told last: nobody writes it. -/
def Was (w : World) (p : Adr) (b : Nat) (hv : Value) (x : Option Addr) (H : List (Nat → Int)) : Prop := H = [] ∨ ∃ g, x = some ⟨g, 0, none⟩ ∧ HoldsAt w g H ∧ ¬ p.foot g ∧ ¬ KFoot b hv g
theorem HoldsAt.block {w w' : World} {g : Nat} {H : List (Nat → Int)} (h : HoldsAt w g H) (e : w'.heap[g]? = w.heap[g]?) (hl : g < w'.heap.size) : HoldsAt w' g H := ⟨hl, fun k x hk j hj => (World.cell?_of_block (a := ⟨g, k * 8 + j, none⟩) e).trans (h.2 k x hk j hj)⟩
theorem Was.turn {w w' : World} {p p' : Adr} {b : Nat} {hv hv' : Value} {x : Option Addr} {H : List (Nat → Int)} (h : Was w p b hv x H) (hs : w.heap.size ≤ w'.heap.size)
    (ho : ∀ g, g < w.heap.size → ¬ p.foot g → ¬ KFoot b hv g → w'.heap[g]? = w.heap[g]? ∧ ¬ p'.foot g ∧ ¬ KFoot b hv' g) : Was w' p' b hv' x H := by
  rcases h with h | ⟨g, e, h1, h2, h3⟩
  · exact Or.inl h
  · obtain ⟨o1, o2, o3⟩ := ho g h1.1 h2 h3
    exact Or.inr ⟨g, e, h1.block o1 (Nat.lt_of_lt_of_le h1.1 hs), o2, o3⟩
theorem Was.below {w w' : World} {p : Adr} {b : Nat} {hv : Value} {x : Option Addr} {H : List (Nat → Int)} (h : Was w p b hv x H) (hb : Below w.heap.size w w') : Was w' p b hv x H := h.turn hb.size fun g hg h1 h2 => ⟨hb.block g hg, h1, h2⟩

/-- A tick behind all, with the next Id. -/
theorem do_last (w0 w : World) (p : Adr) (a b : Nat) (hv : Value) (S : Led) (n : Nat) (t : Int) (R : Run w0 w p a b hv S n) (hn : n ≤ 2000000) (ht : 1 ≤ t ∧ t ≤ 1000) :
    Calls Tryd.prog 17 #[.pointer (some ⟨a, 0, none⟩), cv 8 (n : Int) 0 0 0 0 0 t] w fun e w' => (∃ E N, e = .returned (ansV E N)) ∧ ∃ p' S', Live w0 w' p' S' ∧ Hid (p'.a = a) ∧ Hid (S'.H.length = S.H.length) ∧ w'.cell? ⟨b, 0, none⟩ = some (.pointer (some ⟨a, 0, none⟩)) := by
  have hr : refOk (eight 8 (n : Int) 0 0 0 0 0 t) = true := by
    simp [refOk, eight, fitsB, needG, needC, needD, needQ, needH, needT]
    omega
  refine (do_run w0 w p a b hv S n (eight 8 (n : Int) 0 0 0 0 0 t) R hr rfl hn).mono ?_
  rintro e w' ⟨rfl, p', M, T, hpf⟩
  exact ⟨⟨_, _, rfl⟩, p', _, M.live, M.pa, tick_len S _ rfl, M.book.c0⟩

theorem holds_last (w0 w : World) (p : Adr) (a : Nat) (S : Led) (n : Nat) (h : Live w0 w p S) (ha : Hid (p.a = a)) (hl : Hid (S.H.length = n)) (hn : n ≤ 60) :
    Calls Tryd.prog 25 #[.pointer (some ⟨a, 0, none⟩), .int .i64 (n : Int), .int .i64 100] w fun e w' => ∃ g, e = .returned (.slice (some ⟨g, 0, none⟩) 0 0) ∧ Below w.heap.size w w' := by
  have e : p.a = a := ha
  subst e
  refine (holds_any p S n 100 w h.led (by constructor <;> omega) (by constructor <;> omega)).mono ?_
  rw [cutL_end S.H n hl]
  rintro e w' ⟨g, rfl, _, _, _, hb⟩
  exact ⟨g, rfl, hb⟩

end Go.Proofs.YtdblmheoghhepaaDoor
