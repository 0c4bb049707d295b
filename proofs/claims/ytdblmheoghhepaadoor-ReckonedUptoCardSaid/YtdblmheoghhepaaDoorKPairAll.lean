/- The caller's book beside the ledger: what 'takes' does is what 'Do' does. -/
import Derived.Test.YtdblmheoghhepaaDoorKKeep4
import Derived.Test.YtdblmheoghhepaaDoorKKeepAll
import Derived.Test.YtdblmheoghhepaaDoorKAwake2
namespace Go.Proofs.YtdblmheoghhepaaDoor
open Go.RowKit

/-- The caller's eighty numbers of a ledger's. -/
def pofG (G : Nat → Int) : Nat → Int := fun k =>
  if k < 4 then G (k * 20) else if k < 68 then G ((k - 4) / 16 * 20 + 1 + (k - 4) % 16) else G ((k - 68) / 3 * 20 + 17 + (k - 68) % 3)
theorem pofG_hand (G : Nat → Int) (g : Nat) (hg : g < 4) : pofG G g = G (g * 20) := by simp [pofG, hg]
theorem pofG_plan (G : Nat → Int) (g d : Nat) (hg : g < 4) (hd : d < 16) : pofG G (4 + g * 16 + d) = G (g * 20 + 1 + d) := by
  unfold pofG
  rw [if_neg (by omega), if_pos (by omega), show (4 + g * 16 + d - 4) / 16 = g by omega, show (4 + g * 16 + d - 4) % 16 = d by omega]
theorem pofG_share (G : Nat → Int) (g c : Nat) (hg : g < 4) (hc : c < 3) : pofG G (68 + g * 3 + c) = G (g * 20 + 17 + c) := by
  unfold pofG
  rw [if_neg (by omega), if_neg (by omega), show (68 + g * 3 + c - 68) / 3 = g by omega, show (68 + g * 3 + c - 68) % 3 = c by omega]
theorem pofG_bd (G : Nat → Int) (h : ∀ k, k < 80 → -1000000000 ≤ G k ∧ G k ≤ 1000000000) : ∀ k, k < 80 → -1000000000 ≤ pofG G k ∧ pofG G k ≤ 1000000000 := fun k hk => by
  unfold pofG
  split
  · exact h _ (by omega)
  · split
    · exact h _ (by omega)
    · exact h _ (by omega)
theorem pofG_upd1 (G : Nat → Int) (g : Nat) (x : Int) (hg : g < 4) : ∀ k, k < 80 → updG (pofG G) g x k = pofG (updG G (g * 20) x) k := fun k hk => by
  unfold updG pofG
  by_cases e : k = g
  · subst e; simp [hg]
  · rw [if_neg e]
    split
    · exact (if_neg (by omega)).symm
    · split
      · exact (if_neg (by omega)).symm
      · exact (if_neg (by omega)).symm
theorem pofG_upd2 (G : Nat → Int) (g d : Nat) (x : Int) (hg : g < 4) (hd : d < 16) : ∀ k, k < 80 → updG (pofG G) (4 + g * 16 + d) x k = pofG (updG G (g * 20 + 1 + d) x) k := fun k hk => by
  by_cases e : k = 4 + g * 16 + d
  · subst e; rw [pofG_plan _ g d hg hd]; simp [updG]
  · unfold updG pofG
    rw [if_neg e]
    split
    · exact (if_neg (by omega)).symm
    · split
      · exact (if_neg (by omega)).symm
      · exact (if_neg (by omega)).symm
theorem pofG_upd3 (G : Nat → Int) (g c : Nat) (x : Int) (hg : g < 4) (hc : c < 3) : ∀ k, k < 80 → updG (pofG G) (68 + g * 3 + c) x k = pofG (updG G (g * 20 + 17 + c) x) k := fun k hk => by
  by_cases e : k = 68 + g * 3 + c
  · subst e; rw [pofG_share _ g c hg hc]; simp [updG]
  · unfold updG pofG
    rw [if_neg e]
    split
    · exact (if_neg (by omega)).symm
    · split
      · exact (if_neg (by omega)).symm
      · exact (if_neg (by omega)).symm

theorem KAt.congr {w : World} {b : Nat} {l : Value} {now : Int} {P P' : Nat → Int} {hv : Value} {H H' : List (Nat → Int)} (h : KAt w b l now P hv H) (hP : ∀ k, k < 80 → P k = P' k) (hl : H.length = H'.length) (hf : H.flatMap hc = H'.flatMap hc) : KAt w b l now P' hv H' :=
  ⟨h.c0, h.c1, fun k hk => by rw [← hP k hk]; exact h.nums k hk, h.ch, h.free, by rw [← hl, ← hf]; exact h.rows, h.apart⟩

/-- What 'takes' leaves: the book as the ledger's. -/
def Took (w : World) (b : Nat) (l : Value) (hv : Value) (B : Led) (e : Ending) (w' : World) : Prop :=
  e = .returned (.bool true) ∧ ∃ hv', KAt w' b l B.now (pofG B.G) hv' B.H ∧ Turned (KFoot b hv) w w' ∧ (∀ k, KFoot b hv' k → KFoot b hv k ∨ w.heap.size ≤ k)

theorem dec_N (S : Led) (f : Nat → Int) (h : (dec S f).E ≠ 0) : (dec S f).N = 0 := by
  unfold dec at h ⊢
  split
  · rfl
  · split
    · rfl
    · split
      · rfl
      · rename_i e1 e2 e3
        rw [if_neg e1, if_neg e2, if_neg e3] at h
        split
        · rename_i e4
          rw [if_pos e4] at h
          unfold promiseD at h ⊢
          split
          · rename_i e5; rw [if_pos e5] at h; exact absurd rfl h
          · rfl
        · split
          · unfold closeD; split <;> rfl
          · split
            · unfold closeD; split <;> rfl
            · unfold tickD; split <;> rfl

theorem takes_dec (b : Nat) (l : Value) (hv : Value) (B : Led) (f : Nat → Int) (w : World) (h : KAt w b l B.now (pofG B.G) hv B.H) (hO : LOk B) (hl : B.H.length ≤ 60) (hr : RightC f) :
    Calls Tryd.prog 18 #[.pointer (some ⟨b, 0, none⟩), cmdV f, ansV (dec B f).E (dec B f).N] w (Took w b l hv (dec B f).S) := by
  have hP := pofG_bd B.G hO.G
  have hn := hO.now
  by_cases hE : (dec B f).E = 0
  · rw [hE]
    have fin : ∀ {B' : Led} {e : Ending} {w' : World}, e = .returned (.bool true) → KAt w' b l B'.now (pofG B'.G) hv B'.H → Turned (KFoot b hv) w w' → Took w b l hv B' e w' := fun he hK hT => ⟨he, hv, hK, hT, fun _ hk => Or.inl hk⟩
    have mv : ∀ i q, (moveD B i q).E = 0 → (moveD B i q).S = { B with G := updG B.G i (B.G i + q) } := fun i q he => by
      unfold moveD moveE at he
      unfold moveD moveS
      split at he
      · rename_i hx; simp [hx]
      · cases he
    cases hr using RightC.kinds with
    | receive g hg e0 e2 e3 e4 q e6 e7 =>
      have e : dec B f = moveD B (g * 20) (f 5) := by simp [dec, e0, e2]
      have ec : cmdV f = cv 1 (f 1) g 0 0 (f 5) 0 0 := by simp [cmdV, e0, e2, e3, e4, e6, e7]
      rw [e] at hE ⊢
      rw [ec, mv _ _ hE, show (moveD B (g * 20) (f 5)).N = 0 from rfl]
      refine (takes1 b l B.now (pofG B.G) hv B.H (f 1) (f 5) g w h hg (hP g (by omega)) (by omega)).mono ?_
      rintro e' w' ⟨he, hK, hT⟩
      exact fin he (hK.congr (fun k hk => by rw [pofG_upd1 B.G g _ hg k hk, pofG_hand B.G g hg]) rfl rfl) hT
    | adjust g hg e0 e2 e3 e4 q e6 e7 =>
      have e : dec B f = moveD B (g * 20) (f 5) := by simp [dec, e0, e2]
      have ec : cmdV f = cv 7 (f 1) g 0 0 (f 5) 0 0 := by simp [cmdV, e0, e2, e3, e4, e6, e7]
      rw [e] at hE ⊢
      rw [ec, mv _ _ hE, show (moveD B (g * 20) (f 5)).N = 0 from rfl]
      refine (takes7 b l B.now (pofG B.G) hv B.H (f 1) (f 5) g w h hg (hP g (by omega)) (by omega)).mono ?_
      rintro e' w' ⟨he, hK, hT⟩
      exact fin he (hK.congr (fun k hk => by rw [pofG_upd1 B.G g _ hg k hk, pofG_hand B.G g hg]) rfl rfl) hT
    | plan g d hg hd e0 e2 e3 e4 q e6 e7 =>
      have e : dec B f = moveD B (g * 20 + 1 + d) (f 5) := by simp [dec, e0, e2, e4]
      have ec : cmdV f = cv 2 (f 1) g 0 d (f 5) 0 0 := by simp [cmdV, e0, e2, e3, e4, e6, e7]
      rw [e] at hE ⊢
      rw [ec, mv _ _ hE, show (moveD B (g * 20 + 1 + d) (f 5)).N = 0 from rfl]
      refine (takes2 b l B.now (pofG B.G) hv B.H (f 1) (f 5) g d w h hg hd (hP _ (by omega)) (by omega)).mono ?_
      rintro e' w' ⟨he, hK, hT⟩
      exact fin he (hK.congr (fun k hk => by rw [pofG_upd2 B.G g d _ hg hd k hk, pofG_plan B.G g d hg hd]) rfl rfl) hT
    | allot g c hg hc e0 e2 e3 e4 q e6 e7 =>
      have e : dec B f = moveD B (g * 20 + 17 + c) (f 5) := by simp [dec, e0, e2, e3]
      have ec : cmdV f = cv 3 (f 1) g c 0 (f 5) 0 0 := by simp [cmdV, e0, e2, e3, e4, e6, e7]
      rw [e] at hE ⊢
      rw [ec, mv _ _ hE, show (moveD B (g * 20 + 17 + c) (f 5)).N = 0 from rfl]
      refine (takes3 b l B.now (pofG B.G) hv B.H (f 1) (f 5) g c w h hg hc (hP _ (by omega)) (by omega)).mono ?_
      rintro e' w' ⟨he, hK, hT⟩
      exact fin he (hK.congr (fun k hk => by rw [pofG_upd3 B.G g c _ hg hc k hk, pofG_share B.G g c hg hc]) rfl rfl) hT
    | promise g c d hg hc hd e0 e2 e3 e4 q e6 t =>
      have e : dec B f = promiseD B g c d (f 5) (f 7) := by simp [dec, e0, e2, e3, e4]
      have ec : cmdV f = cv 4 (f 1) g c d (f 5) 0 (f 7) := by simp [cmdV, e0, e2, e3, e4, e6]
      rw [e] at hE ⊢
      have hm : mayE B g c d (f 5) = 0 := by
        unfold promiseD at hE
        split at hE
        · assumption
        · exact hE
      have ep : promiseD B g c d (f 5) (f 7) = ⟨{ B with H := B.H ++ [newH B g c d (f 5) (f 7)] }, 0, (B.H.length : Int) + 1⟩ := if_pos hm
      rw [ec, ep]
      refine (takes4 b l B.now (pofG B.G) hv B.H (f 1) (f 5) (f 7) g c d w h hn (by omega) hl).mono ?_
      rintro e' w' ⟨he, v', hK, hT, hF⟩
      refine ⟨he, v', hK.congr (fun _ _ => rfl) (by simp) ?_, hT, hF⟩
      rw [List.flatMap_append, List.flatMap_append]
      rfl
    | commit e0 e2 e3 e4 e5 o e7 =>
      have e : dec B f = closeD B (f 6) 2 := by simp [dec, e0]
      rw [e] at hE ⊢
      have hm : (openOf B.H (f 6)).isSome = true := by
        unfold closeD at hE
        split at hE
        · assumption
        · cases hE
      obtain ⟨x, hx⟩ := Option.isSome_iff_exists.1 hm
      obtain ⟨x1, xk, x7⟩ := of_open hx
      have ep : closeD B (f 6) 2 = ⟨{ B with H := closeAt B.H (f 6 - 1).toNat 2 }, 0, 0⟩ := if_pos hm
      have ec : cmdV f = cv 5 (f 1) 0 0 0 0 (((f 6 - 1).toNat : Int) + 1) 0 := by
        rw [show (((f 6 - 1).toNat : Int) + 1) = f 6 by omega]; simp [cmdV, e0, e2, e3, e4, e5, e7]
      rw [ec, ep]
      refine (takes5 b l B.now (pofG B.G) hv B.H (f 1) (f 6 - 1).toNat x w h hl xk x7).mono ?_
      rintro e' w' ⟨he, hK, hT⟩
      exact fin he hK hT
    | release e0 e2 e3 e4 e5 o e7 =>
      have e : dec B f = closeD B (f 6) 3 := by simp [dec, e0]
      rw [e] at hE ⊢
      have hm : (openOf B.H (f 6)).isSome = true := by
        unfold closeD at hE
        split at hE
        · assumption
        · cases hE
      obtain ⟨x, hx⟩ := Option.isSome_iff_exists.1 hm
      obtain ⟨x1, xk, x7⟩ := of_open hx
      have ep : closeD B (f 6) 3 = ⟨{ B with H := closeAt B.H (f 6 - 1).toNat 3 }, 0, 0⟩ := if_pos hm
      have ec : cmdV f = cv 6 (f 1) 0 0 0 0 (((f 6 - 1).toNat : Int) + 1) 0 := by
        rw [show (((f 6 - 1).toNat : Int) + 1) = f 6 by omega]; simp [cmdV, e0, e2, e3, e4, e5, e7]
      rw [ec, ep]
      refine (takes6 b l B.now (pofG B.G) hv B.H (f 1) (f 6 - 1).toNat x w h hl xk x7).mono ?_
      rintro e' w' ⟨he, hK, hT⟩
      exact fin he hK hT
    | tick e0 e2 e3 e4 e5 e6 t =>
      have e : dec B f = tickD B (f 7) := by simp [dec, e0]
      have ec : cmdV f = cv 8 (f 1) 0 0 0 0 0 (f 7) := by simp [cmdV, e0, e2, e3, e4, e5, e6]
      rw [e] at hE ⊢
      have hm : ¬ B.now + f 7 > 1000000 := by
        unfold tickD at hE
        split at hE
        · cases hE
        · assumption
      have ep : tickD B (f 7) = ⟨{ B with now := B.now + f 7, H := expL (B.now + f 7) B.H }, 0, 0⟩ := if_neg hm
      rw [ec, ep]
      refine (takes8 b l B.now (pofG B.G) hv B.H (f 1) (f 7) w h hl hn (by omega)).mono ?_
      rintro e' w' ⟨he, hK, hT⟩
      exact fin he hK hT
  · rw [dec_N B f hE, dec_err B f hE]
    refine (takes_err b f _ w hE).mono ?_
    rintro e' w' ⟨he, hb⟩
    exact ⟨he, hv, h.below hb, Turned.ofBelow hb, fun _ hk => Or.inl hk⟩

end Go.Proofs.YtdblmheoghhepaaDoor

/- The caller's book beside the ledger, command behind command. -/
namespace Go.Proofs.YtdblmheoghhepaaDoor
open Go.RowKit

/-- The holds stand in their order; their days are days; none is open past its time. -/
structure HOk (now : Int) (H : List (Nat → Int)) : Prop where
  num : ∀ (k : Nat) h, H[k]? = some h → h 0 = (k : Int) + 1
  day : ∀ h ∈ H, h 3 ≤ 15
  ends : ∀ h ∈ H, h 7 = 1 → now < h 6

theorem hok_nil (now : Int) : HOk now [] := ⟨fun _ _ h => by simp at h, fun _ h => (by cases h), fun _ h => (by cases h)⟩
theorem hok_close {now : Int} {H : List (Nat → Int)} (h : HOk now H) (k : Nat) (s : Int) (hs : s ≠ 1) : HOk now (closeAt H k s) := by
  have get : ∀ (j : Nat) y, (closeAt H k s)[j]? = some y → ∃ x, H[j]? = some x ∧ (y = x ∨ y = setSt x s) := fun j y hy => by
    unfold closeAt at hy
    rw [List.getElem?_modify] at hy
    cases e : H[j]? with
    | none => rw [e] at hy; cases hy
    | some x =>
      rw [e] at hy
      simp at hy
      refine ⟨x, rfl, ?_⟩
      split at hy
      · exact Or.inr hy.symm
      · exact Or.inl hy.symm
  refine ⟨fun j y hy => ?_, fun y hy => ?_, fun y hy h7 => ?_⟩
  · obtain ⟨x, hx, rfl | rfl⟩ := get j y hy
    · exact h.num j _ hx
    · exact h.num j x hx
  · obtain ⟨j, hj⟩ := List.getElem?_of_mem hy
    obtain ⟨x, hx, rfl | rfl⟩ := get j y hj
    · exact h.day _ (List.mem_of_getElem? hx)
    · exact h.day x (List.mem_of_getElem? hx)
  · obtain ⟨j, hj⟩ := List.getElem?_of_mem hy
    obtain ⟨x, hx, rfl | rfl⟩ := get j y hj
    · exact h.ends _ (List.mem_of_getElem? hx) h7
    · exact absurd h7 (by simpa [setSt] using hs)
theorem hok_exp {now : Int} {H : List (Nat → Int)} (h : HOk now H) (t : Int) : HOk t (expL t H) := by
  unfold expL
  refine ⟨fun j y hy => ?_, fun y hy => ?_, fun y hy h7 => ?_⟩
  · rw [List.getElem?_map] at hy
    cases e : H[j]? with
    | none => rw [e] at hy; cases hy
    | some x =>
      rw [e] at hy
      simp at hy
      subst hy
      unfold exp1
      split
      · exact h.num j x e
      · exact h.num j x e
  · obtain ⟨x, hx, rfl⟩ := List.mem_map.1 hy
    unfold exp1
    split
    · exact h.day x hx
    · exact h.day x hx
  · obtain ⟨x, hx, rfl⟩ := List.mem_map.1 hy
    unfold exp1 at h7 ⊢
    split at h7
    · simp [setSt] at h7
    · rename_i hb
      rw [if_neg hb]
      simp only [expB, Bool.and_eq_true, beq_iff_eq, decide_eq_true_eq] at hb
      have : ¬ x 6 ≤ t := fun e => hb ⟨h7, e⟩
      omega

theorem hok_dec {S : Led} {f : Nat → Int} (h : HOk S.now S.H) (hr : RightC f) : HOk (dec S f).S.now (dec S f).S.H := by
  have hm : ∀ i q, (moveS S i q).now = S.now ∧ (moveS S i q).H = S.H := fun i q => by unfold moveS; split <;> exact ⟨rfl, rfl⟩
  have hc : ∀ o s, s ≠ 1 → HOk (closeD S o s).S.now (closeD S o s).S.H := fun o s hs => by
    unfold closeD
    split
    · exact hok_close h _ s hs
    · exact h
  cases hr using RightC.kinds with
  | receive g hg e0 e2 e3 e4 q e6 e7 => simp only [dec, e0, true_or, if_true, moveD]; rw [(hm _ _).1, (hm _ _).2]; exact h
  | adjust g hg e0 e2 e3 e4 q e6 e7 => simp only [dec, e0, or_true, if_true, moveD]; rw [(hm _ _).1, (hm _ _).2]; exact h
  | plan g d hg hd e0 e2 e3 e4 q e6 e7 =>
    have e : dec S f = moveD S (g * 20 + 1 + d) (f 5) := by simp [dec, e0, e2, e4]
    rw [e]; simp only [moveD]; rw [(hm _ _).1, (hm _ _).2]; exact h
  | allot g c hg hc e0 e2 e3 e4 q e6 e7 =>
    have e : dec S f = moveD S (g * 20 + 17 + c) (f 5) := by simp [dec, e0, e2, e3]
    rw [e]; simp only [moveD]; rw [(hm _ _).1, (hm _ _).2]; exact h
  | promise g c d hg hc hd e0 e2 e3 e4 q e6 t =>
    have e : dec S f = promiseD S g c d (f 5) (f 7) := by simp [dec, e0, e2, e3, e4]
    rw [e]
    unfold promiseD
    split
    · refine ⟨fun j y hy => ?_, fun y hy => ?_, fun y hy h7 => ?_⟩
      · rcases Nat.lt_or_ge j S.H.length with hj | hj
        · rw [List.getElem?_append_left hj] at hy
          exact h.num j y hy
        · rw [List.getElem?_append_right hj] at hy
          have hj0 : j - S.H.length = 0 := by
            rcases Nat.eq_zero_or_pos (j - S.H.length) with h0 | h0
            · exact h0
            · rw [List.getElem?_eq_none (by simp; omega)] at hy; cases hy
          rw [hj0] at hy
          simp at hy
          subst hy
          show ((S.H.length : Int) + 1) = _
          omega
      · rcases List.mem_append.1 hy with hy | hy
        · exact h.day y hy
        · simp at hy
          subst hy
          show (d : Int) ≤ 15
          omega
      · rcases List.mem_append.1 hy with hy | hy
        · exact h.ends y hy h7
        · simp at hy
          subst hy
          show S.now < S.now + f 7
          omega
    · exact h
  | commit e0 e2 e3 e4 e5 o e7 => simp only [dec, e0]; exact hc _ _ (by decide)
  | release e0 e2 e3 e4 e5 o e7 => simp only [dec, e0]; exact hc _ _ (by decide)
  | tick e0 e2 e3 e4 e5 e6 t =>
    have e : dec S f = tickD S (f 7) := by simp [dec, e0]
    rw [e]
    unfold tickD
    split
    · exact h
    · exact hok_exp h _

/-- The Ids of the last answers lie below n. -/
def IdsB (A : Nat → Int) (n : Nat) : Prop := ∀ i, i < 8 → A (i * 10) ≠ 0 → A (i * 10 + 1) < (n : Int)
theorem ids_hit {A : Nat → Int} {n : Nat} (h : IdsB A n) : hitOf A (n : Int) = none := by
  unfold hitOf
  rw [List.find?_eq_none]
  intro i hi
  rw [List.mem_range] at hi
  unfold hitA
  intro hh
  simp only [Bool.and_eq_true, bne_iff_ne, beq_iff_eq] at hh
  have := h i hi hh.1
  omega
theorem ids_push {A : Nat → Int} {n : Nat} (h : IdsB A n) (f : Nat → Int) (E N : Int) (h1 : f 1 = (n : Int)) : IdsB (pushA A (ansRow f E N)) (n + 1) := by
  intro i hi h0
  unfold pushA at h0 ⊢
  by_cases e : i = 0
  · subst e
    show f 1 < _
    omega
  · rw [if_neg (by omega)] at h0 ⊢
    have := h (i - 1) (by omega)
    rw [show (i - 1) * 10 = i * 10 - 10 by omega] at this
    have := this h0
    rw [show i * 10 + 1 - 10 = i * 10 - 10 + 1 by omega]
    omega

/-- A command with an Id that is not among the last. -/
theorem do_dec {S : Led} {f : Nat → Int} (hr : refOk f = true) (hi : hitOf S.A (f 1) = none) :
    (doD S f).E = (dec S f).E ∧ (doD S f).N = (dec S f).N ∧ (doD S f).S.now = (dec S f).S.now ∧ (doD S f).S.G = (dec S f).S.G ∧ (doD S f).S.H = (dec S f).S.H := by
  unfold doD
  rw [if_pos hr, hi]
  by_cases hE : (dec S f).E = 0
  · simp [hE]
  · simp only [hE, if_false, true_and]
    rw [dec_err S f hE]
    exact ⟨rfl, rfl, rfl⟩
theorem do_ids {S : Led} {f : Nat → Int} {n : Nat} (hr : refOk f = true) (h1 : f 1 = (n : Int)) (h : IdsB S.A n) : IdsB (doD S f).S.A (n + 1) := by
  have up : IdsB S.A (n + 1) := fun i hi h0 => by have := h i hi h0; omega
  unfold doD
  rw [if_pos hr, h1, ids_hit h]
  by_cases hE : (dec S f).E = 0
  · simp only [hE, if_true]
    exact ids_push h f _ _ h1
  · simp only [hE, if_false]
    exact up

structure Run (w0 w : World) (p : Adr) (a b : Nat) (hv : Value) (S : Led) (n : Nat) : Prop where
  live : Live w0 w p S
  pa : p.a = a
  book : KAt w b (.pointer (some ⟨a, 0, none⟩)) S.now (pofG S.G) hv S.H
  new : ∀ k, KFoot b hv k → w0.heap.size ≤ k
  apart : ∀ k, KFoot b hv k → ¬ p.foot k
  hok : HOk S.now S.H
  ids : IdsB S.A n
  jl : S.J.length ≤ 37 * n

/-- Behind 'Do', ahead of 'takes'. -/
structure Mid (w0 w : World) (p : Adr) (a b : Nat) (hv : Value) (S S' : Led) (n : Nat) : Prop where
  live : Live w0 w p S'
  pa : p.a = a
  book : KAt w b (.pointer (some ⟨a, 0, none⟩)) S.now (pofG S.G) hv S.H
  new : ∀ k, KFoot b hv k → w0.heap.size ≤ k
  apart : ∀ k, KFoot b hv k → ¬ p.foot k
  hok : HOk S.now S.H
  ok : LOk S
  len : S.H.length ≤ 60
  ids : IdsB S.A n
  jl : S.J.length ≤ 37 * n

theorem KAt.lt {w : World} {b : Nat} {l : Value} {now : Int} {P : Nat → Int} {hv : Value} {H : List (Nat → Int)} (h : KAt w b l now P hv H) {k : Nat} (hk : KFoot b hv k) : k < w.heap.size := by
  rcases hk with rfl | hk
  · exact h.b_lt
  · exact h.row_lt hk

theorem Run.below {w0 w w' : World} {p : Adr} {a b : Nat} {hv : Value} {S : Led} {n : Nat} (h : Run w0 w p a b hv S n) (hb : Below w.heap.size w w') : Run w0 w' p a b hv S n :=
  ⟨h.live.mk' hb, h.pa, h.book.below hb, h.new, h.apart, h.hok, h.ids, h.jl⟩
theorem Mid.below {w0 w w' : World} {p : Adr} {a b : Nat} {hv : Value} {S S' : Led} {n : Nat} (h : Mid w0 w p a b hv S S' n) (hb : Below w.heap.size w w') : Mid w0 w' p a b hv S S' n :=
  ⟨h.live.mk' hb, h.pa, h.book.below hb, h.new, h.apart, h.hok, h.ok, h.len, h.ids, h.jl⟩

theorem do_run (w0 w : World) (p : Adr) (a b : Nat) (hv : Value) (S : Led) (n : Nat) (f : Nat → Int) (R : Run w0 w p a b hv S n) (hr : refOk f = true) (h1 : f 1 = (n : Int)) (hn : n ≤ 2000000) :
    Calls Tryd.prog 17 #[.pointer (some ⟨a, 0, none⟩), cmdV f] w fun e w' => e = .returned (ansV (dec S f).E (dec S f).N) ∧ ∃ p', Mid w0 w' p' a b hv S (doD S f).S n ∧ Turned p.foot w w' ∧ (∀ k, p'.foot k → p.foot k ∨ w.heap.size ≤ k) := by
  obtain ⟨L, pa, K, new, ap, hok, ids, jl⟩ := R
  subst pa
  refine (do_any p S f w L.tab L.led L.ok (by omega)).mono ?_
  rintro e w' ⟨p', rfl, hL, hT, hF, ha'⟩
  have hb : Below w0.heap.size w w' := ⟨hT.os, hT.tape, hT.output, hT.size, fun k hk => hT.block k (Nat.lt_of_lt_of_le hk L.below.size) (fun e => by have := L.foot k e; omega)⟩
  have hd := do_dec hr (by rw [h1]; exact ids_hit ids)
  refine ⟨by rw [hd.1, hd.2.1], p', ⟨⟨hL, L.tab.turned hT (fun e => by have := L.foot 0 e; have := L.pos; omega), lok_do L.ok _, fun k hk => ?_, L.below.trans hb, L.pos⟩, ha', ?_, new, fun k hk hp => ?_, hok, L.ok, L.led.book.len, ids, jl⟩, hT, hF⟩
  · rcases hF k hk with h1 | h1
    · exact L.foot k h1
    · have := L.below.size; omega
  · exact K.same fun k hk => hT.block k (K.lt hk) (ap k hk)
  · rcases hF k hp with h1 | h1
    · exact ap k hk h1
    · have := K.lt hk; omega

theorem takes_run (w0 w : World) (p : Adr) (a b : Nat) (hv : Value) (S : Led) (n : Nat) (f : Nat → Int) (M : Mid w0 w p a b hv S (doD S f).S n) (hr : refOk f = true) (h1 : f 1 = (n : Int)) :
    Calls Tryd.prog 18 #[.pointer (some ⟨b, 0, none⟩), cmdV f, ansV (dec S f).E (dec S f).N] w fun e w' => e = .returned (.bool true) ∧ ∃ hv', Run w0 w' p a b hv' (doD S f).S (n + 1) ∧ Turned (KFoot b hv) w w' ∧ (∀ k, KFoot b hv' k → KFoot b hv k ∨ w.heap.size ≤ k) := by
  obtain ⟨L, pa, K, new, ap, hok, ok, len, ids, jl⟩ := M
  obtain ⟨_, _, d3, d4, d5⟩ := do_dec hr (by rw [h1]; exact ids_hit ids)
  refine (takes_dec b _ hv S f w K ok len (rightC_of f hr)).mono ?_
  rintro e w' ⟨he, hv', K', hT, hF⟩
  have hk' : ∀ k, KFoot b hv' k → w0.heap.size ≤ k := fun k hk => by
    rcases hF k hk with h1 | h1
    · exact new k h1
    · have := L.below.size; omega
  have hb : Below w0.heap.size w w' := ⟨hT.os, hT.tape, hT.output, hT.size, fun k hk => hT.block k (Nat.lt_of_lt_of_le hk L.below.size) (fun e => by have := new k e; omega)⟩
  refine ⟨he, hv', ⟨⟨L.led.same fun k hk => hT.block k (L.led.foot_lt hk) (fun e => ap k e hk), L.tab.turned hT (fun e => by have := new 0 e; have := L.pos; omega), L.ok, L.foot, L.below.trans hb, L.pos⟩, pa, by rw [d3, d4, d5]; exact K', hk', fun k hk hp => ?_, by rw [d3, d5]; exact hok_dec hok (rightC_of f hr), do_ids hr h1 ids, by have := j_do S f; omega⟩, hT, hF⟩
  rcases hF k hk with h1 | h1
  · exact ap k h1 hp
  · have := L.led.foot_lt hp; omega

end Go.Proofs.YtdblmheoghhepaaDoor
