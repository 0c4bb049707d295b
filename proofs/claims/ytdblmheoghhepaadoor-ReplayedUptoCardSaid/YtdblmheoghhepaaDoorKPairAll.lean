/- The caller's book beside the ledger: what 'takes' does is what 'Do' does. -/
import Derived.Test.YtdblmheoghhepaaDoorKKeep4
import Derived.Test.YtdblmheoghhepaaDoorKKeepAll
import Derived.Test.YtdblmheoghhepaaDoorKAwake2
import Derived.Test.YtdblmheoghhepaaDoorKPlain
namespace Go.Proofs.YtdblmheoghhepaaDoor
open Go.RowKit

theorem KAt.congr {w : World} {b : Nat} {l : Value} {now : Int} {P P' : Nat → Int} {hv : Value} {H H' : List (Nat → Int)} (h : KAt w b l now P hv H) (hP : ∀ k, k < 80 → P k = P' k) (hl : H.length = H'.length) (hf : H.flatMap hc = H'.flatMap hc) : KAt w b l now P' hv H' :=
  ⟨h.c0, h.c1, fun k hk => by rw [← hP k hk]; exact h.nums k hk, h.ch, h.free, by rw [← hl, ← hf]; exact h.rows, h.apart⟩

/-- What 'takes' leaves: the book as the ledger's. -/
def Took (w : World) (b : Nat) (l : Value) (hv : Value) (B : Led) (e : Ending) (w' : World) : Prop :=
  e = .returned (.bool true) ∧ ∃ hv', KAt w' b l B.now (pofG B.G) hv' B.H ∧ Turned (KFoot b hv) w w' ∧ (∀ k, KFoot b hv' k → KFoot b hv k ∨ w.heap.size ≤ k)

theorem takes_dec (b : Nat) (l : Value) (hv : Value) (B : Led) (f : Nat → Int) (w : World) (h : KAt w b l B.now (pofG B.G) hv B.H) (hO : LOk B) (hl : B.H.length ≤ 60) (hr : RightC f) :
    Calls Tryd.prog 18 #[.pointer (some ⟨b, 0, none⟩), cmdV f, ansV (dec B f).E (dec B f).N] w (Took w b l hv (dec B f).S) := by
  have hP := pofG_bd B.G hO.G
  have hn := hO.now
  by_cases hE : (dec B f).E = 0
  · rw [hE]
    have fin : ∀ {B' : Led} {e : Ending} {w' : World}, e = .returned (.bool true) → KAt w' b l B'.now (pofG B'.G) hv B'.H → Turned (KFoot b hv) w w' → Took w b l hv B' e w' := fun he hK hT => ⟨he, hv, hK, hT, fun _ hk => Or.inl hk⟩
    have mv : ∀ i q, (moveD B i q).E = 0 → (moveD B i q).S = { B with G := updG B.G i (B.G i + q) } := fun i q he => by
      unfold moveD moveE at he
      unfold moveD moveS
      split at he
      · rename_i hx; simp [hx]
      · cases he
    cases hr using RightC.kinds with
    | receive g hg e0 e2 e3 e4 q e6 e7 =>
      have e : dec B f = moveD B (g * 20) (f 5) := by simp [dec, e0, e2]
      have ec : cmdV f = cv 1 (f 1) g 0 0 (f 5) 0 0 := by simp [cmdV, e0, e2, e3, e4, e6, e7]
      rw [e] at hE ⊢
      rw [ec, mv _ _ hE, show (moveD B (g * 20) (f 5)).N = 0 from rfl]
      refine (takes1 b l B.now (pofG B.G) hv B.H (f 1) (f 5) g w h hg (hP g (by omega)) (by omega)).mono ?_
      rintro e' w' ⟨he, hK, hT⟩
      exact fin he (hK.congr (fun k hk => by rw [pofG_upd1 B.G g _ hg k hk, pofG_hand B.G g hg]) rfl rfl) hT
    | adjust g hg e0 e2 e3 e4 q e6 e7 =>
      have e : dec B f = moveD B (g * 20) (f 5) := by simp [dec, e0, e2]
      have ec : cmdV f = cv 7 (f 1) g 0 0 (f 5) 0 0 := by simp [cmdV, e0, e2, e3, e4, e6, e7]
      rw [e] at hE ⊢
      rw [ec, mv _ _ hE, show (moveD B (g * 20) (f 5)).N = 0 from rfl]
      refine (takes7 b l B.now (pofG B.G) hv B.H (f 1) (f 5) g w h hg (hP g (by omega)) (by omega)).mono ?_
      rintro e' w' ⟨he, hK, hT⟩
      exact fin he (hK.congr (fun k hk => by rw [pofG_upd1 B.G g _ hg k hk, pofG_hand B.G g hg]) rfl rfl) hT
    | plan g d hg hd e0 e2 e3 e4 q e6 e7 =>
      have e : dec B f = moveD B (g * 20 + 1 + d) (f 5) := by simp [dec, e0, e2, e4]
      have ec : cmdV f = cv 2 (f 1) g 0 d (f 5) 0 0 := by simp [cmdV, e0, e2, e3, e4, e6, e7]
      rw [e] at hE ⊢
      rw [ec, mv _ _ hE, show (moveD B (g * 20 + 1 + d) (f 5)).N = 0 from rfl]
      refine (takes2 b l B.now (pofG B.G) hv B.H (f 1) (f 5) g d w h hg hd (hP _ (by omega)) (by omega)).mono ?_
      rintro e' w' ⟨he, hK, hT⟩
      exact fin he (hK.congr (fun k hk => by rw [pofG_upd2 B.G g d _ hg hd k hk, pofG_plan B.G g d hg hd]) rfl rfl) hT
    | allot g c hg hc e0 e2 e3 e4 q e6 e7 =>
      have e : dec B f = moveD B (g * 20 + 17 + c) (f 5) := by simp [dec, e0, e2, e3]
      have ec : cmdV f = cv 3 (f 1) g c 0 (f 5) 0 0 := by simp [cmdV, e0, e2, e3, e4, e6, e7]
      rw [e] at hE ⊢
      rw [ec, mv _ _ hE, show (moveD B (g * 20 + 17 + c) (f 5)).N = 0 from rfl]
      refine (takes3 b l B.now (pofG B.G) hv B.H (f 1) (f 5) g c w h hg hc (hP _ (by omega)) (by omega)).mono ?_
      rintro e' w' ⟨he, hK, hT⟩
      exact fin he (hK.congr (fun k hk => by rw [pofG_upd3 B.G g c _ hg hc k hk, pofG_share B.G g c hg hc]) rfl rfl) hT
    | promise g c d hg hc hd e0 e2 e3 e4 q e6 t =>
      have e : dec B f = promiseD B g c d (f 5) (f 7) := by simp [dec, e0, e2, e3, e4]
      have ec : cmdV f = cv 4 (f 1) g c d (f 5) 0 (f 7) := by simp [cmdV, e0, e2, e3, e4, e6]
      rw [e] at hE ⊢
      have hm : mayE B g c d (f 5) = 0 := by
        unfold promiseD at hE
        split at hE
        · assumption
        · exact hE
      have ep : promiseD B g c d (f 5) (f 7) = ⟨{ B with H := B.H ++ [newH B g c d (f 5) (f 7)] }, 0, (B.H.length : Int) + 1⟩ := if_pos hm
      rw [ec, ep]
      refine (takes4 b l B.now (pofG B.G) hv B.H (f 1) (f 5) (f 7) g c d w h hn (by omega) hl).mono ?_
      rintro e' w' ⟨he, v', hK, hT, hF⟩
      refine ⟨he, v', hK.congr (fun _ _ => rfl) (by simp) ?_, hT, hF⟩
      rw [List.flatMap_append, List.flatMap_append]
      rfl
    | commit e0 e2 e3 e4 e5 o e7 =>
      have e : dec B f = closeD B (f 6) 2 := by simp [dec, e0]
      rw [e] at hE ⊢
      have hm : (openOf B.H (f 6)).isSome = true := by
        unfold closeD at hE
        split at hE
        · assumption
        · cases hE
      obtain ⟨x, hx⟩ := Option.isSome_iff_exists.1 hm
      obtain ⟨x1, xk, x7⟩ := of_open hx
      have ep : closeD B (f 6) 2 = ⟨{ B with H := closeAt B.H (f 6 - 1).toNat 2 }, 0, 0⟩ := if_pos hm
      have ec : cmdV f = cv 5 (f 1) 0 0 0 0 (((f 6 - 1).toNat : Int) + 1) 0 := by
        rw [show (((f 6 - 1).toNat : Int) + 1) = f 6 by omega]; simp [cmdV, e0, e2, e3, e4, e5, e7]
      rw [ec, ep]
      refine (takes5 b l B.now (pofG B.G) hv B.H (f 1) (f 6 - 1).toNat x w h hl xk x7).mono ?_
      rintro e' w' ⟨he, hK, hT⟩
      exact fin he hK hT
    | release e0 e2 e3 e4 e5 o e7 =>
      have e : dec B f = closeD B (f 6) 3 := by simp [dec, e0]
      rw [e] at hE ⊢
      have hm : (openOf B.H (f 6)).isSome = true := by
        unfold closeD at hE
        split at hE
        · assumption
        · cases hE
      obtain ⟨x, hx⟩ := Option.isSome_iff_exists.1 hm
      obtain ⟨x1, xk, x7⟩ := of_open hx
      have ep : closeD B (f 6) 3 = ⟨{ B with H := closeAt B.H (f 6 - 1).toNat 3 }, 0, 0⟩ := if_pos hm
      have ec : cmdV f = cv 6 (f 1) 0 0 0 0 (((f 6 - 1).toNat : Int) + 1) 0 := by
        rw [show (((f 6 - 1).toNat : Int) + 1) = f 6 by omega]; simp [cmdV, e0, e2, e3, e4, e5, e7]
      rw [ec, ep]
      refine (takes6 b l B.now (pofG B.G) hv B.H (f 1) (f 6 - 1).toNat x w h hl xk x7).mono ?_
      rintro e' w' ⟨he, hK, hT⟩
      exact fin he hK hT
    | tick e0 e2 e3 e4 e5 e6 t =>
      have e : dec B f = tickD B (f 7) := by simp [dec, e0]
      have ec : cmdV f = cv 8 (f 1) 0 0 0 0 0 (f 7) := by simp [cmdV, e0, e2, e3, e4, e5, e6]
      rw [e] at hE ⊢
      have hm : ¬ B.now + f 7 > 1000000 := by
        unfold tickD at hE
        split at hE
        · cases hE
        · assumption
      have ep : tickD B (f 7) = ⟨{ B with now := B.now + f 7, H := expL (B.now + f 7) B.H }, 0, 0⟩ := if_neg hm
      rw [ec, ep]
      refine (takes8 b l B.now (pofG B.G) hv B.H (f 1) (f 7) w h hl hn (by omega)).mono ?_
      rintro e' w' ⟨he, hK, hT⟩
      exact fin he hK hT
  · rw [dec_N B f hE, dec_err B f hE]
    refine (takes_err b f _ w hE).mono ?_
    rintro e' w' ⟨he, hb⟩
    exact ⟨he, hv, h.below hb, Turned.ofBelow hb, fun _ hk => Or.inl hk⟩

end Go.Proofs.YtdblmheoghhepaaDoor

/- The caller's book beside the ledger, command behind command. -/
namespace Go.Proofs.YtdblmheoghhepaaDoor
open Go.RowKit

/-- The Ids of the last answers lie below n. -/
def IdsB (A : Nat → Int) (n : Nat) : Prop := ∀ i, i < 8 → A (i * 10) ≠ 0 → A (i * 10 + 1) < (n : Int)
theorem ids_hit {A : Nat → Int} {n : Nat} (h : IdsB A n) : hitOf A (n : Int) = none := by
  unfold hitOf
  rw [List.find?_eq_none]
  intro i hi
  rw [List.mem_range] at hi
  unfold hitA
  intro hh
  simp only [Bool.and_eq_true, bne_iff_ne, beq_iff_eq] at hh
  have := h i hi hh.1
  omega
theorem ids_push {A : Nat → Int} {n : Nat} (h : IdsB A n) (f : Nat → Int) (E N : Int) (h1 : f 1 = (n : Int)) : IdsB (pushA A (ansRow f E N)) (n + 1) := by
  intro i hi h0
  unfold pushA at h0 ⊢
  by_cases e : i = 0
  · subst e
    show f 1 < _
    omega
  · rw [if_neg (by omega)] at h0 ⊢
    have := h (i - 1) (by omega)
    rw [show (i - 1) * 10 = i * 10 - 10 by omega] at this
    have := this h0
    rw [show i * 10 + 1 - 10 = i * 10 - 10 + 1 by omega]
    omega

theorem do_ids {S : Led} {f : Nat → Int} {n : Nat} (hr : refOk f = true) (h1 : f 1 = (n : Int)) (h : IdsB S.A n) : IdsB (doD S f).S.A (n + 1) := by
  have up : IdsB S.A (n + 1) := fun i hi h0 => by have := h i hi h0; omega
  unfold doD
  rw [if_pos hr, h1, ids_hit h]
  by_cases hE : (dec S f).E = 0
  · simp only [hE, if_true]
    exact ids_push h f _ _ h1
  · simp only [hE, if_false]
    exact up

structure Run (w0 w : World) (p : Adr) (a b : Nat) (hv : Value) (S : Led) (n : Nat) : Prop where
  live : Live w0 w p S
  pa : p.a = a
  book : KAt w b (.pointer (some ⟨a, 0, none⟩)) S.now (pofG S.G) hv S.H
  new : ∀ k, KFoot b hv k → w0.heap.size ≤ k
  apart : ∀ k, KFoot b hv k → ¬ p.foot k
  hok : HOk S.now S.H
  ids : IdsB S.A n
  jl : S.J.length ≤ 37 * n

/-- Behind 'Do', ahead of 'takes'. -/
structure Mid (w0 w : World) (p : Adr) (a b : Nat) (hv : Value) (S S' : Led) (n : Nat) : Prop where
  live : Live w0 w p S'
  pa : p.a = a
  book : KAt w b (.pointer (some ⟨a, 0, none⟩)) S.now (pofG S.G) hv S.H
  new : ∀ k, KFoot b hv k → w0.heap.size ≤ k
  apart : ∀ k, KFoot b hv k → ¬ p.foot k
  hok : HOk S.now S.H
  ok : LOk S
  len : S.H.length ≤ 60
  ids : IdsB S.A n
  jl : S.J.length ≤ 37 * n

theorem KAt.lt {w : World} {b : Nat} {l : Value} {now : Int} {P : Nat → Int} {hv : Value} {H : List (Nat → Int)} (h : KAt w b l now P hv H) {k : Nat} (hk : KFoot b hv k) : k < w.heap.size := by
  rcases hk with rfl | hk
  · exact h.b_lt
  · exact h.row_lt hk

theorem Run.below {w0 w w' : World} {p : Adr} {a b : Nat} {hv : Value} {S : Led} {n : Nat} (h : Run w0 w p a b hv S n) (hb : Below w.heap.size w w') : Run w0 w' p a b hv S n :=
  ⟨h.live.mk' hb, h.pa, h.book.below hb, h.new, h.apart, h.hok, h.ids, h.jl⟩
theorem Mid.below {w0 w w' : World} {p : Adr} {a b : Nat} {hv : Value} {S S' : Led} {n : Nat} (h : Mid w0 w p a b hv S S' n) (hb : Below w.heap.size w w') : Mid w0 w' p a b hv S S' n :=
  ⟨h.live.mk' hb, h.pa, h.book.below hb, h.new, h.apart, h.hok, h.ok, h.len, h.ids, h.jl⟩

theorem do_run (w0 w : World) (p : Adr) (a b : Nat) (hv : Value) (S : Led) (n : Nat) (f : Nat → Int) (R : Run w0 w p a b hv S n) (hr : refOk f = true) (h1 : f 1 = (n : Int)) (hn : n ≤ 2000000) :
    Calls Tryd.prog 17 #[.pointer (some ⟨a, 0, none⟩), cmdV f] w fun e w' => e = .returned (ansV (dec S f).E (dec S f).N) ∧ ∃ p', Mid w0 w' p' a b hv S (doD S f).S n ∧ Turned p.foot w w' ∧ (∀ k, p'.foot k → p.foot k ∨ w.heap.size ≤ k) := by
  obtain ⟨L, pa, K, new, ap, hok, ids, jl⟩ := R
  subst pa
  refine (do_any p S f w L.tab L.led L.ok (by omega)).mono ?_
  rintro e w' ⟨p', rfl, hL, hT, hF, ha'⟩
  have hb : Below w0.heap.size w w' := ⟨hT.os, hT.tape, hT.output, hT.size, fun k hk => hT.block k (Nat.lt_of_lt_of_le hk L.below.size) (fun e => by have := L.foot k e; omega)⟩
  have hd := do_dec hr (by rw [h1]; exact ids_hit ids)
  refine ⟨by rw [hd.1, hd.2.1], p', ⟨⟨hL, L.tab.turned hT (fun e => by have := L.foot 0 e; have := L.pos; omega), lok_do L.ok _, fun k hk => ?_, L.below.trans hb, L.pos⟩, ha', ?_, new, fun k hk hp => ?_, hok, L.ok, L.led.book.len, ids, jl⟩, hT, hF⟩
  · rcases hF k hk with h1 | h1
    · exact L.foot k h1
    · have := L.below.size; omega
  · exact K.same fun k hk => hT.block k (K.lt hk) (ap k hk)
  · rcases hF k hp with h1 | h1
    · exact ap k hk h1
    · have := K.lt hk; omega

theorem takes_run (w0 w : World) (p : Adr) (a b : Nat) (hv : Value) (S : Led) (n : Nat) (f : Nat → Int) (M : Mid w0 w p a b hv S (doD S f).S n) (hr : refOk f = true) (h1 : f 1 = (n : Int)) :
    Calls Tryd.prog 18 #[.pointer (some ⟨b, 0, none⟩), cmdV f, ansV (dec S f).E (dec S f).N] w fun e w' => e = .returned (.bool true) ∧ ∃ hv', Run w0 w' p a b hv' (doD S f).S (n + 1) ∧ Turned (KFoot b hv) w w' ∧ (∀ k, KFoot b hv' k → KFoot b hv k ∨ w.heap.size ≤ k) := by
  obtain ⟨L, pa, K, new, ap, hok, ok, len, ids, jl⟩ := M
  obtain ⟨_, _, d3, d4, d5⟩ := do_dec hr (by rw [h1]; exact ids_hit ids)
  refine (takes_dec b _ hv S f w K ok len (rightC_of f hr)).mono ?_
  rintro e w' ⟨he, hv', K', hT, hF⟩
  have hk' : ∀ k, KFoot b hv' k → w0.heap.size ≤ k := fun k hk => by
    rcases hF k hk with h1 | h1
    · exact new k h1
    · have := L.below.size; omega
  have hb : Below w0.heap.size w w' := ⟨hT.os, hT.tape, hT.output, hT.size, fun k hk => hT.block k (Nat.lt_of_lt_of_le hk L.below.size) (fun e => by have := new k e; omega)⟩
  refine ⟨he, hv', ⟨⟨L.led.same fun k hk => hT.block k (L.led.foot_lt hk) (fun e => ap k e hk), L.tab.turned hT (fun e => by have := new 0 e; have := L.pos; omega), L.ok, L.foot, L.below.trans hb, L.pos⟩, pa, by rw [d3, d4, d5]; exact K', hk', fun k hk hp => ?_, by rw [d3, d5]; exact hok_dec hok (rightC_of f hr), do_ids hr h1 ids, by have := j_do S f; omega⟩, hT, hF⟩
  rcases hF k hk with h1 | h1
  · exact ap k h1 hp
  · have := L.led.foot_lt hp; omega

end Go.Proofs.YtdblmheoghhepaaDoor
