/- The document's ledger: 'decides' at every right command. -/
import Derived.Test.YtdblmheoghhepaaGreatDoorKRefPromise
namespace Go.Proofs.YtdblmheoghhepaaGreatDoor
open Go.RowKit

theorem rprom_any (r : RAdr) (S : Led) (D : List (Nat → Int)) (id q t : Int) (g c d : Nat) (w : World) (h : RLed w r S D) (hO : LOk S) (hg : g < 4) (hc3 : c < 3) (hd : d < 16) (ht : 0 ≤ t ∧ t ≤ 1000) :
    Calls Tryz.prog 81 #[.pointer (some ⟨r.q, 0, none⟩), cv 4 id g c d q 0 t] w (RDecd w r (promiseD S g c d q t).S D (promiseD S g c d q t).E (promiseD S g c d q t).N) := by
  unfold promiseD mayE
  by_cases hm : 60 ≤ S.H.length
  · simp only [hm, if_true]
    rw [if_neg (by decide)]
    exact rprom_many r S D id q t g c d w h hm
  · by_cases hf : freeS S g c < q
    · simp only [hm, hf, if_true, if_false]
      rw [if_neg (by decide)]
      exact rprom_share r S D id q t g c d w h hO hg hc3 hd hm hf
    · by_cases hs : atpS S g d < q
      · simp only [hm, hf, hs, if_true, if_false]
        rw [if_neg (by decide)]
        exact rprom_stock r S D id q t g c d w h hO hg hc3 hd hm hf hs
      · simp only [hm, hf, hs, if_true, if_false]
        exact rprom_yes r S D id q t g c d w h hO hg hc3 hd hm hf hs ht

set_option maxRecDepth 100000 in
set_option maxHeartbeats 4000000 in
theorem rdec4 (r : RAdr) (S : Led) (D : List (Nat → Int)) (id q t : Int) (g c d : Nat) (w : World) (h : RLed w r S D) (hO : LOk S) (hg : g < 4) (hc3 : c < 3) (hd : d < 16) (ht : 0 ≤ t ∧ t ≤ 1000) :
    Calls Tryz.prog 53 #[.pointer (some ⟨r.q, 0, none⟩), cv 4 id g c d q 0 t] w (RDecd w r (promiseD S g c d q t).S D (promiseD S g c d q t).E (promiseD S g c d q t).N) := by
  have hfoot : ∀ k, r.foot k → k < w.heap.size := fun k hk => h.foot_lt hk
  have Bw : Below w.heap.size w (((w.alloc (.cells (cc 4 id g c d q 0 t) 33)).alloc (.cells #[.int .i64 0, .int .i64 0] 66)).alloc (.cells #[.int .i64 6, .int .i64 0] 66)) := ((((Below.refl _ _).alloc (Nat.le_refl _) _).alloc (by simp) _).alloc (by simp; omega) _)
  have h1 : RLed _ r S D := h.below Bw
  have n0 : ¬ r.foot (w.heap.size + 1) := fun e => by have := hfoot _ e; omega
  have hp := rprom_any r S D id q t g c d _ h1 hO hg hc3 hd ht
  generalize promiseD S g c d q t = X at *
  clear h h1 hO
  go_enter Tryz.func53, Tryz.ntmps53
  go_wp2_with fail
  refine hp.mono ?_
  rintro e w2 ⟨r2, rfl, K2, T2, F2, q2⟩
  have y0 : w2.cell? ⟨w.heap.size + 1, 0, none⟩ = some (.int .i64 0) := (T2.cell (b := w.heap.size + 1) (by simp) n0 0).trans (by simp [go_sem])
  have y1 : w2.cell? ⟨w.heap.size + 1, 1, none⟩ = some (.int .i64 0) := (T2.cell (b := w.heap.size + 1) (by simp) n0 1).trans (by simp [go_sem])
  have f0 : w2.frozen? ⟨w.heap.size + 1, 0, none⟩ = false := (World.frozen?_of_block (T2.block (w.heap.size + 1) (by simp) n0)).trans (by simp [go_sem])
  have f1 : w2.frozen? ⟨w.heap.size + 1, 1, none⟩ = false := (World.frozen?_of_block (T2.block (w.heap.size + 1) (by simp) n0)).trans (by simp [go_sem])
  have n2 : ¬ r2.foot (w.heap.size + 1) := fun e => by
    rcases F2 _ e with e | e
    · exact n0 e
    · simp at e
      omega
  obtain ⟨K4, T4⟩ := rans_set (r := r) K2 ((Turned.ofBelow Bw).trans T2) (w.heap.size + 1) (Nat.le_succ _) n2 (.int .i64 X.E) (.int .i64 X.N)
  have Q2 := hid q2
  clear K2 T2 hp Bw q2
  go_wp2
  exact bodyPost_ret (v := ansV X.E X.N) (by simp [results, Tryz.results53, go_sem, y0, y1]) rfl ⟨r2, rfl, K4, T4, fun k hk => by
    rcases F2 k hk with e | e
    · exact Or.inl e
    · simp at e
      exact Or.inr (by omega), Q2.out⟩

theorem rdecides_any (r : RAdr) (S : Led) (D : List (Nat → Int)) (f : Nat → Int) (w : World) (h : RLed w r S D) (hO : LOk S) (hl : S.H.length ≤ 60) (hr : RightC f) :
    Calls Tryz.prog 53 #[.pointer (some ⟨r.q, 0, none⟩), cmdV f] w (RDecd w r (dec S f).S D (dec S f).E (dec S f).N) := by
  have hclose : ∀ (o s : Int), 1 ≤ o → (∀ (k : Nat) (x : Nat → Int), S.H[k]? = some x → x 7 = 1 → o = (k : Int) + 1 → Calls Tryz.prog 53 #[.pointer (some ⟨r.q, 0, none⟩), cmdV f] w (RDecd w r { S with H := closeAt S.H k s } D 0 0)) →
      ((S.H.length : Int) < o → Calls Tryz.prog 53 #[.pointer (some ⟨r.q, 0, none⟩), cmdV f] w (RDecd w r S D 5 0)) →
      (∀ (k : Nat) (x : Nat → Int), S.H[k]? = some x → x 7 ≠ 1 → o = (k : Int) + 1 → Calls Tryz.prog 53 #[.pointer (some ⟨r.q, 0, none⟩), cmdV f] w (RDecd w r S D 5 0)) →
      Calls Tryz.prog 53 #[.pointer (some ⟨r.q, 0, none⟩), cmdV f] w (RDecd w r (closeD S o s).S D (closeD S o s).E (closeD S o s).N) := by
    intro o s ho hyes hpast hshut
    unfold closeD
    by_cases hm : (openOf S.H o).isSome = true
    · rw [if_pos hm]
      obtain ⟨x, hx⟩ := Option.isSome_iff_exists.1 hm
      obtain ⟨x1, xk, x7⟩ := of_open hx
      exact hyes (o - 1).toNat x xk x7 (by omega)
    · rw [if_neg hm]
      by_cases hp : (S.H.length : Int) < o
      · exact hpast hp
      · obtain ⟨x, hx⟩ : ∃ x, S.H[(o - 1).toNat]? = some x := ⟨S.H[(o - 1).toNat]'(by omega), List.getElem?_eq_getElem _⟩
        refine hshut (o - 1).toNat x hx (fun h7 => hm ?_) (by omega)
        rw [(at_open ho hx).1, if_pos h7]
        rfl
  cases hr using RightC.kinds with
  | receive g hg e0 e2 e3 e4 q e6 e7 =>
    have e : dec S f = moveD S (g * 20) (f 5) := by simp [dec, e0, e2]
    have ec : cmdV f = cv 1 (f 1) g 0 0 (f 5) 0 0 := by simp [cmdV, e0, e2, e3, e4, e6, e7]
    rw [e, ec]
    exact rdec1 r S D (f 1) (f 5) w h hO g hg (by omega)
  | adjust g hg e0 e2 e3 e4 q e6 e7 =>
    have e : dec S f = moveD S (g * 20) (f 5) := by simp [dec, e0, e2]
    have ec : cmdV f = cv 7 (f 1) g 0 0 (f 5) 0 0 := by simp [cmdV, e0, e2, e3, e4, e6, e7]
    rw [e, ec]
    exact rdec7 r S D (f 1) (f 5) w h hO g hg (by omega)
  | plan g d hg hd e0 e2 e3 e4 q e6 e7 =>
    have e : dec S f = moveD S (g * 20 + 1 + d) (f 5) := by simp [dec, e0, e2, e4]
    have ec : cmdV f = cv 2 (f 1) g 0 d (f 5) 0 0 := by simp [cmdV, e0, e2, e3, e4, e6, e7]
    rw [e, ec]
    exact rdec2 r S D (f 1) (f 5) w h hO g hg d hd (by omega)
  | allot g c hg hc e0 e2 e3 e4 q e6 e7 =>
    have e : dec S f = moveD S (g * 20 + 17 + c) (f 5) := by simp [dec, e0, e2, e3]
    have ec : cmdV f = cv 3 (f 1) g c 0 (f 5) 0 0 := by simp [cmdV, e0, e2, e3, e4, e6, e7]
    rw [e, ec]
    exact rdec3 r S D (f 1) (f 5) w h hO g hg c hc (by omega)
  | promise g c d hg hc hd e0 e2 e3 e4 q e6 t =>
    have e : dec S f = promiseD S g c d (f 5) (f 7) := by simp [dec, e0, e2, e3, e4]
    have ec : cmdV f = cv 4 (f 1) g c d (f 5) 0 (f 7) := by simp [cmdV, e0, e2, e3, e4, e6]
    rw [e, ec]
    exact rdec4 r S D (f 1) (f 5) (f 7) g c d w h hO hg hc hd (by omega)
  | commit e0 e2 e3 e4 e5 o e7 =>
    have e : dec S f = closeD S (f 6) 2 := by simp [dec, e0]
    have ec : cmdV f = cv 5 (f 1) 0 0 0 0 (f 6) 0 := by simp [cmdV, e0, e2, e3, e4, e5, e7]
    rw [e]
    refine hclose (f 6) 2 o.1 (fun k x hx h7 ek => ?_) (fun hp => ?_) (fun k x hx h7 ek => ?_)
    · rw [ec, ek]; exact rdec5_yes r S D (f 1) k x w h hl hx h7
    · rw [ec]; exact rdec5_past r S D (f 1) (f 6) w h hp
    · rw [ec, ek]; exact rdec5_shut r S D (f 1) k x w h hl hx h7
  | release e0 e2 e3 e4 e5 o e7 =>
    have e : dec S f = closeD S (f 6) 3 := by simp [dec, e0]
    have ec : cmdV f = cv 6 (f 1) 0 0 0 0 (f 6) 0 := by simp [cmdV, e0, e2, e3, e4, e5, e7]
    rw [e]
    refine hclose (f 6) 3 o.1 (fun k x hx h7 ek => ?_) (fun hp => ?_) (fun k x hx h7 ek => ?_)
    · rw [ec, ek]; exact rdec6_yes r S D (f 1) k x w h hl hx h7
    · rw [ec]; exact rdec6_past r S D (f 1) (f 6) w h hp
    · rw [ec, ek]; exact rdec6_shut r S D (f 1) k x w h hl hx h7
  | tick e0 e2 e3 e4 e5 e6 t =>
    have e : dec S f = tickD S (f 7) := by simp [dec, e0]
    have ec : cmdV f = cv 8 (f 1) 0 0 0 0 0 (f 7) := by simp [cmdV, e0, e2, e3, e4, e5, e6]
    rw [e, ec]
    unfold tickD
    split
    · rename_i hm
      exact rdec8_no r S D (f 1) (f 7) w h hO (by omega) hm
    · rename_i hm
      exact rdec8_yes r S D (f 1) (f 7) w h hO hl (by omega) hm

end Go.Proofs.YtdblmheoghhepaaGreatDoor
