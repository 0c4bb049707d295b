/- A command sent again: the last answers hold it for seven commands more. -/
import Derived.Test.YtdblmheoghhepaaDoorKBoxes
import Derived.Test.YtdblmheoghhepaaDoorKPlain
namespace Go.Proofs.YtdblmheoghhepaaDoor
open Go.RowKit

/-- The command f, answered OK with N, stands among the last m + 1 answers, and no other of the last eight has its Id. -/
def Kept (A f : Nat → Int) (N : Int) (m : Nat) : Prop :=
  ∃ i, i ≤ m ∧ (∀ j, j < 8 → A (i * 10 + j) = f j) ∧ A (i * 10 + 8) = 0 ∧ A (i * 10 + 9) = N ∧ ∀ i', i' < 8 → i' ≠ i → A (i' * 10) ≠ 0 → A (i' * 10 + 1) ≠ f 1

theorem kept_new {A f : Nat → Int} {n : Nat} (h : IdsB A n) (h1 : f 1 = (n : Int)) (N : Int) : Kept (pushA A (ansRow f 0 N)) f N 0 := by
  refine ⟨0, Nat.le_refl _, fun j hj => ?_, rfl, rfl, fun i hi hne h0 => ?_⟩
  · unfold pushA
    rw [if_pos (by omega), Nat.zero_mul, Nat.zero_add]
    exact ansRow_at f 0 N j hj
  · unfold pushA at h0 ⊢
    rw [if_neg (by omega)] at h0 ⊢
    have := h (i - 1) (by omega)
    rw [show (i - 1) * 10 = i * 10 - 10 by omega] at this
    have := this h0
    rw [show i * 10 + 1 - 10 = i * 10 - 10 + 1 by omega, h1]
    omega
theorem kept_push {A f g : Nat → Int} {N : Int} {m : Nat} (h : Kept A f N m) (E N' : Int) (hg : g 1 ≠ f 1) : Kept (pushA A (ansRow g E N')) f N (m + 1) := by
  obtain ⟨i, hi, h1, h2, h3, h4⟩ := h
  have at_ : ∀ i j, pushA A (ansRow g E N') ((i + 1) * 10 + j) = A (i * 10 + j) := fun i j => by
    unfold pushA
    rw [if_neg (by omega), show (i + 1) * 10 + j - 10 = i * 10 + j by omega]
  refine ⟨i + 1, by omega, fun j hj => by rw [at_]; exact h1 j hj, by rw [at_]; exact h2, by rw [at_]; exact h3, fun i' hi' hne h0 => ?_⟩
  by_cases e : i' = 0
  · subst e
    show g 1 ≠ f 1
    exact hg
  · obtain ⟨i0, rfl⟩ : ∃ i0, i' = i0 + 1 := ⟨i' - 1, by omega⟩
    have a0 := at_ i0 0
    rw [Nat.add_zero, Nat.add_zero] at a0
    rw [a0] at h0
    rw [at_]
    exact h4 i0 (by omega) (by omega) h0
theorem kept_mono {A f : Nat → Int} {N : Int} {m : Nat} (h : Kept A f N m) : Kept A f N (m + 1) := by
  obtain ⟨i, hi, r⟩ := h
  exact ⟨i, by omega, r⟩
theorem kept_do {S : Led} {f g : Nat → Int} {N : Int} {m : Nat} (h : Kept S.A f N m) (hg : g 1 ≠ f 1) : Kept (doD S g).S.A f N (m + 1) := by
  unfold doD
  split
  · split
    · split <;> exact kept_mono h
    · split
      · exact kept_push h _ _ hg
      · exact kept_mono h
  · exact kept_mono h
theorem kept_hit {A f : Nat → Int} {N : Int} {m : Nat} (h : Kept A f N m) (hm : m ≤ 7) (h0 : f 0 ≠ 0) : ∃ i, hitOf A (f 1) = some i ∧ (∀ j, j < 8 → rowA A i j = f j) ∧ rowA A i 8 = 0 ∧ rowA A i 9 = N := by
  obtain ⟨i, hi, h1, h2, h3, h4⟩ := h
  refine ⟨i, ?_, h1, h2, h3⟩
  unfold hitOf
  rw [List.find?_range_eq_some]
  refine ⟨?_, List.mem_range.2 (by omega), fun j hj => ?_⟩
  · unfold hitA
    have a := h1 0 (by omega)
    have b := h1 1 (by omega)
    rw [Nat.add_zero] at a
    rw [a, b]
    simp [h0]
  · unfold hitA
    by_cases e : A (j * 10) = 0
    · simp [e]
    · have := h4 j (by omega) (by omega) e
      simp [this]
theorem do_again {S : Led} {f : Nat → Int} {N : Int} {m : Nat} (h : Kept S.A f N m) (hm : m ≤ 7) (hr : refOk f = true) : doD S f = ⟨S, 0, N⟩ := by
  have hk := refOk_kind f hr
  obtain ⟨i, h1, h2, h3, h4⟩ := kept_hit h hm (by omega)
  unfold doD
  rw [if_pos hr, h1]
  simp only [same8_of h2, if_true, h3, h4]
theorem do_diff {S : Led} {f g : Nat → Int} {N : Int} {m : Nat} (h : Kept S.A f N m) (hm : m ≤ 7) (hr : refOk f = true) (h1 : g 1 = f 1) (j : Nat) (hj : j < 8) (hd : g j ≠ f j) : doD S g = ⟨S, 1, 0⟩ := by
  have hk := refOk_kind f hr
  obtain ⟨i, e1, h2, h3, h4⟩ := kept_hit h hm (by omega)
  unfold doD
  split
  · rw [h1, e1]
    have hn : same8 (rowA S.A i) g = false := by
      cases hb : same8 (rowA S.A i) g with
      | false => rfl
      | true => exact absurd (((same8_to hb) j hj).symm.trans (h2 j hj)) hd
    simp [hn]
  · rfl

theorem Mid.run {w0 w : World} {p : Adr} {a b : Nat} {hv : Value} {S : Led} {n : Nat} (h : Mid w0 w p a b hv S S n) : Run w0 w p a b hv S n := ⟨h.live, h.pa, h.book, h.new, h.apart, h.hok, h.ids, h.jl⟩

theorem Side.turn {w w' : World} {p p' : Adr} {b : Nat} {hv hv' : Value} {c : Nat} {f : Nat → Int} {q : Nat} {E N : Int} (h : Side w p b hv c f q E N) (hs : w.heap.size ≤ w'.heap.size)
    (ho : ∀ g, g < w.heap.size → ¬ p.foot g → ¬ KFoot b hv g → w'.heap[g]? = w.heap[g]? ∧ ¬ p'.foot g ∧ ¬ KFoot b hv' g) : Side w' p' b hv' c f q E N := by
  obtain ⟨c1, c2, c3⟩ := ho c h.cl h.cf h.ck
  obtain ⟨q1, q2, q3⟩ := ho q h.ql h.qf h.qk
  exact ⟨fun j hj => (World.cell?_of_block (a := ⟨c, j, none⟩) c1).trans (h.cmd j hj), (World.cell?_of_block (a := ⟨q, 0, none⟩) q1).trans h.a0, (World.cell?_of_block (a := ⟨q, 1, none⟩) q1).trans h.a1, Nat.lt_of_lt_of_le h.cl hs, c2, q2, c3, q3⟩

/-- 'Do' of any command, where nothing is turned. -/
theorem do_still (w0 w3 W : World) (p : Adr) (a b : Nat) (hv : Value) (S : Led) (n : Nat) (f : Nat → Int) (E N : Int) (c : Nat) (R : Run w0 w3 p a b hv S n) (hD : Hid (doD S f = ⟨S, E, N⟩)) (hn : n ≤ 1048600) (hc : CmdAt w3 c f) (hcl : c < w3.heap.size) (hcf : ¬ p.foot c) (hck : ¬ KFoot b hv c) (hb : Below w3.heap.size w3 W) (q : Nat) (hq : w3.heap.size = q) :
    Calls Tryd.prog 17 #[.pointer (some ⟨a, 0, none⟩), cmdV f] W fun e w4 => e = .returned (ansV E N) ∧ ∃ p', Did w0 w3 q W w4 p p' a b hv S S n c f := by
  subst hq
  have R' := R.below hb
  obtain ⟨L, pa, K, new, ap, hok, ids, jl⟩ := R'
  subst pa
  refine (do_any p S f W L.tab L.led L.ok (by omega)).mono ?_
  rw [hD.out]
  rintro e w' ⟨p', rfl, hL, T, hpf, ha'⟩
  have hb0 : Below w0.heap.size W w' := ⟨T.os, T.tape, T.output, T.size, fun k hk => T.block k (Nat.lt_of_lt_of_le hk L.below.size) (fun e => by have := L.foot k e; omega)⟩
  have hsz := hb.size
  have nf : ¬ p.foot w3.heap.size := fun e => by have := R.live.led.foot_lt e; omega
  have M : Mid w0 w' p' p.a b hv S S n := ⟨⟨hL, L.tab.turned T (fun e => by have := L.foot 0 e; have := L.pos; omega), L.ok, fun k hk => by
      rcases hpf k hk with h1 | h1
      · exact L.foot k h1
      · have := L.below.size; omega, L.below.trans hb0, L.pos⟩, ha', K.same fun k hk => T.block k (K.lt hk) (ap k hk), new, fun k hk hp => by
      rcases hpf k hp with h1 | h1
      · exact ap k hk h1
      · have := K.lt hk; omega, hok, L.ok, L.led.book.len, ids, jl⟩
  refine ⟨rfl, p', M, (hc.below hb hcl).turned T (by omega) hcf, T.size, M.book.c0, fun o ho => T.cell ho nf o, fun o ho => T.frozen ho nf o, fun ho e => ?_, fun e => ?_, fun e => ?_, fun g hg hp => ⟨(T.block g (by omega) hp).trans (hb.block g hg), fun e => ?_⟩, hck⟩
  · rcases hpf _ e with h | h
    · exact nf h
    · omega
  · rcases hpf _ e with h | h
    · exact hcf h
    · omega
  · have := R.book.lt e; omega
  · rcases hpf _ e with h | h
    · exact hp h
    · omega

end Go.Proofs.YtdblmheoghhepaaDoor
