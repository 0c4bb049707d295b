/- 'awake', 'opened' walked. -/
import Derived.Test.YtdblmheoghhepaaDoorKAwake
import Derived.Test.YtdblmheoghhepaaDoorKKeepAll
namespace Go.Proofs.YtdblmheoghhepaaDoor
open Go.RowKit

theorem A1j : A1.J.length ≤ 37 := by
  have := j_do S0 (eight 1 1 2 0 0 9 0 0)
  have e : S0.J.length = 0 := rfl
  unfold A1
  omega
theorem A2j : A2.J.length ≤ 74 := by
  have := j_do A1 (eight 3 2 2 1 0 6 0 0)
  have := A1j
  unfold A2
  omega

theorem do_at (a : Nat) (w0 : World) (p : Adr) (S : Led) (a0 a1 a2 a3 a4 a5 a6 a7 : Int) (w : World) (ha : Hid (p.a = a)) (h : Live w0 w p S) (hJ : S.J.length ≤ 140737488355000) :
    Calls Tryd.prog 17 #[.pointer (some ⟨a, 0, none⟩), cv a0 a1 a2 a3 a4 a5 a6 a7] w fun e w' => e = .returned (ansV (doD S (eight a0 a1 a2 a3 a4 a5 a6 a7)).E (doD S (eight a0 a1 a2 a3 a4 a5 a6 a7)).N) ∧ ∃ p' : Adr, Hid (p'.a = a) ∧ Live w0 w' p' (doD S (eight a0 a1 a2 a3 a4 a5 a6 a7)).S ∧ Turned p.foot w w' ∧ (∀ k, p'.foot k → p.foot k ∨ w.heap.size ≤ k) := by
  have e : p.a = a := ha
  subst e
  refine (do_any p S (eight a0 a1 a2 a3 a4 a5 a6 a7) w h.tab h.led h.ok hJ).mono ?_
  rintro e w' ⟨p', rfl, hL, hT, hF, ha'⟩
  have hb : Below w0.heap.size w w' := ⟨hT.os, hT.tape, hT.output, hT.size, fun k hk => hT.block k (Nat.lt_of_lt_of_le hk h.below.size) (fun e => by have := h.foot k e; omega)⟩
  exact ⟨rfl, p', ha', ⟨hL, h.tab.turned hT (fun e => by have := h.foot 0 e; have := h.pos; omega), lok_do h.ok _, fun k hk => by
    rcases hF k hk with h1 | h1
    · exact h.foot k h1
    · have := h.below.size; omega, h.below.trans hb, h.pos⟩, hT, hF⟩

/-- A box that lies outside a ledger keeps its two numbers. -/
def Box (w : World) (p : Adr) (b : Nat) (x y : Int) : Prop := b < w.heap.size ∧ ¬ p.foot b ∧ w.cell? ⟨b, 0, none⟩ = some (.int .i64 x) ∧ w.cell? ⟨b, 1, none⟩ = some (.int .i64 y)
theorem Box.new {w : World} {p : Adr} {S : Led} (h : LedAt w p S) (x y : Int) : Box (w.alloc (.cells #[.int .i64 x, .int .i64 y] 39)) p w.heap.size x y := by
  refine ⟨by simp, fun e => by have := h.foot_lt e; omega, ?_, ?_⟩ <;> simp [go_sem]
theorem Box.turned {w w' : World} {p p' : Adr} {b : Nat} {x y : Int} (h : Box w p b x y) (hT : Turned p.foot w w') (hF : ∀ k, p'.foot k → p.foot k ∨ w.heap.size ≤ k) : Box w' p' b x y := by
  obtain ⟨h1, h2, h3, h4⟩ := h
  refine ⟨Nat.lt_of_lt_of_le h1 hT.size, fun e => ?_, (hT.cell h1 h2 0).trans h3, (hT.cell h1 h2 1).trans h4⟩
  rcases hF b e with e1 | e1
  · exact h2 e1
  · omega
theorem Box.below {w w' : World} {p : Adr} {b : Nat} {x y : Int} (h : Box w p b x y) (hb : Below w.heap.size w w') : Box w' p b x y := by
  obtain ⟨h1, h2, h3, h4⟩ := h
  exact ⟨Nat.lt_of_lt_of_le h1 hb.size, h2, (hb.cell (p := ⟨b, 0, none⟩) h1).trans h3, (hb.cell (p := ⟨b, 1, none⟩) h1).trans h4⟩

set_option maxRecDepth 100000 in
set_option maxHeartbeats 4000000 in
theorem awake_any (w : World) (hT : TabW w) : Calls Tryd.prog 36 #[] w fun e w' => e = .returned (.bool true) ∧ Below w.heap.size w w' := by
  go_enter Tryd.func36, Tryd.ntmps36
  go_wp2_with fail
  refine (new_any w).mono ?_
  rintro e w1 ⟨p, rfl, hL, hf, hb⟩
  have V1 := live_new hT hL hf hb
  obtain ⟨a, ha⟩ : ∃ a, p.a = a := ⟨_, rfl⟩
  rw [ha]
  have HA1 : Hid (p.a = a) := ha
  clear hL hf hb ha
  go_wp2_with fail
  refine (do_at a w p S0 1 1 2 0 0 9 0 0 w1 HA1 V1 (by show 0 ≤ _; omega)).mono ?_
  rintro e w2 ⟨rfl, p2, HA2, V2, hq1, hq2⟩
  clear hq1 hq2
  rw [aw1.1, aw1.2]
  have V2' : Live w w2 p2 A1 := V2
  have V2a := V2'.mk' ((Below.refl _ _).alloc (Nat.le_refl _) (.cells #[.int .i64 0, .int .i64 0] 39))
  have X2 := Box.new V2'.led 0 0
  clear V1 V2 V2' HA1
  go_wp2_with fail
  refine (do_at a w p2 A1 3 2 2 1 0 6 0 0 _ HA2 V2a (by have := A1j; omega)).mono ?_
  rintro e w3 ⟨rfl, p3, HA3, V3, T3, F3⟩
  rw [aw2.1, aw2.2]
  have X2b := X2.turned T3 F3
  have V3' : Live w w3 p3 A2 := V3
  have X3 := Box.new V3'.led 0 0
  have V3a := V3'.mk' ((Below.refl _ _).alloc (Nat.le_refl _) (.cells #[.int .i64 0, .int .i64 0] 39))
  have X2c := X2b.below ((Below.refl _ _).alloc (Nat.le_refl _) (.cells #[.int .i64 0, .int .i64 0] 39))
  generalize hn2 : w2.heap.size = n2 at *
  clear hn2 X2 X2b V2a V3 V3' HA2 T3 F3
  go_wp2_with fail
  refine (do_at a w p3 A2 4 3 2 1 4 5 0 10 _ HA3 V3a (by have := A2j; omega)).mono ?_
  rintro e w4 ⟨rfl, p4, HA4, V4, T4, F4⟩
  rw [aw3.1, aw3.2]
  have V4' : Live w w4 p4 A3 := V4
  have X2d := X2c.turned T4 F4
  have X3b := X3.turned T4 F4
  have X4 := Box.new V4'.led 0 1
  have bA : Below w4.heap.size w4 (w4.alloc (.cells #[.int .i64 0, .int .i64 1] 39)) := (Below.refl _ _).alloc (Nat.le_refl _) _
  have V4a := V4'.mk' bA
  have X2e := X2d.below bA
  have X3c := X3b.below bA
  generalize hn3 : w3.heap.size = n3 at *
  clear hn3 X2c X2d X3 X3b V3a V4 V4' HA3 T4 F4 bA
  go_wp2_with fail
  have L4 := V4a.led
  rw [← HA4.out]
  refine (ledATP_any p4 A3 2 0 _ L4 V4a.ok (by omega) (by omega)).mono ?_
  rintro e w5 ⟨rfl, hb5⟩
  rw [aw4, HA4.out]
  have V5 := V4a.mk' hb5
  have Y2 := X2e.below hb5
  have Y3 := X3c.below hb5
  have Y4 := X4.below hb5
  clear V4a L4 X2e X3c X4 hb5
  go_wp2_with fail
  have L5 := V5.led
  rw [← HA4.out]
  refine (ledFree_any p4 A3 2 1 _ L5 V5.ok (by omega) (by omega)).mono ?_
  rintro e w6 ⟨rfl, hb6⟩
  rw [aw5, HA4.out]
  have V6 := V5.mk' hb6
  have Z2 := Y2.below hb6
  have Z3 := Y3.below hb6
  have Z4 := Y4.below hb6
  clear V5 L5 Y2 Y3 Y4 hb6
  go_wp2_with fail
  have L6 := V6.led
  rw [← HA4.out]
  refine (holds_any p4 A3 0 9 _ L6 (by constructor <;> omega) (by constructor <;> omega)).mono ?_
  rintro e w7 ⟨gg, rfl, hg1, hg2, hown, hb7⟩
  have HH := holdsAt_of_own hown hg2
  rw [aw6, HA4.out]
  obtain ⟨x, hx, e0, e1, e2, e3, e4, e5, e6, e7⟩ := aw7
  have c := HH.2 0 x hx
  have c0 := c 0 (by omega)
  have c1 := c 1 (by omega)
  have c2 := c 2 (by omega)
  have c3 := c 3 (by omega)
  have c4 := c 4 (by omega)
  have c5 := c 5 (by omega)
  have c6 := c 6 (by omega)
  have c7 := c 7 (by omega)
  simp only [Nat.zero_mul, Nat.zero_add, e0, e1, e2, e3, e4, e5, e6, e7] at c0 c1 c2 c3 c4 c5 c6 c7
  obtain ⟨_, _, u0, u1⟩ := Z2.below hb7
  obtain ⟨_, _, v0, v1⟩ := Z3.below hb7
  obtain ⟨_, _, t0, t1⟩ := Z4.below hb7
  have BB := V6.below.trans (hb7.mono V6.below.size)
  clear V6 L6 Z2 Z3 Z4 hb7 hown HH c hx e0 e1 e2 e3 e4 e5 e6 e7
  go_wp2
  go_ret
  exact ⟨rfl, BB⟩

theorem zk_mid : (Tryd.zeroCells48.toList.drop 1).take 81 = List.replicate 81 (.int .i64 0) := by kernel_rfl
theorem zk_end : Tryd.zeroCells48.toList[82]? = some (.slice none 0 0) := by kernel_rfl
theorem zk_len : Tryd.zeroCells48.size = 83 := by kernel_rfl
theorem zk_at (i : Nat) (h1 : 1 ≤ i) (h2 : i < 82) : Tryd.zeroCells48[i]? = some (.int .i64 0) := by
  rw [← Array.getElem?_toList]
  have : ((Tryd.zeroCells48.toList.drop 1).take 81)[i - 1]? = some (.int .i64 0) := by rw [zk_mid, List.getElem?_replicate]; simp; omega
  rw [List.getElem?_take_of_lt (by omega), List.getElem?_drop] at this
  rwa [show 1 + (i - 1) = i by omega] at this
theorem nums_of {w : World} {C : Array Value} {t : TypeId} {o n : Nat} (h : ∀ i, i < n → C[o + i]? = some (.int .i64 0)) : NumsAt (w.alloc (.cells C t)) w.heap.size o n (fun _ => 0) := fun k hk => by
  rw [World.cell?_alloc_new, h k hk]

set_option maxRecDepth 100000 in
set_option maxHeartbeats 4000000 in
theorem opened_any (w : World) (hT : TabW w) : Calls Tryd.prog 16 #[] w fun e w' => ∃ (p : Adr) (b : Nat), e = .returned (.pointer (some ⟨b, 0, none⟩)) ∧ Live w w' p S0 ∧ KAt w' b (.pointer (some ⟨p.a, 0, none⟩)) 0 (fun _ => 0) (.slice none 0 0) [] ∧ w.heap.size ≤ b ∧ ¬ p.foot b := by
  go_enter Tryd.func16, Tryd.ntmps16
  go_wp2_with fail
  refine (awake_any w hT).mono ?_
  rintro e w1 ⟨rfl, hb1⟩
  have hT1 := hT.below hb1 hT.pos
  go_wp2_with fail
  refine (new_any w1).mono ?_
  rintro e w2 ⟨p, rfl, hL, hf, hb2⟩
  have hs1 := hb1.size
  have V : Live w w2 p S0 := ⟨hL, hT1.below hb2 hT1.pos, lok_S0, fun k hk => Nat.le_trans hs1 (hf k hk), hb1.trans (hb2.mono hs1), hT.pos⟩
  clear hL hf hT1
  go_wp2
  go_ret
  have b2 : Below w2.heap.size w2 (w2.alloc (.cells (Tryd.zeroCells48.setIfInBounds 0 (.pointer (some ⟨p.a, 0, none⟩))) 48)) := (Below.refl _ _).alloc (Nat.le_refl _) _
  refine ⟨p, w2.heap.size, rfl, V.mk' b2, ?_, by have := hb2.size; omega, fun e => by have := V.led.foot_lt e; omega⟩
  refine ⟨?_, ?_, nums_of (fun i hi => ?_), ?_, free_new w2 _ 48, World.ownsRow_nil _ 0 61 8, fun k hk => by cases hk⟩
  · rw [World.cell?_alloc_new, Array.getElem?_setIfInBounds_self_of_lt (by rw [zk_len]; omega)]
  · rw [World.cell?_alloc_new, Array.getElem?_setIfInBounds_ne (by omega)]
    exact zk_at 1 (by omega) (by omega)
  · rw [Array.getElem?_setIfInBounds_ne (by omega)]
    exact zk_at (2 + i) (by omega) (by omega)
  · rw [World.cell?_alloc_new, Array.getElem?_setIfInBounds_ne (by omega), ← Array.getElem?_toList, zk_end]

end Go.Proofs.YtdblmheoghhepaaDoor
