/- The law's 'asked'. -/
import Derived.Test.YtdblmheoghhepaaGreatDoorKLawB
namespace Go.Proofs.YtdblmheoghhepaaGreatDoor
open Go.RowKit

/-- A step. -/
structure OpR where
  k : Int
  on : Int
  a : Int
  b : Int
  s : ByteArray
  c : Nat → Int
abbrev opC (o : OpR) : Array Value := #[.int .i64 o.k, .int .i64 o.on, .int .i64 o.a, .int .i64 o.b, .string o.s, .int .i64 (o.c 0), .int .i64 (o.c 1), .int .i64 (o.c 2), .int .i64 (o.c 3), .int .i64 (o.c 4), .int .i64 (o.c 5), .int .i64 (o.c 6), .int .i64 (o.c 7)]
abbrev opV (o : OpR) : Value := .agg (opC o)
abbrev prV (e : Ent) : Value := .agg #[.pointer (some ⟨e.p.a, 0, none⟩), .pointer (some ⟨e.r.q, 0, none⟩)]
abbrev prC (e : Ent) : Array Value := #[.pointer (some ⟨e.p.a, 0, none⟩), .pointer (some ⟨e.r.q, 0, none⟩)]
abbrev boxed (w : World) (e : Ent) (o : OpR) : World := (w.alloc (.cells (prC e) 41)).alloc (.cells (opC o) 35)
theorem boxed_below (w : World) (e : Ent) (o : OpR) : Below w.heap.size w (boxed w e o) := ((Below.refl _ _).alloc (Nat.le_refl _) _).alloc (by simp) _
/-- The boxes of the call. -/
structure Bxs (W : World) (n : Nat) (e : Ent) (o : OpR) : Prop where
  x : W.cell? ⟨n, 0, none⟩ = some (.pointer (some ⟨e.p.a, 0, none⟩))
  r : W.cell? ⟨n, 1, none⟩ = some (.pointer (some ⟨e.r.q, 0, none⟩))
  a : W.cell? ⟨n + 1, 2, none⟩ = some (.int .i64 o.a)
  b : W.cell? ⟨n + 1, 3, none⟩ = some (.int .i64 o.b)
  c0 : W.cell? ⟨n + 1, 5, none⟩ = some (.int .i64 (o.c 0))
  c1 : W.cell? ⟨n + 1, 6, none⟩ = some (.int .i64 (o.c 1))
  c2 : W.cell? ⟨n + 1, 7, none⟩ = some (.int .i64 (o.c 2))
  c3 : W.cell? ⟨n + 1, 8, none⟩ = some (.int .i64 (o.c 3))
  c4 : W.cell? ⟨n + 1, 9, none⟩ = some (.int .i64 (o.c 4))
  c5 : W.cell? ⟨n + 1, 10, none⟩ = some (.int .i64 (o.c 5))
  c6 : W.cell? ⟨n + 1, 11, none⟩ = some (.int .i64 (o.c 6))
  c7 : W.cell? ⟨n + 1, 12, none⟩ = some (.int .i64 (o.c 7))
theorem Bxs.same {W W' : World} {n : Nat} {e : Ent} {o : OpR} (h : Bxs W n e o) (h0 : W'.heap[n]? = W.heap[n]?) (h1 : W'.heap[n + 1]? = W.heap[n + 1]?) : Bxs W' n e o :=
  ⟨(World.cell?_of_block (a := ⟨n, 0, none⟩) h0).trans h.x, (World.cell?_of_block (a := ⟨n, 1, none⟩) h0).trans h.r, (World.cell?_of_block (a := ⟨n + 1, 2, none⟩) h1).trans h.a, (World.cell?_of_block (a := ⟨n + 1, 3, none⟩) h1).trans h.b,
   (World.cell?_of_block (a := ⟨n + 1, 5, none⟩) h1).trans h.c0, (World.cell?_of_block (a := ⟨n + 1, 6, none⟩) h1).trans h.c1, (World.cell?_of_block (a := ⟨n + 1, 7, none⟩) h1).trans h.c2, (World.cell?_of_block (a := ⟨n + 1, 8, none⟩) h1).trans h.c3, (World.cell?_of_block (a := ⟨n + 1, 9, none⟩) h1).trans h.c4, (World.cell?_of_block (a := ⟨n + 1, 10, none⟩) h1).trans h.c5, (World.cell?_of_block (a := ⟨n + 1, 11, none⟩) h1).trans h.c6, (World.cell?_of_block (a := ⟨n + 1, 12, none⟩) h1).trans h.c7⟩
theorem boxed_at (w : World) (e : Ent) (o : OpR) : Bxs (boxed w e o) w.heap.size e o := by
  refine ⟨?_, ?_, ?_, ?_, ?_, ?_, ?_, ?_, ?_, ?_, ?_, ?_⟩ <;> simp [boxed, go_sem]
theorem Bxs.below {B : Nat} {W W' : World} {n : Nat} {e : Ent} {o : OpR} (h : Bxs W n e o) (hb : Below B W W') (hn : n + 1 < B) : Bxs W' n e o := h.same (hb.block n (by omega)) (hb.block (n + 1) hn)

section
variable {w0 : World} {b : Nat} {lv sv : Value} {Es : List Ent} {Ls : List (Value × Nat)} {M : Nat} {C : Nat → Nat}
/-- What a question or a command leaves. -/
def AskP (w0 : World) (b : Nat) (lv : Value) (Es : List Ent) (Ls : List (Value × Nat)) (M : Nat) (e : Ending) (w' : World) : Prop :=
  e = .returned (.bool true) ∧ ∃ (sv' : Value) (Es' : List Ent) (Ls' : List (Value × Nat)) (C' : Nat → Nat), Wd w0 w' b lv sv' Es' Ls' (M + 37) C' ∧ Es'.length = Es.length ∧ Ls'.length % 4 = 0 ∧ Ls'.length ≤ Ls.length + 4
theorem askP_same {w w' : World} (h : Wd w0 w b lv sv Es Ls M C) (hb : Below w.heap.size w w') (h4 : Ls.length % 4 = 0) : AskP w0 b lv Es Ls M (.returned (.bool true)) w' :=
  ⟨rfl, sv, Es, Ls, C, (h.mk' hb).more (by omega), rfl, h4, by omega⟩

/-- Both ledgers have done the same. -/
theorem ask_do {w W2 w1 W3 w2 W5 : World} (h : Wd w0 w b lv sv Es Ls M C) {i : Nat} {e : Ent} (he : Es[i]? = some e) (f : Nat → Int) (h4 : Ls.length % 4 = 0) (B2 : Below w.heap.size w W2) {p' : Adr} (L' : LedAt w1 p' (doD e.S f).S) (T1 : Turned e.p.foot W2 w1) (F1 : ∀ k, p'.foot k → e.p.foot k ∨ W2.heap.size ≤ k) (ea : p'.a = e.p.a)
    (B3 : Below w1.heap.size w1 W3) {r' : RAdr} {D' : List (Nat → Int)} (K : RLed w2 r' (doD e.S f).S D') (DO : DOk (doD e.S f).S.A D') (T2 : Turned e.r.foot W3 w2) (F2 : ∀ k, r'.foot k → e.r.foot k ∨ W3.heap.size ≤ k) (eq : r'.q = e.r.q) (B5 : Below w2.heap.size w2 W5) :
    AskP w0 b lv Es Ls M (.returned (.bool true)) W5 := by
  have E := h.ents i e he
  have z2 := B2.size
  have zt1 := T1.size
  have z3 := B3.size
  have zt2 := T2.size
  have lp : ∀ k, e.p.foot k → k < w.heap.size := fun k hk => E.led.foot_lt hk
  have lr : ∀ k, e.r.foot k → k < w.heap.size := fun k hk => E.rled.foot_lt hk
  have nr : ∀ k, p'.foot k → ¬ e.r.foot k := fun k hk x => by
    rcases F1 k hk with y | y
    · exact E.apart k y x
    · have := lr k x; omega
  have E' : EntAt W5 ⟨p', r', (doD e.S f).S, D'⟩ (M + 37) := by
    refine ⟨?_, K.below B5, sok_do E.ok f, DO, by have := j_do e.S f; have := E.jl; show (doD e.S f).S.J.length ≤ M + 37; omega, fun k hk x => ?_⟩
    · refine L'.same fun k hk => ?_
      have hk1 : k < w1.heap.size := L'.foot_lt hk
      exact (B5.block k (by omega)).trans ((T2.block k (by omega) (nr k hk)).trans (B3.block k hk1))
    · rcases F2 k x with y | y
      · exact nr k hk y
      · have := L'.foot_lt hk; omega
  have T : Turned e.foot w W5 := by
    refine ⟨?_, ?_, ?_, ?_, fun k hk hn => ?_⟩
    · exact B5.os.trans (T2.os.trans (B3.os.trans (T1.os.trans B2.os)))
    · exact B5.tape.trans (T2.tape.trans (B3.tape.trans (T1.tape.trans B2.tape)))
    · exact B5.output.trans (T2.output.trans (B3.output.trans (T1.output.trans B2.output)))
    · have := B5.size; omega
    · exact (B5.block k (by omega)).trans ((T2.block k (by omega) (fun x => hn (Or.inr x))).trans ((B3.block k (by omega)).trans ((T1.block k (by omega) (fun x => hn (Or.inl x))).trans (B2.block k hk))))
  obtain ⟨C', WW⟩ := h.turn he (by omega) E' (by simp only [Ent.cells, ea, eq]) T (fun k hk => by
    rcases hk with hk | hk
    · rcases F1 k hk with y | y
      · exact Or.inl (Or.inl y)
      · exact Or.inr (by omega)
    · rcases F2 k hk with y | y
      · exact Or.inl (Or.inr y)
      · exact Or.inr (by omega))
  exact ⟨rfl, sv, _, Ls, C', WW, by rw [List.length_set], h4, by omega⟩

set_option maxRecDepth 100000 in
set_option maxHeartbeats 4000000 in
theorem asked_do (w : World) (h : Wd w0 w b lv sv Es Ls M C) {i : Nat} {e : Ent} (he : Es[i]? = some e) (h4 : Ls.length % 4 = 0) (o : OpR) (hk : o.k = 2) (hM : M ≤ 1000000000) :
    Calls Tryz.prog 17 #[.pointer (some ⟨b, 0, none⟩), prV e, opV o] w (AskP w0 b lv Es Ls M) := by
  have B0 := boxed_below w e o
  have X0 := boxed_at w e o
  have E := h.ents i e he
  have EL := E.led.below B0
  have ER := E.rled.below B0
  have Eok := E.ok
  have zs : (boxed w e o).heap.size = w.heap.size + 2 := by simp [boxed]
  have TB := (h.mk' B0).tab
  have hJ := E.jl
  have np : ∀ j, w.heap.size ≤ j → ¬ e.p.foot j := fun j hj x => by have := E.led.foot_lt x; omega
  have lr : ∀ j, e.r.foot j → j < w.heap.size := fun j x => E.rled.foot_lt x
  obtain ⟨k, on, a, bb, s, c⟩ := o
  simp only at hk
  subst hk
  go_enter Tryz.func17, Tryz.ntmps17
  go_wp2_with fail
  refine (do_any e.p e.S c _ TB EL Eok.ok (by omega)).mono ?_
  rintro ex w1 ⟨p', rfl, L', T1, F1, ea⟩
  have zt1 := T1.size
  have X1 := X0.same (T1.block w.heap.size (by omega) (np _ (by omega))) (T1.block (w.heap.size + 1) (by omega) (np _ (by omega)))
  have b3 : Below w1.heap.size w1 (w1.alloc (.cells #[.int .i64 (doD e.S c).E, .int .i64 (doD e.S c).N] 66)) := (Below.refl _ _).alloc (Nat.le_refl _) _
  have X3 := X1.below b3 (by omega)
  have ER3 : RLed _ e.r e.S e.D := ER.same (w' := w1.alloc (.cells #[.int .i64 (doD e.S c).E, .int .i64 (doD e.S c).N] 66)) (fun j hj => (b3.block j (by have := lr j hj; omega)).trans (T1.block j (by have := lr j hj; omega) (fun x => E.apart j x hj)))
  obtain ⟨d0, d1, d2, d3, d4, d5, d6, d7, d8, d9, d10, d11⟩ := X3
  have HL := hid L'
  have HT := hid T1
  have HF := hid F1
  have HE := hid ea
  have HB := hid B0
  have H3 := hid b3
  clear L' F1 ea X0 X1 EL ER TB B0 T1 b3
  go_wp2_with fail
  refine (rdo_any e.r e.S e.D c _ ER3 Eok.ok E.dok Eok.len (by omega)).mono ?_
  rintro ex w2 ⟨r', D', rfl, K, DO, T2, F2, eq⟩
  have nA : ¬ e.r.foot w1.heap.size := fun x => by have := lr _ x; omega
  have a0 : w2.cell? ⟨w1.heap.size, 0, none⟩ = some (.int .i64 (doD e.S c).E) := (T2.cell (by simp) nA 0).trans (by simp [go_sem])
  have a1 : w2.cell? ⟨w1.heap.size, 1, none⟩ = some (.int .i64 (doD e.S c).N) := (T2.cell (by simp) nA 1).trans (by simp [go_sem])
  have bl : w1.heap.size < w2.heap.size := by have := T2.size; simp at this; omega
  have b5 : Below w2.heap.size w2 (w2.alloc (.cells #[.int .i64 (doD e.S c).E, .int .i64 (doD e.S c).N] 66)) := (Below.refl _ _).alloc (Nat.le_refl _) _
  have FIN := hid (ask_do h he c h4 HB.out HL.out HT.out HF.out HE.out H3.out K DO T2 F2 eq b5)
  have a0' := (b5.cell (p := ⟨w1.heap.size, 0, none⟩) bl).trans a0
  have a1' := (b5.cell (p := ⟨w1.heap.size, 1, none⟩) bl).trans a1
  clear K DO T2 F2 eq ER3 E Eok HL HT HF HE HB H3
  go_wp2
  go_ret
  exact FIN.out

set_option maxRecDepth 100000 in
set_option maxHeartbeats 4000000 in
theorem asked_atp (w : World) (h : Wd w0 w b lv sv Es Ls M C) {i : Nat} {e : Ent} (he : Es[i]? = some e) (h4 : Ls.length % 4 = 0) (o : OpR) (hk : o.k = 3) :
    Calls Tryz.prog 17 #[.pointer (some ⟨b, 0, none⟩), prV e, opV o] w (AskP w0 b lv Es Ls M) := by
  have B0 := boxed_below w e o
  have X0 := boxed_at w e o
  have E := h.ents i e he
  have EL := E.led.below B0
  have ER := E.rled.below B0
  have Eok := E.ok
  have zs : (boxed w e o).heap.size = w.heap.size + 2 := by simp [boxed]
  have TB := (h.mk' B0).tab
  obtain ⟨k, on, a, bb, s, c⟩ := o
  simp only at hk
  subst hk
  go_enter Tryz.func17, Tryz.ntmps17
  go_wp2_with fail
  refine (pATP_any e.p e.S a bb _ EL Eok.ok).mono ?_
  rintro ex w1 ⟨rfl, hb1⟩
  obtain ⟨d0, d1, d2, d3, _⟩ := X0.below hb1 (by omega)
  have ER1 := ER.below hb1
  go_wp2_with fail
  refine (rATP_any e.r e.S e.D a bb _ ER1 Eok.ok Eok.len).mono ?_
  rintro ex w2 ⟨rfl, hb2⟩
  have FIN := hid (askP_same h (B0.trans ((hb1.mono (by omega)).trans (hb2.mono (by have := hb1.size; omega)))) h4)
  clear hb1 hb2 ER1 ER EL E Eok X0 TB B0
  go_wp2_with (go_at_call 22; refine (num_any _ _).mono ?_; rintro e w' ⟨rfl, rfl⟩)
  go_ret
  exact FIN.out

set_option maxRecDepth 100000 in
set_option maxHeartbeats 4000000 in
theorem asked_free (w : World) (h : Wd w0 w b lv sv Es Ls M C) {i : Nat} {e : Ent} (he : Es[i]? = some e) (h4 : Ls.length % 4 = 0) (o : OpR) (hk : o.k = 4) :
    Calls Tryz.prog 17 #[.pointer (some ⟨b, 0, none⟩), prV e, opV o] w (AskP w0 b lv Es Ls M) := by
  have B0 := boxed_below w e o
  have X0 := boxed_at w e o
  have E := h.ents i e he
  have EL := E.led.below B0
  have ER := E.rled.below B0
  have Eok := E.ok
  have zs : (boxed w e o).heap.size = w.heap.size + 2 := by simp [boxed]
  have TB := (h.mk' B0).tab
  obtain ⟨k, on, a, bb, s, c⟩ := o
  simp only at hk
  subst hk
  go_enter Tryz.func17, Tryz.ntmps17
  go_wp2_with fail
  refine (pFree_any e.p e.S a bb _ EL Eok.ok).mono ?_
  rintro ex w1 ⟨rfl, hb1⟩
  obtain ⟨d0, d1, d2, d3, _⟩ := X0.below hb1 (by omega)
  have ER1 := ER.below hb1
  go_wp2_with fail
  refine (rFree_any e.r e.S e.D a bb _ ER1 Eok.ok Eok.len).mono ?_
  rintro ex w2 ⟨rfl, hb2⟩
  have FIN := hid (askP_same h (B0.trans ((hb1.mono (by omega)).trans (hb2.mono (by have := hb1.size; omega)))) h4)
  clear hb1 hb2 ER1 ER EL E Eok X0 TB B0
  go_wp2_with (go_at_call 22; refine (num_any _ _).mono ?_; rintro e w' ⟨rfl, rfl⟩)
  go_ret
  exact FIN.out

set_option maxRecDepth 100000 in
set_option maxHeartbeats 4000000 in
theorem asked_held (w : World) (h : Wd w0 w b lv sv Es Ls M C) {i : Nat} {e : Ent} (he : Es[i]? = some e) (h4 : Ls.length % 4 = 0) (o : OpR) (hk : o.k = 5) (ha : I64 o.a) (hb : I64 o.b) (hll : Ls.length + 4 ≤ 16000000) :
    Calls Tryz.prog 17 #[.pointer (some ⟨b, 0, none⟩), prV e, opV o] w (AskP w0 b lv Es Ls M) := by
  have B0 := boxed_below w e o
  have X0 := boxed_at w e o
  have E := h.ents i e he
  have EL := E.led.below B0
  have ER := E.rled.below B0
  have Eok := E.ok
  have zs : (boxed w e o).heap.size = w.heap.size + 2 := by simp [boxed]
  have TB := (h.mk' B0).tab
  have h2 := h.mk' B0
  obtain ⟨k, on, a, bb, s, c⟩ := o
  simp only at hk
  subst hk
  go_enter Tryz.func17, Tryz.ntmps17
  go_wp2_with fail
  refine (held_any _ h2 he a bb ha hb h4 hll).mono ?_
  rintro ex w1 ⟨rfl, sv', Ns, C', hN, WW⟩
  have FIN : Hid (AskP w0 b lv Es Ls M (.returned (.bool true)) w1) := ⟨rfl, sv', Es, Ls ++ Ns, C', WW.more (by omega), rfl, by rw [List.length_append]; omega, by rw [List.length_append]; omega⟩
  clear WW h2 h ER EL E Eok X0 TB B0
  go_wp2
  go_ret
  exact FIN.out

set_option maxRecDepth 100000 in
set_option maxHeartbeats 4000000 in
theorem asked_ages (w : World) (h : Wd w0 w b lv sv Es Ls M C) {i : Nat} {e : Ent} (he : Es[i]? = some e) (h4 : Ls.length % 4 = 0) (o : OpR) (hk : o.k = 6) :
    Calls Tryz.prog 17 #[.pointer (some ⟨b, 0, none⟩), prV e, opV o] w (AskP w0 b lv Es Ls M) := by
  have B0 := boxed_below w e o
  have X0 := boxed_at w e o
  have E := h.ents i e he
  have EL := E.led.below B0
  have ER := E.rled.below B0
  have Eok := E.ok
  have zs : (boxed w e o).heap.size = w.heap.size + 2 := by simp [boxed]
  have TB := (h.mk' B0).tab
  obtain ⟨k, on, a, bb, s, c⟩ := o
  simp only at hk
  subst hk
  go_enter Tryz.func17, Tryz.ntmps17
  go_wp2_with fail
  refine (ledAges_any e.p e.S _ EL Eok.ok).mono ?_
  rintro ex w1 ⟨rfl, hb1⟩
  have zt1 := hb1.size
  have b3 : Below w1.heap.size w1 (w1.alloc (.cells #[.int .i64 (ages e.S.H e.S.now 0 : Nat), .int .i64 (ages e.S.H e.S.now 1 : Nat), .int .i64 (ages e.S.H e.S.now 2 : Nat)] 48)) := (Below.refl _ _).alloc (Nat.le_refl _) _
  obtain ⟨d0, d1, d2, d3, _⟩ := (X0.below hb1 (by omega)).below b3 (by omega)
  have ER1 := (ER.below hb1).below b3
  go_wp2_with fail
  refine (rages_any e.r e.S e.D _ ER1 Eok.ok Eok.len).mono ?_
  rintro ex w2 ⟨rfl, hb2⟩
  have zt2 := hb2.size
  have b5 : Below w2.heap.size w2 (w2.alloc (.cells #[.int .i64 (ages e.S.H e.S.now 0 : Nat), .int .i64 (ages e.S.H e.S.now 1 : Nat), .int .i64 (ages e.S.H e.S.now 2 : Nat)] 48)) := (Below.refl _ _).alloc (Nat.le_refl _) _
  simp only [World.size_alloc] at zt2
  have a0 := (b5.cell (p := ⟨w1.heap.size, 0, none⟩) (show w1.heap.size < w2.heap.size by omega)).trans ((hb2.cell (p := ⟨w1.heap.size, 0, none⟩) (by simp)).trans (by simp [go_sem] : _ = some (.int .i64 (ages e.S.H e.S.now 0 : Nat))))
  have a1 := (b5.cell (p := ⟨w1.heap.size, 1, none⟩) (show w1.heap.size < w2.heap.size by omega)).trans ((hb2.cell (p := ⟨w1.heap.size, 1, none⟩) (by simp)).trans (by simp [go_sem] : _ = some (.int .i64 (ages e.S.H e.S.now 1 : Nat))))
  have a2 := (b5.cell (p := ⟨w1.heap.size, 2, none⟩) (show w1.heap.size < w2.heap.size by omega)).trans ((hb2.cell (p := ⟨w1.heap.size, 2, none⟩) (by simp)).trans (by simp [go_sem] : _ = some (.int .i64 (ages e.S.H e.S.now 2 : Nat))))
  have FIN := hid (askP_same h (B0.trans ((hb1.mono (by omega)).trans ((b3.mono (by omega)).trans ((hb2.mono (by simp; omega)).trans (b5.mono (by omega)))))) h4)
  clear hb1 hb2 b3 b5 ER1 ER EL E Eok X0 TB B0
  go_wp2
  go_ret
  exact FIN.out

set_option maxRecDepth 100000 in
set_option maxHeartbeats 4000000 in
theorem asked_now (w : World) (h : Wd w0 w b lv sv Es Ls M C) {i : Nat} {e : Ent} (he : Es[i]? = some e) (h4 : Ls.length % 4 = 0) (o : OpR) (hk : o.k = 7) :
    Calls Tryz.prog 17 #[.pointer (some ⟨b, 0, none⟩), prV e, opV o] w (AskP w0 b lv Es Ls M) := by
  have B0 := boxed_below w e o
  have X0 := boxed_at w e o
  have E := h.ents i e he
  have EL := E.led.below B0
  have ER := E.rled.below B0
  have Eok := E.ok
  have zs : (boxed w e o).heap.size = w.heap.size + 2 := by simp [boxed]
  have TB := (h.mk' B0).tab
  have cN : (boxed w e o).cell? ⟨e.r.q, 0, none⟩ = some (.int .i64 e.S.now) := ER.c0
  have FIN := hid (askP_same h B0 h4)
  obtain ⟨k, on, a, bb, s, c⟩ := o
  simp only at hk
  subst hk
  go_enter Tryz.func17, Tryz.ntmps17
  go_wp2_with fail
  refine (now_any e.p e.S _ EL).mono ?_
  rintro ex w1 ⟨rfl, rfl⟩
  clear ER EL E Eok X0 TB B0
  go_wp2
  go_ret
  exact FIN.out

set_option maxRecDepth 100000 in
set_option maxHeartbeats 4000000 in
theorem asked_journal (w : World) (h : Wd w0 w b lv sv Es Ls M C) {i : Nat} {e : Ent} (he : Es[i]? = some e) (h4 : Ls.length % 4 = 0) (o : OpR) (hk : o.k = 8) :
    Calls Tryz.prog 17 #[.pointer (some ⟨b, 0, none⟩), prV e, opV o] w (AskP w0 b lv Es Ls M) := by
  have B0 := boxed_below w e o
  have X0 := boxed_at w e o
  have E := h.ents i e he
  have EL := E.led.below B0
  have ER := E.rled.below B0
  have Eok := E.ok
  have zs : (boxed w e o).heap.size = w.heap.size + 2 := by simp [boxed]
  have TB := (h.mk' B0).tab
  have cN : (boxed w e o).cell? ⟨e.r.q, 83, none⟩ = some (.string (strOfNums e.S.J)) := ER.cj
  have FIN := hid (askP_same h B0 h4)
  obtain ⟨k, on, a, bb, s, c⟩ := o
  simp only at hk
  subst hk
  go_enter Tryz.func17, Tryz.ntmps17
  go_wp2_with fail
  refine (journal_any e.p e.S _ EL).mono ?_
  rintro ex w1 ⟨rfl, rfl⟩
  clear ER EL E Eok X0 TB B0
  go_wp2
  go_ret
  exact FIN.out

set_option maxRecDepth 100000 in
set_option maxHeartbeats 4000000 in
theorem asked_other (w : World) (h : Wd w0 w b lv sv Es Ls M C) {i : Nat} {e : Ent} (_ : Es[i]? = some e) (h4 : Ls.length % 4 = 0) (o : OpR) (n2 : o.k ≠ 2) (n3 : o.k ≠ 3) (n4 : o.k ≠ 4) (n5 : o.k ≠ 5) (n6 : o.k ≠ 6) (n7 : o.k ≠ 7) (n8 : o.k ≠ 8) :
    Calls Tryz.prog 17 #[.pointer (some ⟨b, 0, none⟩), prV e, opV o] w (AskP w0 b lv Es Ls M) := by
  have FIN := hid (askP_same h (boxed_below w e o) h4)
  obtain ⟨k, on, a, bb, s, c⟩ := o
  simp only at n2 n3 n4 n5 n6 n7 n8
  have m2 : (k == 2) = false := by simpa using n2
  have m3 : (k == 3) = false := by simpa using n3
  have m4 : (k == 4) = false := by simpa using n4
  have m5 : (k == 5) = false := by simpa using n5
  have m6 : (k == 6) = false := by simpa using n6
  have m7 : (k == 7) = false := by simpa using n7
  have m8 : (k == 8) = false := by simpa using n8
  clear n2 n3 n4 n5 n6 n7 n8
  go_enter Tryz.func17, Tryz.ntmps17
  go_wp2
  go_ret
  exact FIN.out

theorem asked_any (w : World) (h : Wd w0 w b lv sv Es Ls M C) {i : Nat} {e : Ent} (he : Es[i]? = some e) (h4 : Ls.length % 4 = 0) (o : OpR) (ha : I64 o.a) (hb : I64 o.b) (hll : Ls.length + 4 ≤ 16000000) (hM : M ≤ 1000000000) :
    Calls Tryz.prog 17 #[.pointer (some ⟨b, 0, none⟩), prV e, opV o] w (AskP w0 b lv Es Ls M) := by
  by_cases n2 : o.k = 2
  · exact asked_do w h he h4 o n2 hM
  by_cases n3 : o.k = 3
  · exact asked_atp w h he h4 o n3
  by_cases n4 : o.k = 4
  · exact asked_free w h he h4 o n4
  by_cases n5 : o.k = 5
  · exact asked_held w h he h4 o n5 ha hb hll
  by_cases n6 : o.k = 6
  · exact asked_ages w h he h4 o n6
  by_cases n7 : o.k = 7
  · exact asked_now w h he h4 o n7
  by_cases n8 : o.k = 8
  · exact asked_journal w h he h4 o n8
  exact asked_other w h he h4 o n2 n3 n4 n5 n6 n7 n8
end

end Go.Proofs.YtdblmheoghhepaaGreatDoor

/- The law's 'step'. -/
namespace Go.Proofs.YtdblmheoghhepaaGreatDoor
open Go.RowKit

theorem flat_pairs (Es : List Ent) : ∀ (i : Nat) (e : Ent), Es[i]? = some e → (Es.flatMap Ent.cells)[i * 2]? = some (.pointer (some ⟨e.p.a, 0, none⟩)) ∧ (Es.flatMap Ent.cells)[i * 2 + 1]? = some (.pointer (some ⟨e.r.q, 0, none⟩)) := by
  induction Es with
  | nil => intro i e h; simp at h
  | cons a t ih =>
    intro i e h
    rw [List.flatMap_cons]
    have l2 : a.cells.length = 2 := rfl
    cases i with
    | zero => simp at h; subst h; exact ⟨rfl, rfl⟩
    | succ i =>
      have := ih i e (by simpa using h)
      rw [List.getElem?_append_right (by omega), List.getElem?_append_right (by omega), show (i + 1) * 2 - a.cells.length = i * 2 by omega, show (i + 1) * 2 + 1 - a.cells.length = i * 2 + 1 by omega]
      exact this
theorem pairs_at {w : World} {v : Value} {Es : List Ent} (h : w.ownsRow 0 41 2 v Es.length (Es.flatMap Ent.cells)) {i : Nat} {e : Ent} (he : Es[i]? = some e) : ∃ g cap, v = .slice (some ⟨g, 0, none⟩) Es.length cap ∧ w.cell? ⟨g, i * 2, none⟩ = some (.pointer (some ⟨e.p.a, 0, none⟩)) ∧ w.cell? ⟨g, i * 2 + 1, none⟩ = some (.pointer (some ⟨e.r.q, 0, none⟩)) ∧ g < w.heap.size := by
  have hi : i < Es.length := (List.getElem?_eq_some_iff.1 he).1
  obtain ⟨f0, f1⟩ := flat_pairs Es i e he
  rcases h.2 with ⟨_, e2⟩ | ⟨g, cap, cur, e, _, hh, _⟩
  · omega
  · refine ⟨g, cap, e, ?_, ?_, (Array.getElem?_eq_some_iff.1 hh).1⟩
    · rw [e] at h
      rw [h.cellAt (i * 2) (by omega), f0]
    · rw [e] at h
      rw [h.cellAt (i * 2 + 1) (by omega), f1]

section
variable {w0 : World} {b : Nat} {lv sv : Value} {Es : List Ent} {Ls : List (Value × Nat)} {M : Nat} {C : Nat → Nat}
/-- What a step leaves. -/
def StepP (w0 : World) (b : Nat) (Es : List Ent) (Ls : List (Value × Nat)) (M : Nat) (e : Ending) (w' : World) : Prop :=
  e = .returned (.bool true) ∧ ∃ (lv' sv' : Value) (Es' : List Ent) (Ls' : List (Value × Nat)) (C' : Nat → Nat), Wd w0 w' b lv' sv' Es' Ls' (M + 37) C' ∧ Es'.length ≤ Es.length + 1 ∧ Ls'.length % 4 = 0 ∧ Ls'.length ≤ Ls.length + 4

set_option maxRecDepth 100000 in
set_option maxHeartbeats 4000000 in
theorem step_new (w : World) (h : Wd w0 w b lv sv Es Ls M C) (h4 : Ls.length % 4 = 0) (o : OpR) (hl : Es.length < 4000000) (hk : o.k = 1) :
    Calls Tryz.prog 8 #[.pointer (some ⟨b, 0, none⟩), opV o] w (StepP w0 b Es Ls M) := by
  have h1 := h.mk' ((Below.refl _ _).alloc (Nat.le_refl _) (.cells (opC o) 35))
  obtain ⟨k, on, a, bb, s, c⟩ := o
  simp only at hk
  subst hk
  go_enter Tryz.func8, Tryz.ntmps8
  go_wp2_with fail
  refine (wbegins_any _ h1 hl).mono ?_
  rintro ex w1 ⟨rfl, lv', E, C', WW⟩
  have FIN : Hid (StepP w0 b Es Ls M (.returned (.bool true)) w1) := ⟨rfl, lv', sv, _, Ls, C', WW.more (by omega), by simp, h4, by omega⟩
  clear WW h1 h
  go_wp2
  go_ret
  exact FIN.out

set_option maxRecDepth 100000 in
set_option maxHeartbeats 4000000 in
theorem step_open (w : World) (h : Wd w0 w b lv sv Es Ls M C) (h4 : Ls.length % 4 = 0) (o : OpR) (hl : Es.length < 4000000) (hs : o.s.size ≤ M) (hM : M ≤ 1000000000) (hk : o.k = 9) :
    Calls Tryz.prog 8 #[.pointer (some ⟨b, 0, none⟩), opV o] w (StepP w0 b Es Ls M) := by
  have h1 := h.mk' ((Below.refl _ _).alloc (Nat.le_refl _) (.cells (opC o) 35))
  obtain ⟨k, on, a, bb, s, c⟩ := o
  simp only at hk
  subst hk
  go_enter Tryz.func8, Tryz.ntmps8
  go_wp2_with fail
  refine (wopened_any _ s h1 hl hs hM).mono ?_
  rintro ex w1 ⟨rfl, lv', Es', C', WW, hE, _⟩
  have FIN : Hid (StepP w0 b Es Ls M (.returned (.bool true)) w1) := ⟨rfl, lv', sv, _, Ls, C', WW.more (by omega), hE, h4, by omega⟩
  clear WW h1 h hE
  go_wp2
  go_ret
  exact FIN.out

set_option maxRecDepth 100000 in
set_option maxHeartbeats 4000000 in
theorem step_frame (w : World) (h : Wd w0 w b lv sv Es Ls M C) (h4 : Ls.length % 4 = 0) (o : OpR) (hk : o.k = 12) :
    Calls Tryz.prog 8 #[.pointer (some ⟨b, 0, none⟩), opV o] w (StepP w0 b Es Ls M) := by
  have h1 := h.mk' ((Below.refl _ _).alloc (Nat.le_refl _) (.cells (opC o) 35))
  obtain ⟨k, on, a, bb, s, c⟩ := o
  simp only at hk
  subst hk
  go_enter Tryz.func8, Tryz.ntmps8
  go_wp2_with fail
  refine (framed_any c _ h1.tab).mono ?_
  rintro ex w1 ⟨rfl, hb⟩
  have FIN : Hid (StepP w0 b Es Ls M (.returned (.bool true)) w1) := ⟨rfl, lv, sv, Es, Ls, C, (h1.mk' hb).more (by omega), by omega, h4, by omega⟩
  clear h1 h hb
  go_wp2
  go_ret
  exact FIN.out

set_option maxRecDepth 100000 in
set_option maxHeartbeats 4000000 in
theorem step_unframe (w : World) (h : Wd w0 w b lv sv Es Ls M C) (h4 : Ls.length % 4 = 0) (o : OpR) (hs : o.s.size ≤ maxLen) (hk : o.k = 13) :
    Calls Tryz.prog 8 #[.pointer (some ⟨b, 0, none⟩), opV o] w (StepP w0 b Es Ls M) := by
  have h1 := h.mk' ((Below.refl _ _).alloc (Nat.le_refl _) (.cells (opC o) 35))
  obtain ⟨k, on, a, bb, s, c⟩ := o
  simp only at hk
  subst hk
  go_enter Tryz.func8, Tryz.ntmps8
  go_wp2_with fail
  refine (unframed_any s hs _ h1.tab).mono ?_
  rintro ex w1 ⟨rfl, hb⟩
  have FIN : Hid (StepP w0 b Es Ls M (.returned (.bool true)) w1) := ⟨rfl, lv, sv, Es, Ls, C, (h1.mk' hb).more (by omega), by omega, h4, by omega⟩
  clear h1 h hb
  go_wp2
  go_ret
  exact FIN.out

set_option maxRecDepth 100000 in
set_option maxHeartbeats 4000000 in
theorem step_none (w : World) (h : Wd w0 w b lv sv Es Ls M C) (h4 : Ls.length % 4 = 0) (o : OpR) (he : Es.length = 0) (n1 : o.k ≠ 1) (n9 : o.k ≠ 9) (n12 : o.k ≠ 12) (n13 : o.k ≠ 13) :
    Calls Tryz.prog 8 #[.pointer (some ⟨b, 0, none⟩), opV o] w (StepP w0 b Es Ls M) := by
  obtain ⟨lx, lc, elv⟩ := own_slice h.lr
  subst elv
  have h1 := h.mk' ((Below.refl _ _).alloc (Nat.le_refl _) (.cells (opC o) 35))
  have c0 := h1.c0
  rw [he] at c0
  have FIN : Hid (StepP w0 b Es Ls M (.returned (.bool true)) (w.alloc (.cells (opC o) 35))) := ⟨rfl, _, sv, Es, Ls, C, h1.more (by omega), by omega, h4, by omega⟩
  obtain ⟨k, on, a, bb, s, c⟩ := o
  simp only at n1 n9 n12 n13
  have m1 : (k == 1) = false := by simpa using n1
  have m9 : (k == 9) = false := by simpa using n9
  have m12 : (k == 12) = false := by simpa using n12
  have m13 : (k == 13) = false := by simpa using n13
  clear n1 n9 n12 n13 h1 h he
  go_enter Tryz.func8, Tryz.ntmps8
  go_wp2
  go_ret
  exact FIN.out
end

end Go.Proofs.YtdblmheoghhepaaGreatDoor

/- The law's 'step' on a pair. -/
namespace Go.Proofs.YtdblmheoghhepaaGreatDoor
open Go.RowKit
section
variable {w0 : World} {b : Nat} {lv sv : Value} {Es : List Ent} {Ls : List (Value × Nat)} {M : Nat} {C : Nat → Nat}
abbrev picked (w : World) (e : Ent) (o : OpR) : World := ((w.alloc (.cells (opC o) 35)).alloc (.cells (prC e) 41)).drew
theorem picked_below (w : World) (e : Ent) (o : OpR) : Below w.heap.size w (picked w e o) := (((Below.refl _ _).alloc (Nat.le_refl _) _).alloc (by simp) _).drew

set_option maxRecDepth 100000 in
set_option maxHeartbeats 4000000 in
theorem step_cut (w : World) (h : Wd w0 w b lv sv Es Ls M C) (h4 : Ls.length % 4 = 0) (o : OpR) (hon : I64 o.on) (ha : I64 o.a) (hl : Es.length < 4000000) (hM : M ≤ 1000000000) (he : Es.length ≠ 0) (hk : o.k = 10) :
    Calls Tryz.prog 8 #[.pointer (some ⟨b, 0, none⟩), opV o] w (StepP w0 b Es Ls M) := by
  have B1 : Below w.heap.size w (w.alloc (.cells (opC o) 35)) := (Below.refl _ _).alloc (Nat.le_refl _) (.cells (opC o) 35)
  have h1 := h.mk' B1
  have hpk := pk_bd o.on (Es.length : Int) (by omega)
  obtain ⟨i, hi⟩ : ∃ i : Nat, pk o.on (Es.length : Int) = (i : Int) := ⟨(pk o.on (Es.length : Int)).toNat, by omega⟩
  have hil : i < Es.length := by omega
  have hiI : (i : Int) < (Es.length : Int) := by omega
  obtain ⟨e, hE⟩ : ∃ e, Es[i]? = some e := ⟨Es[i], by simp [hil]⟩
  obtain ⟨g, cap, ev, r0, r1, gl⟩ := pairs_at h1.lr hE
  subst ev
  have c0 := h1.c0
  have o1 : (w.alloc (.cells (opC o) 35)).cell? ⟨w.heap.size, 1, none⟩ = some (.int .i64 o.on) := by simp [go_sem]
  have n0 : ((Es.length : Int) == 0) = false := by simpa using he
  have h3 := h.mk' (picked_below w e o)
  have E3 := h3.ents i e hE
  have q1 : (picked w e o).cell? ⟨w.heap.size + 1, 1, none⟩ = some (.pointer (some ⟨e.r.q, 0, none⟩)) := by simp [picked, go_sem]
  have q0 : (picked w e o).cell? ⟨w.heap.size + 1, 0, none⟩ = some (.pointer (some ⟨e.p.a, 0, none⟩)) := by simp [picked, go_sem]
  have p0 : (picked w e o).cell? ⟨w.heap.size, 0, none⟩ = some (.int .i64 o.k) := by simp [picked, go_sem]
  have p1 : (picked w e o).cell? ⟨w.heap.size, 1, none⟩ = some (.int .i64 o.on) := by simp [picked, go_sem]
  have p2 : (picked w e o).cell? ⟨w.heap.size, 2, none⟩ = some (.int .i64 o.a) := by simp [picked, go_sem]
  have p3 : (picked w e o).cell? ⟨w.heap.size, 3, none⟩ = some (.int .i64 o.b) := by simp [picked, go_sem]
  have p4 : (picked w e o).cell? ⟨w.heap.size, 4, none⟩ = some (.string o.s) := by simp [picked, go_sem]
  have p5 : (picked w e o).cell? ⟨w.heap.size, 5, none⟩ = some (.int .i64 (o.c 0)) := by simp [picked, go_sem]
  have p6 : (picked w e o).cell? ⟨w.heap.size, 6, none⟩ = some (.int .i64 (o.c 1)) := by simp [picked, go_sem]
  have p7 : (picked w e o).cell? ⟨w.heap.size, 7, none⟩ = some (.int .i64 (o.c 2)) := by simp [picked, go_sem]
  have p8 : (picked w e o).cell? ⟨w.heap.size, 8, none⟩ = some (.int .i64 (o.c 3)) := by simp [picked, go_sem]
  have p9 : (picked w e o).cell? ⟨w.heap.size, 9, none⟩ = some (.int .i64 (o.c 4)) := by simp [picked, go_sem]
  have p10 : (picked w e o).cell? ⟨w.heap.size, 10, none⟩ = some (.int .i64 (o.c 5)) := by simp [picked, go_sem]
  have p11 : (picked w e o).cell? ⟨w.heap.size, 11, none⟩ = some (.int .i64 (o.c 6)) := by simp [picked, go_sem]
  have p12 : (picked w e o).cell? ⟨w.heap.size, 12, none⟩ = some (.int .i64 (o.c 7)) := by simp [picked, go_sem]
  have q6 : (picked w e o).cell? ⟨e.r.q, 83, none⟩ = some (.string (strOfNums e.S.J)) := E3.rled.cj
  have hsz : (strOfNums e.S.J).size ≤ M := by rw [strOfNums_size]; exact E3.jl
  generalize strOfNums e.S.J = SJ at *
  have HI := hid hi
  have H3 := hid h3
  have HE := hid hE
  obtain ⟨k, on, a, bb, s, c⟩ := o
  simp only at hk
  subst hk
  have hpa := pk_bd a ((SJ.size : Int) + 1) (by omega)
  obtain ⟨n, hn⟩ : ∃ n : Nat, pk a ((SJ.size : Int) + 1) = (n : Int) := ⟨(pk a ((SJ.size : Int) + 1)).toNat, by omega⟩
  have hnl : n ≤ SJ.size := by omega
  have HN := hid hn
  clear hn hpa
  clear h1 hi hE hpk he h3 E3 B1 h
  go_enter Tryz.func8, Tryz.ntmps8
  go_wp2_with fail
  go_region_held3 (fun w' => w'.cell? ⟨b, 0, none⟩ = some (.slice (some ⟨g, 0, none⟩) Es.length cap) ∧ w'.cell? ⟨g, i * 2, none⟩ = some (.pointer (some ⟨e.p.a, 0, none⟩)) ∧ w'.cell? ⟨g, i * 2 + 1, none⟩ = some (.pointer (some ⟨e.r.q, 0, none⟩)) ∧ w'.cell? ⟨w.heap.size, 1, none⟩ = some (.int .i64 on)) (first | (go_keep; done) | (simp; done)) (first | (go_at_call 15; refine (lpick_any on (Es.length : Int) _ hon.1 hon.2 (by omega) (by omega)).mono ?_; rw [HI.out]; rintro e w' ⟨rfl, rfl⟩))
  all_goals
    rename_i hHeld
    clear hHeld c0 r0 r1 o1
    go_wp2_with fail
    refine (lpick_any a ((SJ.size : Int) + 1) _ ha.1 ha.2 (by omega) (by omega)).mono ?_
    rw [HN.out]
    rintro ex w1 ⟨rfl, rfl⟩
    go_wp2_with fail
    refine (wopened_any _ _ H3.out hl (by rw [ByteArray.size_extract]; omega) hM).mono ?_
    rintro ex w1 ⟨rfl, lv', Es', C', WW, hE, _⟩
    have FIN : Hid (StepP w0 b Es Ls M (.returned (.bool true)) w1) := ⟨rfl, lv', sv, _, Ls, C', WW.more (by omega), hE, h4, by omega⟩
    clear WW hE
    go_wp2
    go_ret
    exact FIN.out

set_option maxRecDepth 100000 in
set_option maxHeartbeats 4000000 in
theorem step_spoil (w : World) (h : Wd w0 w b lv sv Es Ls M C) (h4 : Ls.length % 4 = 0) (o : OpR) (hon : I64 o.on) (ha : I64 o.a) (hl : Es.length < 4000000) (hM : M ≤ 1000000000) (he : Es.length ≠ 0) (hk : o.k = 11) :
    Calls Tryz.prog 8 #[.pointer (some ⟨b, 0, none⟩), opV o] w (StepP w0 b Es Ls M) := by
  have B1 : Below w.heap.size w (w.alloc (.cells (opC o) 35)) := (Below.refl _ _).alloc (Nat.le_refl _) (.cells (opC o) 35)
  have h1 := h.mk' B1
  have hpk := pk_bd o.on (Es.length : Int) (by omega)
  obtain ⟨i, hi⟩ : ∃ i : Nat, pk o.on (Es.length : Int) = (i : Int) := ⟨(pk o.on (Es.length : Int)).toNat, by omega⟩
  have hil : i < Es.length := by omega
  have hiI : (i : Int) < (Es.length : Int) := by omega
  obtain ⟨e, hE⟩ : ∃ e, Es[i]? = some e := ⟨Es[i], by simp [hil]⟩
  obtain ⟨g, cap, ev, r0, r1, gl⟩ := pairs_at h1.lr hE
  subst ev
  have c0 := h1.c0
  have o1 : (w.alloc (.cells (opC o) 35)).cell? ⟨w.heap.size, 1, none⟩ = some (.int .i64 o.on) := by simp [go_sem]
  have n0 : ((Es.length : Int) == 0) = false := by simpa using he
  have h3 := h.mk' (picked_below w e o)
  have E3 := h3.ents i e hE
  have q1 : (picked w e o).cell? ⟨w.heap.size + 1, 1, none⟩ = some (.pointer (some ⟨e.r.q, 0, none⟩)) := by simp [picked, go_sem]
  have q0 : (picked w e o).cell? ⟨w.heap.size + 1, 0, none⟩ = some (.pointer (some ⟨e.p.a, 0, none⟩)) := by simp [picked, go_sem]
  have p0 : (picked w e o).cell? ⟨w.heap.size, 0, none⟩ = some (.int .i64 o.k) := by simp [picked, go_sem]
  have p1 : (picked w e o).cell? ⟨w.heap.size, 1, none⟩ = some (.int .i64 o.on) := by simp [picked, go_sem]
  have p2 : (picked w e o).cell? ⟨w.heap.size, 2, none⟩ = some (.int .i64 o.a) := by simp [picked, go_sem]
  have p3 : (picked w e o).cell? ⟨w.heap.size, 3, none⟩ = some (.int .i64 o.b) := by simp [picked, go_sem]
  have p4 : (picked w e o).cell? ⟨w.heap.size, 4, none⟩ = some (.string o.s) := by simp [picked, go_sem]
  have p5 : (picked w e o).cell? ⟨w.heap.size, 5, none⟩ = some (.int .i64 (o.c 0)) := by simp [picked, go_sem]
  have p6 : (picked w e o).cell? ⟨w.heap.size, 6, none⟩ = some (.int .i64 (o.c 1)) := by simp [picked, go_sem]
  have p7 : (picked w e o).cell? ⟨w.heap.size, 7, none⟩ = some (.int .i64 (o.c 2)) := by simp [picked, go_sem]
  have p8 : (picked w e o).cell? ⟨w.heap.size, 8, none⟩ = some (.int .i64 (o.c 3)) := by simp [picked, go_sem]
  have p9 : (picked w e o).cell? ⟨w.heap.size, 9, none⟩ = some (.int .i64 (o.c 4)) := by simp [picked, go_sem]
  have p10 : (picked w e o).cell? ⟨w.heap.size, 10, none⟩ = some (.int .i64 (o.c 5)) := by simp [picked, go_sem]
  have p11 : (picked w e o).cell? ⟨w.heap.size, 11, none⟩ = some (.int .i64 (o.c 6)) := by simp [picked, go_sem]
  have p12 : (picked w e o).cell? ⟨w.heap.size, 12, none⟩ = some (.int .i64 (o.c 7)) := by simp [picked, go_sem]
  have q6 : (picked w e o).cell? ⟨e.r.q, 83, none⟩ = some (.string (strOfNums e.S.J)) := E3.rled.cj
  have hsz : (strOfNums e.S.J).size ≤ M := by rw [strOfNums_size]; exact E3.jl
  generalize strOfNums e.S.J = SJ at *
  have HI := hid hi
  have H3 := hid h3
  have HE := hid hE
  obtain ⟨k, on, a, bb, s, c⟩ := o
  simp only at hk
  subst hk
  clear h1 hi hE hpk he h3 E3 B1 h
  go_enter Tryz.func8, Tryz.ntmps8
  go_wp2_with fail
  go_region_held3 (fun w' => w'.cell? ⟨b, 0, none⟩ = some (.slice (some ⟨g, 0, none⟩) Es.length cap) ∧ w'.cell? ⟨g, i * 2, none⟩ = some (.pointer (some ⟨e.p.a, 0, none⟩)) ∧ w'.cell? ⟨g, i * 2 + 1, none⟩ = some (.pointer (some ⟨e.r.q, 0, none⟩)) ∧ w'.cell? ⟨w.heap.size, 1, none⟩ = some (.int .i64 on)) (first | (go_keep; done) | (simp; done)) (first | (go_at_call 15; refine (lpick_any on (Es.length : Int) _ hon.1 hon.2 (by omega) (by omega)).mono ?_; rw [HI.out]; rintro e w' ⟨rfl, rfl⟩))
  all_goals
    rename_i hHeld
    clear hHeld c0 r0 r1 o1
    go_wp2_with fail
    refine (spoilt_any SJ a bb _ (by omega) ha).mono ?_
    rintro ex w1 ⟨s', rfl, hs', hb1⟩
    have h4' := H3.out.mk' hb1
    go_wp2_with fail
    refine (wopened_any _ s' h4' hl (by omega) hM).mono ?_
    rintro ex w1 ⟨rfl, lv', Es', C', WW, hE, _⟩
    have FIN : Hid (StepP w0 b Es Ls M (.returned (.bool true)) w1) := ⟨rfl, lv', sv, _, Ls, C', WW.more (by omega), hE, h4, by omega⟩
    clear WW hE h4' hb1
    go_wp2
    go_ret
    exact FIN.out

set_option maxRecDepth 100000 in
set_option maxHeartbeats 4000000 in
theorem step_ask (w : World) (h : Wd w0 w b lv sv Es Ls M C) (h4 : Ls.length % 4 = 0) (o : OpR) (hon : I64 o.on) (ha : I64 o.a) (hl : Es.length < 4000000) (hM : M ≤ 1000000000) (he : Es.length ≠ 0) (hb : I64 o.b) (hll : Ls.length + 4 ≤ 16000000) (n1 : o.k ≠ 1) (n9 : o.k ≠ 9) (n12 : o.k ≠ 12) (n13 : o.k ≠ 13) (n10 : o.k ≠ 10) (n11 : o.k ≠ 11) :
    Calls Tryz.prog 8 #[.pointer (some ⟨b, 0, none⟩), opV o] w (StepP w0 b Es Ls M) := by
  have B1 : Below w.heap.size w (w.alloc (.cells (opC o) 35)) := (Below.refl _ _).alloc (Nat.le_refl _) (.cells (opC o) 35)
  have h1 := h.mk' B1
  have hpk := pk_bd o.on (Es.length : Int) (by omega)
  obtain ⟨i, hi⟩ : ∃ i : Nat, pk o.on (Es.length : Int) = (i : Int) := ⟨(pk o.on (Es.length : Int)).toNat, by omega⟩
  have hil : i < Es.length := by omega
  have hiI : (i : Int) < (Es.length : Int) := by omega
  obtain ⟨e, hE⟩ : ∃ e, Es[i]? = some e := ⟨Es[i], by simp [hil]⟩
  obtain ⟨g, cap, ev, r0, r1, gl⟩ := pairs_at h1.lr hE
  subst ev
  have c0 := h1.c0
  have o1 : (w.alloc (.cells (opC o) 35)).cell? ⟨w.heap.size, 1, none⟩ = some (.int .i64 o.on) := by simp [go_sem]
  have n0 : ((Es.length : Int) == 0) = false := by simpa using he
  have h3 := h.mk' (picked_below w e o)
  have E3 := h3.ents i e hE
  have q1 : (picked w e o).cell? ⟨w.heap.size + 1, 1, none⟩ = some (.pointer (some ⟨e.r.q, 0, none⟩)) := by simp [picked, go_sem]
  have q0 : (picked w e o).cell? ⟨w.heap.size + 1, 0, none⟩ = some (.pointer (some ⟨e.p.a, 0, none⟩)) := by simp [picked, go_sem]
  have p0 : (picked w e o).cell? ⟨w.heap.size, 0, none⟩ = some (.int .i64 o.k) := by simp [picked, go_sem]
  have p1 : (picked w e o).cell? ⟨w.heap.size, 1, none⟩ = some (.int .i64 o.on) := by simp [picked, go_sem]
  have p2 : (picked w e o).cell? ⟨w.heap.size, 2, none⟩ = some (.int .i64 o.a) := by simp [picked, go_sem]
  have p3 : (picked w e o).cell? ⟨w.heap.size, 3, none⟩ = some (.int .i64 o.b) := by simp [picked, go_sem]
  have p4 : (picked w e o).cell? ⟨w.heap.size, 4, none⟩ = some (.string o.s) := by simp [picked, go_sem]
  have p5 : (picked w e o).cell? ⟨w.heap.size, 5, none⟩ = some (.int .i64 (o.c 0)) := by simp [picked, go_sem]
  have p6 : (picked w e o).cell? ⟨w.heap.size, 6, none⟩ = some (.int .i64 (o.c 1)) := by simp [picked, go_sem]
  have p7 : (picked w e o).cell? ⟨w.heap.size, 7, none⟩ = some (.int .i64 (o.c 2)) := by simp [picked, go_sem]
  have p8 : (picked w e o).cell? ⟨w.heap.size, 8, none⟩ = some (.int .i64 (o.c 3)) := by simp [picked, go_sem]
  have p9 : (picked w e o).cell? ⟨w.heap.size, 9, none⟩ = some (.int .i64 (o.c 4)) := by simp [picked, go_sem]
  have p10 : (picked w e o).cell? ⟨w.heap.size, 10, none⟩ = some (.int .i64 (o.c 5)) := by simp [picked, go_sem]
  have p11 : (picked w e o).cell? ⟨w.heap.size, 11, none⟩ = some (.int .i64 (o.c 6)) := by simp [picked, go_sem]
  have p12 : (picked w e o).cell? ⟨w.heap.size, 12, none⟩ = some (.int .i64 (o.c 7)) := by simp [picked, go_sem]
  have q6 : (picked w e o).cell? ⟨e.r.q, 83, none⟩ = some (.string (strOfNums e.S.J)) := E3.rled.cj
  have hsz : (strOfNums e.S.J).size ≤ M := by rw [strOfNums_size]; exact E3.jl
  generalize strOfNums e.S.J = SJ at *
  have HI := hid hi
  have H3 := hid h3
  have HE := hid hE
  obtain ⟨k, on, a, bb, s, c⟩ := o
  simp only at n1 n9 n12 n13 n10 n11
  have m1 : (k == 1) = false := by simpa using n1
  have m9 : (k == 9) = false := by simpa using n9
  have m12 : (k == 12) = false := by simpa using n12
  have m13 : (k == 13) = false := by simpa using n13
  have m10 : (k == 10) = false := by simpa using n10
  have m11 : (k == 11) = false := by simpa using n11
  clear n1 n9 n12 n13 n10 n11
  clear h1 hi hE hpk he h3 E3 B1 h
  go_enter Tryz.func8, Tryz.ntmps8
  go_wp2_with fail
  go_region_held3 (fun w' => w'.cell? ⟨b, 0, none⟩ = some (.slice (some ⟨g, 0, none⟩) Es.length cap) ∧ w'.cell? ⟨g, i * 2, none⟩ = some (.pointer (some ⟨e.p.a, 0, none⟩)) ∧ w'.cell? ⟨g, i * 2 + 1, none⟩ = some (.pointer (some ⟨e.r.q, 0, none⟩)) ∧ w'.cell? ⟨w.heap.size, 1, none⟩ = some (.int .i64 on)) (first | (go_keep; done) | (simp; done)) (first | (go_at_call 15; refine (lpick_any on (Es.length : Int) _ hon.1 hon.2 (by omega) (by omega)).mono ?_; rw [HI.out]; rintro e w' ⟨rfl, rfl⟩))
  all_goals
    rename_i hHeld
    clear hHeld c0 r0 r1 o1
    go_wp2_with fail
    refine (asked_any _ H3.out HE.out h4 ⟨k, on, a, bb, s, c⟩ ha hb hll hM).mono ?_
    rintro ex w1 ⟨rfl, sv', Es', Ls', C', WW, hE, h4', hl'⟩
    have FIN : Hid (StepP w0 b Es Ls M (.returned (.bool true)) w1) := ⟨rfl, _, sv', Es', Ls', C', WW, by omega, h4', hl'⟩
    clear WW hE h4' hl'
    go_wp2
    go_ret
    exact FIN.out

theorem step_any (w : World) (h : Wd w0 w b lv sv Es Ls M C) (h4 : Ls.length % 4 = 0) (o : OpR) (hon : I64 o.on) (ha : I64 o.a) (hb : I64 o.b) (hs : o.s.size ≤ M) (hl : Es.length < 4000000) (hll : Ls.length + 4 ≤ 16000000) (hM : M ≤ 1000000000) :
    Calls Tryz.prog 8 #[.pointer (some ⟨b, 0, none⟩), opV o] w (StepP w0 b Es Ls M) := by
  by_cases n1 : o.k = 1
  · exact step_new w h h4 o hl n1
  by_cases n9 : o.k = 9
  · exact step_open w h h4 o hl hs hM n9
  by_cases n12 : o.k = 12
  · exact step_frame w h h4 o n12
  by_cases n13 : o.k = 13
  · exact step_unframe w h h4 o (by unfold maxLen; omega) n13
  by_cases he : Es.length = 0
  · exact step_none w h h4 o he n1 n9 n12 n13
  by_cases n10 : o.k = 10
  · exact step_cut w h h4 o hon ha hl hM he n10
  by_cases n11 : o.k = 11
  · exact step_spoil w h h4 o hon ha hl hM he n11
  exact step_ask w h h4 o hon ha hl hM he hb hll n1 n9 n12 n13 n10 n11
end

end Go.Proofs.YtdblmheoghhepaaGreatDoor

/- The law's 'plays': every script. -/
namespace Go.Proofs.YtdblmheoghhepaaGreatDoor
open Go.RowKit

/-- A slice of steps. -/
def OpsIs (w : World) (x : Option Addr) (L : List OpR) : Prop := (∀ o ∈ L, I64 o.on ∧ I64 o.a ∧ I64 o.b ∧ o.s.size ≤ 1048576) ∧ (L = [] ∨ ∃ g o, x = some ⟨g, o, none⟩ ∧ g < w.heap.size ∧ ∀ (k : Nat) op, L[k]? = some op → ∀ (j : Nat) v, (opC op)[j]? = some v → w.cell? ⟨g, o + k * 13 + j, none⟩ = some v)

theorem wd_start (w : World) (hT : TabW w) (M : Nat) : ∃ C, Wd w (w.alloc (.cells #[.slice none 0 0, .slice none 0 0] 29)) w.heap.size (.slice none 0 0) (.slice none 0 0) [] [] M C := by
  have B : Below w.heap.size w (w.alloc (.cells #[.slice none 0 0, .slice none 0 0] 29)) := (Below.refl _ _).alloc (Nat.le_refl _) _
  refine ⟨fun k => if k < w.heap.size then 3 else 0, hT.below B hT.pos, hT.pos, B, by simp [go_sem], by simp [go_sem], free_new _ _ _, World.ownsRow_nil _ _ _ _, World.ownsRow_nil _ _ _ _, fun i e h => (by simp at h), fun i e h => (by simp at h), by simp, fun k hk => (by cases hk), fun k hk => (by cases hk), fun i x h => (by simp at h), fun i e h => (by simp at h), fun k hk => if_pos hk, (by simp), (by simp)⟩

set_option maxRecDepth 100000 in
set_option maxHeartbeats 8000000 in
theorem plays_any (x : Option Addr) (cp : Nat) (L : List OpR) (last : Int) (w : World) (hT : TabW w) (hr : OpsIs w x L) (hl : L.length ≤ 1048576) :
    Calls Tryz.prog 6 #[.slice x L.length cp, .int .i64 last] w fun e w' => e = .returned (.bool true) ∧ Below w.heap.size w w' := by
  obtain ⟨C0, h0⟩ := wd_start w hT 1048576
  have HR := hid hr
  clear hr hT
  go_enter Tryz.func6, Tryz.ntmps6
  go_wp2_with fail
  refine (wbegins_any _ h0 (by simp)).mono ?_
  rintro ex w1 ⟨rfl, lv1, E1, C1, h1⟩
  go_wp2_with fail
  refine (step_any _ h1 (by simp) ⟨2, 0, 0, 0, ByteArray.empty, eight 1 5 1 0 0 7 0 0⟩ (by constructor <;> simp) (by constructor <;> simp) (by constructor <;> simp) (by simp) (by simp) (by simp) (by omega)).mono ?_
  rintro ex w2 ⟨rfl, lv2, sv2, Es2, Ls2, C2, h2, hE2, h42, hl2⟩
  clear h0 h1
  simp only [List.nil_append, List.length_cons, List.length_nil] at hE2 hl2
  go_wp2
  go_loopw [6, 7] (fun s v wr => ∃ (k : Nat) (lv sv : Value) (Es : List Ent) (Ls : List (Value × Nat)) (C : Nat → Nat), k ≤ L.length ∧ s = .bool true ∧ v = .int .i64 (k : Int) ∧ Wd w wr w.heap.size lv sv Es Ls (1048576 + 37 * (k + 1)) C ∧ Es.length ≤ k + 2 ∧ Ls.length % 4 = 0 ∧ Ls.length ≤ 4 * (k + 1)) (fun _ v _ => L.length - (intOf v).toNat)
  case atStart => exact ⟨0, lv2, sv2, Es2, Ls2, C2, Nat.zero_le _, rfl, rfl, h2, by omega, h42, by omega⟩
  case round =>
    obtain ⟨k, lv, sv, Es, Ls, C, hk, rfl, rfl, h, hE, h4, hL⟩ := hrel
    clear h2 hE2 h42 hl2
    by_cases hlt : k < L.length
    · obtain ⟨op, hop⟩ : ∃ op, L[k]? = some op := ⟨L[k], by simp [hlt]⟩
      obtain ⟨b1, b2, b3, b4⟩ := HR.out.1 op (List.mem_of_getElem? hop)
      obtain ⟨g, o, ex, hg, hc⟩ : ∃ g o, x = some ⟨g, o, none⟩ ∧ g < w.heap.size ∧ ∀ (k : Nat) op, L[k]? = some op → ∀ (j : Nat) v, (opC op)[j]? = some v → w.cell? ⟨g, o + k * 13 + j, none⟩ = some v := by
        rcases HR.out.2 with e | e
        · rw [e] at hlt; simp at hlt
        · exact e
      subst ex
      have cell : ∀ (j : Nat) v, (opC op)[j]? = some v → wr.cell? ⟨g, o + k * 13 + j, none⟩ = some v := fun j v hv => (h.below.cell (p := ⟨g, o + k * 13 + j, none⟩) hg).trans (hc k op hop j v hv)
      have y0 : wr.cell? ⟨g, o + k * 13, none⟩ = some (.int .i64 op.k) := cell 0 _ rfl
      have y1 : wr.cell? ⟨g, o + k * 13 + 1, none⟩ = some (.int .i64 op.on) := cell 1 _ rfl
      have y2 : wr.cell? ⟨g, o + k * 13 + 1 + 1, none⟩ = some (.int .i64 op.a) := cell 2 _ rfl
      have y3 : wr.cell? ⟨g, o + k * 13 + 1 + 1 + 1, none⟩ = some (.int .i64 op.b) := cell 3 _ rfl
      have y4 : wr.cell? ⟨g, o + k * 13 + 1 + 1 + 1 + 1, none⟩ = some (.string op.s) := cell 4 _ rfl
      have y5 : wr.cell? ⟨g, o + k * 13 + 1 + 1 + 1 + 1 + 1, none⟩ = some (.int .i64 (op.c 0)) := cell 5 _ rfl
      have y6 : wr.cell? ⟨g, o + k * 13 + 1 + 1 + 1 + 1 + 1 + 1, none⟩ = some (.int .i64 (op.c 1)) := cell 6 _ rfl
      have y7 : wr.cell? ⟨g, o + k * 13 + 1 + 1 + 1 + 1 + 1 + 1 + 1, none⟩ = some (.int .i64 (op.c 2)) := cell 7 _ rfl
      have y8 : wr.cell? ⟨g, o + k * 13 + 1 + 1 + 1 + 1 + 1 + 1 + 1 + 1, none⟩ = some (.int .i64 (op.c 3)) := cell 8 _ rfl
      have y9 : wr.cell? ⟨g, o + k * 13 + 1 + 1 + 1 + 1 + 1 + 1 + 1 + 1 + 1, none⟩ = some (.int .i64 (op.c 4)) := cell 9 _ rfl
      have y10 : wr.cell? ⟨g, o + k * 13 + 1 + 1 + 1 + 1 + 1 + 1 + 1 + 1 + 1 + 1, none⟩ = some (.int .i64 (op.c 5)) := cell 10 _ rfl
      have y11 : wr.cell? ⟨g, o + k * 13 + 1 + 1 + 1 + 1 + 1 + 1 + 1 + 1 + 1 + 1 + 1, none⟩ = some (.int .i64 (op.c 6)) := cell 11 _ rfl
      have y12 : wr.cell? ⟨g, o + k * 13 + 1 + 1 + 1 + 1 + 1 + 1 + 1 + 1 + 1 + 1 + 1 + 1, none⟩ = some (.int .i64 (op.c 7)) := cell 12 _ rfl
      have kI : (k : Int) < (L.length : Int) := by omega
      clear cell hc hop
      by_cases hgt : last < op.k
      · have FW := hid h
        clear h
        go_wp2
        go_roundw
        case rel => exact ⟨k + 1, lv, sv, Es, Ls, C, by omega, rfl, by go_num, FW.out.more (by omega), by omega, h4, by omega⟩
        case measure => simp [intOf]; omega
      · go_wp2_with fail
        refine (step_any wr h h4 op b1 b2 b3 (by omega) (by omega) (by omega) (by omega)).mono ?_
        rintro ex w3 ⟨rfl, lv3, sv3, Es3, Ls3, C3, h3, hE3, h43, hl3⟩
        go_wp2_with fail
        refine (looks_any w3 h3).mono ?_
        rintro ex w4 ⟨rfl, hb4⟩
        have FW := hid ((h3.mk' hb4).more (M' := 1048576 + 37 * (k + 1 + 1)) (by omega))
        clear h h3 hb4
        go_wp2
        go_roundw
        case rel => exact ⟨k + 1, lv3, sv3, Es3, Ls3, C3, by omega, rfl, by go_num, FW.out, by omega, h43, by omega⟩
        case measure => simp [intOf]; omega
    · have he : k = L.length := by omega
      subst he
      have HB := hid h.below
      clear h
      go_wp2
      go_ret
      exact ⟨rfl, HB.out⟩

end Go.Proofs.YtdblmheoghhepaaGreatDoor
