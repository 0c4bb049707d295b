/- The boxes of a command and of its answer beside ledger and book; blocks that neither touches. -/
import Derived.Test.YtdblmheoghhepaaDoorKCmdsAt
import Derived.Deep.RegionHeld3
namespace Go.Proofs.YtdblmheoghhepaaDoor
open Go.RowKit

theorem CmdAt.turned {F : Nat → Prop} {w w' : World} {b : Nat} {f : Nat → Int} (h : CmdAt w b f) (hT : Turned F w w') (hb : b < w.heap.size) (hF : ¬ F b) : CmdAt w' b f := fun j hj => (hT.cell hb hF j).trans (h j hj)

theorem Mid.set {w0 w : World} {p : Adr} {a b : Nat} {hv : Value} {S S' : Led} {n : Nat} (h : Mid w0 w p a b hv S S' n) (q j : Nat) (v : Value) (h1 : ¬ p.foot q) (h2 : ¬ KFoot b hv q) (h3 : w0.heap.size ≤ q) : Mid w0 (w.setCell ⟨q, j, none⟩ v) p a b hv S S' n := by
  have e : ∀ k, k ≠ q → (w.setCell ⟨q, j, none⟩ v).heap[k]? = w.heap[k]? := fun k hk => Below.heap_setCell _ _ _ _ hk
  have hb : Below w0.heap.size w (w.setCell ⟨q, j, none⟩ v) := (Below.refl _ _).setCell h3 v
  refine ⟨⟨h.live.led.same fun k hk => e k (fun x => h1 (x ▸ hk)), h.live.tab.below hb h.live.pos, h.live.ok, h.live.foot, h.live.below.trans hb, h.live.pos⟩, h.pa, h.book.same fun k hk => e k (fun x => h2 (x ▸ hk)), h.new, h.apart, h.hok, h.ok, h.len, h.ids, h.jl⟩

theorem Turned.frozen {F : Nat → Prop} {w w' : World} (h : Turned F w w') {b : Nat} (hb : b < w.heap.size) (hn : ¬ F b) (j : Nat) : w'.frozen? ⟨b, j, none⟩ = w.frozen? ⟨b, j, none⟩ := World.frozen?_of_block (a := ⟨b, j, none⟩) (h.block b hb hn)

/-- What stands behind 'Do', said of the world w3 in which the statement began: the book is read, the command's box c is as it was, and so is a box that was made for the answer ahead of the call. -/
structure Did (w0 w3 : World) (q : Nat) (W w4 : World) (p p' : Adr) (a b : Nat) (hv : Value) (S S' : Led) (n c : Nat) (f : Nat → Int) : Prop where
  mid : Mid w0 w4 p' a b hv S S' n
  cmd : CmdAt w4 c f
  size : W.heap.size ≤ w4.heap.size
  c0 : w4.cell? ⟨b, 0, none⟩ = some (.pointer (some ⟨a, 0, none⟩))
  box : ∀ o, q < W.heap.size → w4.cell? ⟨q, o, none⟩ = W.cell? ⟨q, o, none⟩
  frz : ∀ o, q < W.heap.size → w4.frozen? ⟨q, o, none⟩ = W.frozen? ⟨q, o, none⟩
  nf : q < W.heap.size → ¬ p'.foot q
  cf : ¬ p'.foot c
  nk : ¬ KFoot b hv q
  oth : ∀ g, g < q → ¬ p.foot g → w4.heap[g]? = w3.heap[g]? ∧ ¬ p'.foot g
  ck : ¬ KFoot b hv c

theorem do_box (w0 w3 W : World) (p : Adr) (a b : Nat) (hv : Value) (S : Led) (n : Nat) (f : Nat → Int) (c : Nat) (R : Run w0 w3 p a b hv S n) (hF : Hid (refOk f = true ∧ f 1 = (n : Int))) (hn : n ≤ 2000000) (hc : CmdAt w3 c f) (hcl : c < w3.heap.size) (hcf : ¬ p.foot c) (hck : ¬ KFoot b hv c) (hb : Below w3.heap.size w3 W) (q : Nat) (hq : w3.heap.size = q) :
    Calls Tryd.prog 17 #[.pointer (some ⟨a, 0, none⟩), cmdV f] W fun e w4 => e = .returned (ansV (dec S f).E (dec S f).N) ∧ ∃ p', Did w0 w3 q W w4 p p' a b hv S (doD S f).S n c f := by
  subst hq
  have R' := R.below hb
  refine (do_run w0 W p a b hv S n f R' hF.out.1 hF.out.2 hn).mono ?_
  rintro e w' ⟨rfl, p', M, T, hpf⟩
  have hsz := hb.size
  have nf : ¬ p.foot w3.heap.size := fun e => by have := R.live.led.foot_lt e; omega
  refine ⟨rfl, p', M, (hc.below hb hcl).turned T (by omega) hcf, T.size, M.book.c0, fun o ho => T.cell ho nf o, fun o ho => T.frozen ho nf o, fun ho e => ?_, fun e => ?_, fun e => ?_, fun g hg hp => ⟨(T.block g (by omega) hp).trans (hb.block g hg), fun e => ?_⟩, hck⟩
  · rcases hpf _ e with h | h
    · exact nf h
    · omega
  · rcases hpf _ e with h | h
    · exact hcf h
    · omega
  · have := R.book.lt e; omega
  · rcases hpf _ e with h | h
    · exact hp h
    · omega

/-- The boxes of the command and of the answer, beside ledger and book. -/
structure Side (w : World) (p : Adr) (b : Nat) (hv : Value) (c : Nat) (f : Nat → Int) (q : Nat) (E N : Int) : Prop where
  cmd : CmdAt w c f
  a0 : w.cell? ⟨q, 0, none⟩ = some (.int .i64 E)
  a1 : w.cell? ⟨q, 1, none⟩ = some (.int .i64 N)
  cl : c < w.heap.size
  cf : ¬ p.foot c
  qf : ¬ p.foot q
  ck : ¬ KFoot b hv c
  qk : ¬ KFoot b hv q
theorem Side.ql {w : World} {p : Adr} {b : Nat} {hv : Value} {c : Nat} {f : Nat → Int} {q : Nat} {E N : Int} (h : Side w p b hv c f q E N) : q < w.heap.size := World.block_lt_of_cell? w ⟨q, 0, none⟩ h.a0
theorem Side.below {w w' : World} {p : Adr} {b : Nat} {hv : Value} {c : Nat} {f : Nat → Int} {q : Nat} {E N : Int} (h : Side w p b hv c f q E N) (hb : Below w.heap.size w w') : Side w' p b hv c f q E N :=
  ⟨h.cmd.below hb h.cl, (hb.cell (p := ⟨q, 0, none⟩) h.ql).trans h.a0, (hb.cell (p := ⟨q, 1, none⟩) h.ql).trans h.a1, Nat.lt_of_lt_of_le h.cl hb.size, h.cf, h.qf, h.ck, h.qk⟩

theorem Did.new {w0 w3 : World} {q : Nat} {W w4 : World} {p p' : Adr} {a b : Nat} {hv : Value} {S S' : Led} {n c : Nat} {f : Nat → Int} (D : Did w0 w3 q W w4 p p' a b hv S S' n c f) (E N : Int) (hcl : c < W.heap.size) (hqW : q ≤ W.heap.size) :
    Mid w0 (w4.alloc (.cells #[.int .i64 E, .int .i64 N] 39)) p' a b hv S S' n ∧ Side (w4.alloc (.cells #[.int .i64 E, .int .i64 N] 39)) p' b hv c f w4.heap.size E N ∧ (∀ g, g < q → ¬ p.foot g → (w4.alloc (.cells #[.int .i64 E, .int .i64 N] 39)).heap[g]? = w3.heap[g]? ∧ ¬ p'.foot g) := by
  have hb : Below w4.heap.size w4 (w4.alloc (.cells #[.int .i64 E, .int .i64 N] 39)) := (Below.refl _ _).alloc (Nat.le_refl _) _
  have hs := D.size
  refine ⟨D.mid.below hb, ⟨D.cmd.below hb (by omega), ?_, ?_, by simp; omega, D.cf, fun e => ?_, D.ck, fun e => ?_⟩, fun g hg hp => ⟨(hb.block g (by omega)).trans (D.oth g hg hp).1, (D.oth g hg hp).2⟩⟩
  · simp [go_sem]
  · simp [go_sem]
  · have := D.mid.live.led.foot_lt e; omega
  · have := D.mid.book.lt e; omega
theorem Did.old {w0 w3 : World} {q : Nat} {W w4 : World} {p p' : Adr} {a b : Nat} {hv : Value} {S S' : Led} {n c : Nat} {f : Nat → Int} (D : Did w0 w3 q W w4 p p' a b hv S S' n c f) (E N : Int) (hcl : c < W.heap.size) (hq : q < W.heap.size) (hqc : q ≠ c) (h0 : w0.heap.size ≤ q)
    (e0 : (W.cell? ⟨q, 0, none⟩).isSome = true) (e1 : (W.cell? ⟨q, 1, none⟩).isSome = true) :
    Mid w0 ((w4.setCell ⟨q, 0, none⟩ (.int .i64 E)).setCell ⟨q, 1, none⟩ (.int .i64 N)) p' a b hv S S' n ∧ Side ((w4.setCell ⟨q, 0, none⟩ (.int .i64 E)).setCell ⟨q, 1, none⟩ (.int .i64 N)) p' b hv c f q E N ∧ (∀ g, g < q → ¬ p.foot g → ((w4.setCell ⟨q, 0, none⟩ (.int .i64 E)).setCell ⟨q, 1, none⟩ (.int .i64 N)).heap[g]? = w3.heap[g]? ∧ ¬ p'.foot g) := by
  have hs := D.size
  have nf := D.nf hq
  have M1 := (D.mid.set q 0 (.int .i64 E) nf D.nk h0).set q 1 (.int .i64 N) nf D.nk h0
  have k0 : (w4.cell? ⟨q, 0, none⟩).isSome = true := by rw [D.box 0 hq]; exact e0
  have k1 : (w4.cell? ⟨q, 1, none⟩).isSome = true := by rw [D.box 1 hq]; exact e1
  refine ⟨M1, ⟨fun j hj => ?_, ?_, ?_, by simp; omega, D.cf, nf, D.ck, D.nk⟩, fun g hg hp => ⟨?_, (D.oth g hg hp).2⟩⟩
  · rw [World.cell?_setCell_other _ _ _ _ (fun e => hqc (congrArg Addr.block e)), World.cell?_setCell_other _ _ _ _ (fun e => hqc (congrArg Addr.block e))]
    exact D.cmd j hj
  · rw [World.cell?_setCell_other _ _ _ _ (off_ne (by omega))]
    exact World.cell?_setCell_same' _ _ _ k0
  · refine World.cell?_setCell_same' _ _ _ ?_
    rw [World.cell?_setCell_other _ _ _ _ (off_ne (by omega))]
    exact k1
  · rw [Below.heap_setCell _ _ _ _ (by simp; omega), Below.heap_setCell _ _ _ _ (by simp; omega)]
    exact (D.oth g hg hp).1

theorem takes_box (w0 w : World) (p : Adr) (a b : Nat) (hv : Value) (S : Led) (n : Nat) (f : Nat → Int) (c q : Nat) (M : Mid w0 w p a b hv S (doD S f).S n) (hF : Hid (refOk f = true ∧ f 1 = (n : Int))) (X : Side w p b hv c f q (dec S f).E (dec S f).N) :
    Calls Tryd.prog 18 #[.pointer (some ⟨b, 0, none⟩), cmdV f, ansV (dec S f).E (dec S f).N] w fun e w' => e = .returned (.bool true) ∧ ∃ hv', Run w0 w' p a b hv' (doD S f).S (n + 1) ∧ Side w' p b hv' c f q (dec S f).E (dec S f).N ∧ (∀ g, g < w.heap.size → ¬ KFoot b hv g → w'.heap[g]? = w.heap[g]? ∧ ¬ KFoot b hv' g) ∧ w.heap.size ≤ w'.heap.size := by
  refine (takes_run w0 w p a b hv S n f M hF.out.1 hF.out.2).mono ?_
  rintro e w' ⟨rfl, hv', R, T, hK⟩
  have ql := X.ql
  have cl := X.cl
  refine ⟨rfl, hv', R, ⟨X.cmd.turned T cl X.ck, (T.cell ql X.qk 0).trans X.a0, (T.cell ql X.qk 1).trans X.a1, Nat.lt_of_lt_of_le cl T.size, X.cf, X.qf, fun e => ?_, fun e => ?_⟩, fun g hg hk => ⟨T.block g hg hk, fun e => ?_⟩, T.size⟩
  · rcases hK _ e with h | h
    · exact X.ck h
    · omega
  · rcases hK _ e with h | h
    · exact X.qk h
    · omega
  · rcases hK _ e with h | h
    · exact hk h
    · omega

end Go.Proofs.YtdblmheoghhepaaDoor
