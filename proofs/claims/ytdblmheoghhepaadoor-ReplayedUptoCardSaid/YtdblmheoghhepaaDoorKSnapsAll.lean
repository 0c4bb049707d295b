/- Copies of the caller's book, and rows that grow beside ledger and book: nobody else writes them. -/
import Derived.Test.YtdblmheoghhepaaDoorKReplayAll
import Derived.Test.YtdblmheoghhepaaDoorKAgainPure
import Derived.Deep.MidRow
import Derived.Deep.WholeRow
namespace Go.Proofs.YtdblmheoghhepaaDoor
open Go.RowKit

/-! ### What is written, and what is not -/
/-- From w to w' none but the blocks of Z may have turned, and what lay outside Z lies outside Z'. -/
def Trn (Z : Nat → Prop) (w : World) (Z' : Nat → Prop) (w' : World) : Prop := w.heap.size ≤ w'.heap.size ∧ ∀ k, k < w.heap.size → ¬ Z k → w'.heap[k]? = w.heap[k]? ∧ ¬ Z' k
theorem Trn.trans {Z Z' Z'' : Nat → Prop} {w w' w'' : World} (h : Trn Z w Z' w') (k : Trn Z' w' Z'' w'') : Trn Z w Z'' w'' :=
  ⟨Nat.le_trans h.1 k.1, fun j hj hn => by
    obtain ⟨a, b⟩ := h.2 j hj hn
    obtain ⟨c, d⟩ := k.2 j (Nat.lt_of_lt_of_le hj h.1) b
    exact ⟨c.trans a, d⟩⟩
theorem Trn.below {Z : Nat → Prop} {w w' : World} (hb : Below w.heap.size w w') : Trn Z w Z w' := ⟨hb.size, fun k hk hn => ⟨hb.block k hk, hn⟩⟩
theorem KAt.trn {Z Z' : Nat → Prop} {w w' : World} {b : Nat} {l : Value} {now : Int} {P : Nat → Int} {hv : Value} {H : List (Nat → Int)} (h : KAt w b l now P hv H) (ho : ∀ k, KFoot b hv k → ¬ Z k) (t : Trn Z w Z' w') : KAt w' b l now P hv H ∧ ∀ k, KFoot b hv k → ¬ Z' k :=
  ⟨h.same fun k hk => (t.2 k (h.lt hk) (ho k hk)).1, fun k hk => (t.2 k (h.lt hk) (ho k hk)).2⟩

/-- A copy of the book: where it lies, its row, what it tells. -/
structure Cpy where
  B : Nat
  hv : Value
  S : Led
/-- The copies lie outside Z, and tell their ledgers. -/
def CpysAt (Z : Nat → Prop) (w : World) (l : Value) (Xs : List Cpy) : Prop := ∀ x ∈ Xs, KAt w x.B l x.S.now (pofG x.S.G) x.hv x.S.H ∧ (∀ k, KFoot x.B x.hv k → ¬ Z k) ∧ LOk x.S ∧ HOk x.S.now x.S.H
theorem CpysAt.trn {Z Z' : Nat → Prop} {w w' : World} {l : Value} {Xs : List Cpy} (h : CpysAt Z w l Xs) (t : Trn Z w Z' w') : CpysAt Z' w' l Xs := fun x hx => by
  obtain ⟨h1, h2, h3⟩ := h x hx
  obtain ⟨k1, k2⟩ := h1.trn h2 t
  exact ⟨k1, k2, h3⟩

theorem own_block_lt {w : World} {base : Nat} {e : TypeId} {size : Nat} {v : Value} {n : Nat} {xs : List Value} (h : w.ownsRow base e size v n xs) {k : Nat} (hk : v.ownBlock = some k) : k < w.heap.size := by
  rcases h.2 with ⟨e, _⟩ | ⟨g, cap, cur, e, hg, hh, _⟩
  · rw [e] at hk; cases hk
  · rw [e] at hk
    simp [Value.ownBlock] at hk
    subst hk
    exact (Array.getElem?_eq_some_iff.1 hh).1
theorem flat_one (H : List (Nat → Int)) : ∀ u ∈ H.flatMap hc, u.oneCell' = true := fun u hu => by
  obtain ⟨x, _, hx⟩ := List.mem_flatMap.1 hu
  exact cells8_one x u hx
/-- A row of one-cell values that its owner alone writes. -/
theorem own_trn {Z Z' : Nat → Prop} {w w' : World} {e : TypeId} {size : Nat} {v : Value} {n : Nat} {xs : List Value} (h : w.ownsRow 0 e size v n xs) (ho : ∀ k, v.ownBlock = some k → ¬ Z k) (t : Trn Z w Z' w') : w'.ownsRow 0 e size v n xs :=
  own_same h fun k hk => (t.2 k (own_block_lt h hk) (ho k hk)).1

theorem wp_append_at (w : World) {ops : Array Oper} {rest : List Oper} {o : Oper} {a : Act} {Q : Exit → Act → World → Prop} (hg : o.guard = none) (m x : Operand) (t : TypeId) (hop : o.op = Op.call { callee := Callee.builtin Builtin.append, args := #[m, x], argTypes := #[t, t] })
    (v sl : Value) (hm : a.eval m = v) (hx : a.eval x = sl) (v' : Value) (w' : World) (hr : (Builtin.append_ #[t, t] o.type #[v, sl]).run Tryd.prog w = .ok v' w')
    (hK : wpList Tryd.prog ops Q rest (a.put o.dst v') w') : wpList Tryd.prog ops Q (o :: rest) a w := by
  refine wpList_plain hg fun K hK' => ?_
  unfold Oper.wp execOp
  simp only [hop, resolve, invoke, builtin, Sem.run_bind, Sem.run_pure, Result.andThen_ok, List.map_toArray, List.map_cons, List.map_nil, hm, hx, hr]
  exact hK' _ _ hK

theorem info3 : (Tryd.prog.info? 3).map (fun i => (i.zero, i.size, i.bytes)) = some (some (.int .i64 0), 1, 8) := by kernel_rfl
theorem infoB : (Tryd.prog.info? 36).map (fun i => (i.zero, i.size, i.bytes)) = some (some (.pointer none), 1, 8) := by kernel_rfl

/-- A number goes behind a row of numbers. -/
theorem run_append_int (w : World) (ty : TypeId) (v : Value) (n : Nat) (xs : List Value) (hown : w.ownsRow 0 3 1 v n xs) (x : Int) (b : Nat) (hc : w.cell? ⟨b, 0, none⟩ = some (.int .i64 x)) (hn : n ≤ 2000000) :
    ∃ v' w', (Builtin.append_ #[64, 64] ty #[v, .slice (some ⟨b, 0, none⟩) 1 1]).run Tryd.prog w = .ok v' w' ∧ w'.ownsRow 0 3 1 v' (n + 1) (xs ++ [.int .i64 x]) ∧ w.grownBy w' v.ownBlock ∧ (v'.ownBlock = v.ownBlock ∨ v'.ownBlock = some w.heap.size) := by
  obtain ⟨i0, hi, hz0, hz1, hz2⟩ := info_parts info3
  obtain ⟨v', w', hr, h1, h2, _, h4⟩ := run_append_own_at (P := Tryd.prog) w 0 64 ty 3 i0 (.int .i64 0) 1 8 Tryd.underlying64 hi hz0 hz1 hz2 rfl (by decide) v n xs hown ⟨b, 0, none⟩ 1 1 [.int .i64 x] rfl (by
    intro j u hu
    cases j with
    | zero => simp at hu; subst hu; simpa [Addr.add] using hc
    | succ j => simp at hu) (by intro u hu; simp at hu; subst hu; rfl) (by unfold maxLen; omega) (by omega) (Nat.zero_le _)
  exact ⟨v', w', hr, h1, h2, h4⟩
/-- A pointer goes behind a row of pointers. -/
theorem run_append_ptr (w : World) (ty : TypeId) (v : Value) (n : Nat) (xs : List Value) (hown : w.ownsRow 0 36 1 v n xs) (B : Nat) (b : Nat) (hc : w.cell? ⟨b, 0, none⟩ = some (.pointer (some ⟨B, 0, none⟩))) (hn : n ≤ 2000000) :
    ∃ v' w', (Builtin.append_ #[65, 65] ty #[v, .slice (some ⟨b, 0, none⟩) 1 1]).run Tryd.prog w = .ok v' w' ∧ w'.ownsRow 0 36 1 v' (n + 1) (xs ++ [.pointer (some ⟨B, 0, none⟩)]) ∧ w.grownBy w' v.ownBlock ∧ (v'.ownBlock = v.ownBlock ∨ v'.ownBlock = some w.heap.size) := by
  obtain ⟨i0, hi, hz0, hz1, hz2⟩ := info_parts infoB
  obtain ⟨v', w', hr, h1, h2, _, h4⟩ := run_append_own_at (P := Tryd.prog) w 0 65 ty 36 i0 (.pointer none) 1 8 Tryd.underlying65 hi hz0 hz1 hz2 rfl (by decide) v n xs hown ⟨b, 0, none⟩ 1 1 [.pointer (some ⟨B, 0, none⟩)] rfl (by
    intro j u hu
    cases j with
    | zero => simp at hu; subst hu; simpa [Addr.add] using hc
    | succ j => simp at hu) (by intro u hu; simp at hu; subst hu; rfl) (by unfold maxLen; omega) (by omega) (Nat.zero_le _)
  exact ⟨v', w', hr, h1, h2, h4⟩
/-- All holds of a book go into a row of their own. -/
theorem run_append_all (w : World) (ty : TypeId) (b : Nat) (l : Value) (now : Int) (P : Nat → Int) (hv : Value) (H : List (Nat → Int)) (h : KAt w b l now P hv H) (hl : H.length ≤ 60) :
    ∃ v' w', (Builtin.append_ #[46, 46] ty #[.slice none 0 0, hv]).run Tryd.prog w = .ok v' w' ∧ w'.ownsRow 0 61 8 v' H.length (H.flatMap hc) ∧ w.grownBy w' none ∧ (v'.ownBlock = none ∨ v'.ownBlock = some w.heap.size) := by
  obtain ⟨i0, hi, hz0, hz1, hz2⟩ := info_parts info61
  rcases h.rows.2 with ⟨e, e2⟩ | ⟨g, cap, cur, e, hg, hh, hr⟩
  · have hH : H = [] := List.eq_nil_of_length_eq_zero e2
    subst hH
    rw [e]
    refine ⟨.slice none 0 0, w, ?_, World.ownsRow_nil _ 0 61 8, ?_, Or.inl rfl⟩
    · simp [go_sem, Builtin.append_]
    · exact ⟨rfl, rfl, rfl, Nat.le_refl _, fun _ _ _ => rfl⟩
  · have hrow := h.rows
    rw [e] at hrow ⊢
    obtain ⟨v', w', hr, h1, h2, _, h4⟩ := run_append_own_at (P := Tryd.prog) w 0 46 ty 61 i0 (cmdV zeroH) 8 64 Tryd.underlying46 hi hz0 hz1 hz2 rfl (by decide) (.slice none 0 0) 0 [] (World.ownsRow_nil _ 0 61 8) ⟨g, 0, none⟩ H.length cap (H.flatMap hc) (flat_len H) (by
      intro j u hu
      rw [add_off]
      have hj : j < (H.flatMap hc).length := (List.getElem?_eq_some_iff.1 hu).1
      have := hrow.cellAt j (by rw [flat_len] at hj; omega)
      rw [this]
      exact hu) (flat_one H) (by unfold maxLen; omega) (by omega) (Nat.zero_le _)
    refine ⟨v', w', hr, ?_, h2, h4⟩
    simpa using h1

end Go.Proofs.YtdblmheoghhepaaDoor

/- The book is copied; what the law 'Replayed' keeps beside ledger and book. -/
namespace Go.Proofs.YtdblmheoghhepaaDoor
open Go.RowKit

/-- The cells of a book. -/
def bookL (l : Value) (now : Int) (P : Nat → Int) (hv : Value) : List Value := l :: .int .i64 now :: ((List.range 80).map (fun i => Value.int .i64 (P i)) ++ [hv])
theorem bookL_len (l : Value) (now : Int) (P : Nat → Int) (hv : Value) : (bookL l now P hv).length = 83 := by simp [bookL]
theorem bookL_num (l : Value) (now : Int) (P : Nat → Int) (hv : Value) (k : Nat) (hk : k < 80) : (bookL l now P hv)[2 + k]? = some (.int .i64 (P k)) := by
  rw [show 2 + k = k + 1 + 1 by omega]
  unfold bookL
  rw [List.getElem?_cons_succ, List.getElem?_cons_succ, List.getElem?_append_left (by simpa using hk), List.getElem?_map, List.getElem?_range hk]
  rfl
theorem bookL_end (l : Value) (now : Int) (P : Nat → Int) (hv : Value) : (bookL l now P hv)[82]? = some hv := by
  unfold bookL
  rw [List.getElem?_cons_succ, List.getElem?_cons_succ, List.getElem?_append_right (by simp)]
  simp
theorem KAt.range {w : World} {b : Nat} {l : Value} {now : Int} {P : Nat → Int} {hv : Value} {H : List (Nat → Int)} (h : KAt w b l now P hv H) : w.rangeAt b 0 (bookL l now P hv) := by
  intro j v hv'
  rw [Nat.zero_add]
  have hj : j < 83 := by rw [← bookL_len l now P hv]; exact (List.getElem?_eq_some_iff.1 hv').1
  by_cases h0 : j = 0
  · subst h0; cases hv'; exact h.c0
  · by_cases h1 : j = 1
    · subst h1; cases hv'; exact h.c1
    · by_cases h2 : j = 82
      · subst h2; rw [bookL_end] at hv'; cases hv'; exact h.ch
      · obtain ⟨k, rfl⟩ : ∃ k, j = 2 + k := ⟨j - 2, by omega⟩
        rw [bookL_num _ _ _ _ k (by omega)] at hv'
        cases hv'
        exact h.nums k (by omega)
theorem bookL_one {l : Value} {now : Int} {P : Nat → Int} {hv : Value} (hl : l.oneCell' = true) (hh : hv.oneCell' = true) : ∀ v ∈ bookL l now P hv, v.oneCell' = true := by
  intro v hv'
  unfold bookL at hv'
  simp only [List.mem_cons, List.mem_append, List.mem_map, List.not_mem_nil, or_false] at hv'
  rcases hv' with rfl | rfl | ⟨i, _, rfl⟩ | rfl
  · exact hl
  · rfl
  · rfl
  · exact hh

/-- The cells of a book that was just made. -/
theorem book_new (w : World) (l : Value) (now : Int) (P : Nat → Int) (hv : Value) (t : TypeId) :
    (w.alloc (.cells (bookL l now P hv).toArray t)).cell? ⟨w.heap.size, 0, none⟩ = some l ∧ (w.alloc (.cells (bookL l now P hv).toArray t)).cell? ⟨w.heap.size, 1, none⟩ = some (.int .i64 now) ∧ NumsAt (w.alloc (.cells (bookL l now P hv).toArray t)) w.heap.size 2 80 P ∧ (w.alloc (.cells (bookL l now P hv).toArray t)).cell? ⟨w.heap.size, 82, none⟩ = some hv ∧ Free (w.alloc (.cells (bookL l now P hv).toArray t)) w.heap.size := by
  refine ⟨?_, ?_, fun k hk => ?_, ?_, free_new w _ t⟩
  · rw [World.cell?_alloc_new]; rfl
  · rw [World.cell?_alloc_new]; rfl
  · rw [World.cell?_alloc_new, List.getElem?_toArray]; exact bookL_num l now P hv k hk
  · rw [World.cell?_alloc_new, List.getElem?_toArray]; exact bookL_end l now P hv

theorem wp_store_new {ops : Array Oper} {rest : List Oper} {o : Oper} {a : Act} {Q : Exit → Act → World → Prop} (w : World) (hg : o.guard = none) (ty : TypeId) (x y : Operand) (hop : o.op = .store ty x y) (c c' : Array Value)
    (hx : a.eval x = .pointer (some ⟨w.heap.size, 0, none⟩)) (hy : a.eval y = .agg c') (hi : (Tryd.prog.info? ty).map (·.size) = some c'.size) (ho : c.size = c'.size) (h1 : c'.all (·.oneCell') = true)
    (hK : wpList Tryd.prog ops Q rest (a.put o.dst undef) (w.alloc (.cells c' ty))) : wpList Tryd.prog ops Q (o :: rest) a (w.alloc (.cells c ty)) := by
  refine wpList_plain hg fun K hK' => ?_
  unfold Oper.wp execOp
  simp only [hop, hx, hy, Sem.run_bind, Sem.run_pure, Result.andThen_ok, run_storeAt_new (P := Tryd.prog) w ty c c' hi ho h1]
  exact hK' _ _ hK

theorem Run.grow {w0 w w' : World} {p : Adr} {a b : Nat} {hv : Value} {S : Led} {n : Nat} {row : Option Nat} (h : Run w0 w p a b hv S n) (hg : w.grownBy w' row) (hr : ∀ k, row = some k → w0.heap.size ≤ k ∧ ¬ p.foot k ∧ ¬ KFoot b hv k) : Run w0 w' p a b hv S n := by
  have T : Turned (fun k => row = some k) w w' := Turned.ofGrown hg fun k e => Or.inl e
  have hb : Below w0.heap.size w w' := ⟨T.os, T.tape, T.output, T.size, fun k hk => T.block k (Nat.lt_of_lt_of_le hk h.live.below.size) (fun e => by have := (hr k e).1; omega)⟩
  refine ⟨⟨h.live.led.same fun k hk => T.block k (h.live.led.foot_lt hk) (fun e => (hr k e).2.1 hk), h.live.tab.turned T (fun e => by have := (hr 0 e).1; have := h.live.pos; omega), h.live.ok, h.live.foot, h.live.below.trans hb, h.live.pos⟩, h.pa, h.book.same fun k hk => T.block k (h.book.lt hk) (fun e => (hr k e).2.2 hk), h.new, h.apart, h.hok, h.ids, h.jl⟩

/-- The blocks that are written in the first loop of 'Replayed'. -/
def Zs (p : Adr) (b : Nat) (hv ev wv : Value) (k : Nat) : Prop := p.foot k ∨ KFoot b hv k ∨ ev.ownBlock = some k ∨ wv.ownBlock = some k
/-- The count of what was accepted behind command i - 1. -/
def prevC (Cs : List Nat) (i : Nat) : Nat := if i = 0 then 0 else (Cs[i - 1]?).getD 0

/-- What holds at the head of each round of the first loop of 'Replayed'. -/
structure RS (w0 w : World) (p : Adr) (a b : Nat) (hv ev wv : Value) (S : Led) (n : Nat) (fs : List (Nat → Int)) (Cs : List Nat) (Xs : List Cpy) : Prop where
  run : Run w0 w p a b hv S n
  er : w.ownsRow 0 3 1 ev Cs.length (Cs.map fun c => Value.int .i64 (((fsB (fs.take c)).length : Nat) : Int))
  wr : w.ownsRow 0 36 1 wv Xs.length (Xs.map fun x => Value.pointer (some ⟨x.B, 0, none⟩))
  eo : ∀ k, ev.ownBlock = some k → w0.heap.size ≤ k ∧ ¬ p.foot k ∧ ¬ KFoot b hv k ∧ wv.ownBlock ≠ some k
  wo : ∀ k, wv.ownBlock = some k → w0.heap.size ≤ k ∧ ¬ p.foot k ∧ ¬ KFoot b hv k
  cp : CpysAt (Zs p b hv ev wv) w (.pointer (some ⟨a, 0, none⟩)) Xs
  hist : Hist fs S0 S
  clen : Cs.length = n
  xlen : Xs.length = n
  cle : ∀ (i c : Nat), Cs[i]? = some c → c ≤ fs.length
  step : ∀ (i c : Nat), Cs[i]? = some c → prevC Cs i ≤ c ∧ c ≤ prevC Cs i + 1
  last : prevC Cs n = fs.length
  snap : ∀ (i c : Nat) x, Cs[i]? = some c → Xs[i]? = some x → Hist (fs.take c) S0 x.S

theorem rs_zero {w0 w : World} {p : Adr} {a b : Nat} (R : Run w0 w p a b (.slice none 0 0) S0 0) : RS w0 w p a b (.slice none 0 0) (.slice none 0 0) (.slice none 0 0) S0 0 [] [] [] :=
  ⟨R, World.ownsRow_nil _ 0 3 1, World.ownsRow_nil _ 0 36 1, fun k h => (by cases h), fun k h => (by cases h), fun x h => (by cases h), rfl, rfl, rfl, fun i c h => (by simp at h), fun i c h => (by simp at h), rfl, fun i c x h => (by simp at h)⟩

/-- One command more: what was accepted, and the counts. -/
theorem rs_counts {S : Led} {fs : List (Nat → Int)} {Cs : List Nat} {n : Nat} {f : Nat → Int} (hist : Hist fs S0 S) (clen : Cs.length = n) (cle : ∀ (i c : Nat), Cs[i]? = some c → c ≤ fs.length) (step : ∀ (i c : Nat), Cs[i]? = some c → prevC Cs i ≤ c ∧ c ≤ prevC Cs i + 1) (last : prevC Cs n = fs.length) :
    ∃ fs', Hist fs' S0 (doD S f).S ∧ fs'.length ≤ fs.length + 1 ∧ fs.length ≤ fs'.length ∧ (∀ c, c ≤ fs.length → fs'.take c = fs.take c) ∧ bytesU (doD S f).S.J = fsB (fs'.take fs'.length) ∧ (∀ (i c : Nat), (Cs ++ [fs'.length])[i]? = some c → c ≤ fs'.length) ∧
      (∀ (i c : Nat), (Cs ++ [fs'.length])[i]? = some c → prevC (Cs ++ [fs'.length]) i ≤ c ∧ c ≤ prevC (Cs ++ [fs'.length]) i + 1) ∧ prevC (Cs ++ [fs'.length]) (n + 1) = fs'.length := by
  have key : ∃ fs', Hist fs' S0 (doD S f).S ∧ fs'.length ≤ fs.length + 1 ∧ fs.length ≤ fs'.length ∧ (∀ c, c ≤ fs.length → fs'.take c = fs.take c) := by
    by_cases ha : Acc S f
    · refine ⟨fs ++ [f], ?_, by simp, by simp, fun c hc => by rw [List.take_append_of_le_length hc]⟩
      rw [do_acc ha]
      exact hist_snoc hist ha
    · refine ⟨fs, ?_, by omega, Nat.le_refl _, fun c _ => rfl⟩
      rw [do_nacc ha]
      exact hist
  obtain ⟨fs', h1, h2, h3, h4⟩ := key
  have hp : ∀ i, i ≤ n → prevC (Cs ++ [fs'.length]) i = prevC Cs i := fun i hi => by
    unfold prevC
    split
    · rfl
    · rw [List.getElem?_append_left (by omega)]
  refine ⟨fs', h1, h2, h3, h4, ?_, fun i c hc => ?_, fun i c hc => ?_, ?_⟩
  · rw [List.take_length, hist_J h1]
    simp [S0, bytesU]
  · rcases Nat.lt_or_ge i Cs.length with hi | hi
    · rw [List.getElem?_append_left hi] at hc
      have := cle i c hc
      omega
    · rw [List.getElem?_append_right hi] at hc
      rcases Nat.eq_zero_or_pos (i - Cs.length) with h0 | h0
      · rw [h0] at hc; simp at hc; omega
      · rw [List.getElem?_eq_none (by simp; omega)] at hc; cases hc
  · rcases Nat.lt_or_ge i Cs.length with hi | hi
    · rw [List.getElem?_append_left hi] at hc
      rw [hp i (by omega)]
      exact step i c hc
    · rw [List.getElem?_append_right hi] at hc
      rcases Nat.eq_zero_or_pos (i - Cs.length) with h0 | h0
      · rw [h0] at hc; simp at hc
        have hin : i = n := by omega
        rw [hin, hp n (Nat.le_refl _), last]
        omega
      · rw [List.getElem?_eq_none (by simp; omega)] at hc; cases hc
  · unfold prevC
    rw [if_neg (by omega), show n + 1 - 1 = Cs.length by omega, List.getElem?_append_right (Nat.le_refl _)]
    simp

theorem rs_moved {w0 w w' : World} {p p' : Adr} {a b : Nat} {hv hv' ev wv : Value} {S : Led} {n : Nat} {fs : List (Nat → Int)} {Cs : List Nat} {Xs : List Cpy} (h : RS w0 w p a b hv ev wv S n fs Cs Xs) (t : Trn (fun k => p.foot k ∨ KFoot b hv k) w (fun k => p'.foot k ∨ KFoot b hv' k) w') :
    w'.ownsRow 0 3 1 ev Cs.length (Cs.map fun c => Value.int .i64 (((fsB (fs.take c)).length : Nat) : Int)) ∧ w'.ownsRow 0 36 1 wv Xs.length (Xs.map fun x => Value.pointer (some ⟨x.B, 0, none⟩)) ∧
      (∀ k, ev.ownBlock = some k → w0.heap.size ≤ k ∧ ¬ p'.foot k ∧ ¬ KFoot b hv' k ∧ wv.ownBlock ≠ some k) ∧ (∀ k, wv.ownBlock = some k → w0.heap.size ≤ k ∧ ¬ p'.foot k ∧ ¬ KFoot b hv' k) ∧ CpysAt (Zs p' b hv' ev wv) w' (.pointer (some ⟨a, 0, none⟩)) Xs := by
  have he : ∀ k, ev.ownBlock = some k → ¬ (p.foot k ∨ KFoot b hv k) := fun k hk e => by
    obtain ⟨_, h2, h3, _⟩ := h.eo k hk
    exact e.elim h2 h3
  have hw : ∀ k, wv.ownBlock = some k → ¬ (p.foot k ∨ KFoot b hv k) := fun k hk e => by
    obtain ⟨_, h2, h3⟩ := h.wo k hk
    exact e.elim h2 h3
  refine ⟨own_trn h.er he t, own_trn h.wr hw t, fun k hk => ?_, fun k hk => ?_, h.cp.trn ⟨t.1, fun k hk hn => ?_⟩⟩
  · have := (t.2 k (own_block_lt h.er hk) (he k hk)).2
    exact ⟨(h.eo k hk).1, fun e => this (Or.inl e), fun e => this (Or.inr e), (h.eo k hk).2.2.2⟩
  · have := (t.2 k (own_block_lt h.wr hk) (hw k hk)).2
    exact ⟨(h.wo k hk).1, fun e => this (Or.inl e), fun e => this (Or.inr e)⟩
  · have hn' : ¬ (p.foot k ∨ KFoot b hv k) := fun e => hn (e.elim Or.inl (fun x => Or.inr (Or.inl x)))
    obtain ⟨h1, h2⟩ := t.2 k hk hn'
    refine ⟨h1, fun e => ?_⟩
    rcases e with e | e | e | e
    · exact h2 (Or.inl e)
    · exact h2 (Or.inr e)
    · exact hn (Or.inr (Or.inr (Or.inl e)))
    · exact hn (Or.inr (Or.inr (Or.inr e)))

theorem bookL_set (l : Value) (now : Int) (P : Nat → Int) (hv v : Value) : (bookL l now P hv).set 82 v = bookL l now P v := by
  unfold bookL
  rw [List.set_cons_succ, List.set_cons_succ, List.set_append_right _ _ (by simp)]
  simp

/-- A book with no holds was just made; its holds get a row of their own. -/
theorem copy_kat {w8 w10 : World} {l : Value} {now : Int} {P : Nat → Int} {vh : Value} {H : List (Nat → Int)} {t : TypeId} (g10 : ((w8.alloc (.cells (bookL l now P (.slice none 0 0)).toArray t)).drew).grownBy w10 none) (own : w10.ownsRow 0 61 8 vh H.length (H.flatMap hc)) (lh : vh.ownBlock = none ∨ vh.ownBlock = some (w8.heap.size + 1)) :
    KAt (w10.setCell ⟨w8.heap.size, 82, none⟩ vh) w8.heap.size l now P vh H ∧ Below w8.heap.size w8 (w10.setCell ⟨w8.heap.size, 82, none⟩ vh) ∧ (∀ k, KFoot w8.heap.size vh k → w8.heap.size ≤ k) := by
  obtain ⟨k0, k1, kn, kh, kf⟩ := book_new w8 l now P (.slice none 0 0) t
  have hb9 : Below w8.heap.size w8 ((w8.alloc (.cells (bookL l now P (.slice none 0 0)).toArray t)).drew) := ((Below.refl _ _).alloc (Nat.le_refl _) _).drew
  have eb : w10.heap[w8.heap.size]? = (w8.alloc (.cells (bookL l now P (.slice none 0 0)).toArray t)).heap[w8.heap.size]? := g10.block _ (by simp) (by simp)
  have hap : ∀ k, vh.ownBlock = some k → k ≠ w8.heap.size := fun k hk => by
    rcases lh with e | e
    · rw [e] at hk; cases hk
    · rw [e] at hk; cases hk; omega
  refine ⟨⟨?_, ?_, nums_other (kn.same eb) (by omega) _, World.cell?_setCell_same _ _ _ ((World.cell?_of_block (a := ⟨w8.heap.size, 82, none⟩) eb).trans kh), fun j => ?_, own_same own (fun k hk => Below.heap_setCell _ _ _ _ (hap k hk)), hap⟩, ?_, ?_⟩
  · rw [World.cell?_setCell_other _ _ _ _ (off_ne (by omega))]; exact (World.cell?_of_block (a := ⟨w8.heap.size, 0, none⟩) eb).trans k0
  · rw [World.cell?_setCell_other _ _ _ _ (off_ne (by omega))]; exact (World.cell?_of_block (a := ⟨w8.heap.size, 1, none⟩) eb).trans k1
  · rw [World.frozen?_setCell]; exact (World.frozen?_of_block (a := ⟨w8.heap.size, j, none⟩) eb).trans (kf j)
  · have T : Turned (fun k => w8.heap.size ≤ k) w8 w10 := (Turned.ofBelow hb9).trans (Turned.ofGrown g10 (fun k e => by cases e))
    have T2 := T.setCell (p := ⟨w8.heap.size, 82, none⟩) (Or.inl (Nat.le_refl _)) vh
    exact ⟨T2.os, T2.tape, T2.output, T2.size, fun k hk => T2.block k hk (by omega)⟩
  · rintro k (rfl | hk)
    · exact Nat.le_refl _
    · rcases lh with e | e
      · rw [e] at hk; cases hk
      · rw [e] at hk; cases hk; omega

/-- What the region of 'x.holds = append(x.holds, b.holds...)' reads. -/
def LoadsC (xb b : Nat) (hv : Value) (w : World) : Prop := w.cell? ⟨xb, 82, none⟩ = some (.slice none 0 0) ∧ w.cell? ⟨b, 82, none⟩ = some hv

/-- One round of the first loop is done. -/
theorem rs_next {w0 w w6 w8 w11 w14 : World} {p p4 : Adr} {a b : Nat} {hv hv6 ev wv ev8 wv14 vh : Value} {S S' : Led} {n : Nat} {fs fs' : List (Nat → Int)} {Cs : List Nat} {Xs : List Cpy} {xs : List Value}
    (Q : RS w0 w p a b hv ev wv S n fs Cs Xs) (R6 : Run w0 w6 p4 a b hv6 S' (n + 1))
    (wr6 : w6.ownsRow 0 36 1 wv Xs.length (Xs.map fun x => Value.pointer (some ⟨x.B, 0, none⟩)))
    (eo6 : ∀ k, ev.ownBlock = some k → w0.heap.size ≤ k ∧ ¬ p4.foot k ∧ ¬ KFoot b hv6 k ∧ wv.ownBlock ≠ some k) (wo6 : ∀ k, wv.ownBlock = some k → w0.heap.size ≤ k ∧ ¬ p4.foot k ∧ ¬ KFoot b hv6 k) (cp6 : CpysAt (Zs p4 b hv6 ev wv) w6 (.pointer (some ⟨a, 0, none⟩)) Xs)
    (hs1 : Hist fs' S0 S') (hs4 : ∀ c, c ≤ fs.length → fs'.take c = fs.take c) (hs6 : ∀ (i c : Nat), (Cs ++ [fs'.length])[i]? = some c → c ≤ fs'.length)
    (hs7 : ∀ (i c : Nat), (Cs ++ [fs'.length])[i]? = some c → prevC (Cs ++ [fs'.length]) i ≤ c ∧ c ≤ prevC (Cs ++ [fs'.length]) i + 1) (hs8 : prevC (Cs ++ [fs'.length]) (n + 1) = fs'.length)
    (T8 : Turned (fun k => ev.ownBlock = some k) w6 w8) (own8 : w8.ownsRow 0 3 1 ev8 (Cs.length + 1) xs) (hxs : xs = (Cs ++ [fs'.length]).map fun c => Value.int .i64 (((fsB (fs'.take c)).length : Nat) : Int))
    (l8 : ∀ k, ev8.ownBlock = some k → ev.ownBlock = some k ∨ w6.heap.size ≤ k)
    (KX : KAt w11 w8.heap.size (.pointer (some ⟨a, 0, none⟩)) S'.now (pofG S'.G) vh S'.H) (B11 : Below w8.heap.size w8 w11) (KF : ∀ k, KFoot w8.heap.size vh k → w8.heap.size ≤ k)
    (T14 : Turned (fun k => wv.ownBlock = some k) w11 w14) (own14 : w14.ownsRow 0 36 1 wv14 (Xs.length + 1) ((Xs.map fun x => Value.pointer (some ⟨x.B, 0, none⟩)) ++ [.pointer (some ⟨w8.heap.size, 0, none⟩)]))
    (l14 : ∀ k, wv14.ownBlock = some k → wv.ownBlock = some k ∨ w11.heap.size ≤ k) :
    RS w0 w14 p4 a b hv6 ev8 wv14 S' (n + 1) fs' (Cs ++ [fs'.length]) (Xs ++ [⟨w8.heap.size, vh, S'⟩]) := by
  have z68 := T8.size
  have z811 := B11.size
  have z1114 := T14.size
  have base := R6.live.below.size
  -- from w6 to w14 none but the two rows' blocks turn
  have TA : ∀ k, k < w6.heap.size → ev.ownBlock ≠ some k → wv.ownBlock ≠ some k → w14.heap[k]? = w6.heap[k]? := fun k hk h1 h2 => (T14.block k (by omega) h2).trans ((B11.block k (by omega)).trans (T8.block k hk h1))
  have hev : ∀ k, ev8.ownBlock = some k → w0.heap.size ≤ k ∧ ¬ p4.foot k ∧ ¬ KFoot b hv6 k := fun k hk => by
    rcases l8 k hk with e | e
    · exact ⟨(eo6 k e).1, (eo6 k e).2.1, (eo6 k e).2.2.1⟩
    · exact ⟨by omega, fun h => by have := R6.live.led.foot_lt h; omega, fun h => by have := R6.book.lt h; omega⟩
  have hwv : ∀ k, wv14.ownBlock = some k → w0.heap.size ≤ k ∧ ¬ p4.foot k ∧ ¬ KFoot b hv6 k := fun k hk => by
    rcases l14 k hk with e | e
    · exact wo6 k e
    · exact ⟨by omega, fun h => by have := R6.live.led.foot_lt h; omega, fun h => by have := R6.book.lt h; omega⟩
  have hlt8 : ∀ k, ev8.ownBlock = some k → k < w8.heap.size := fun k hk => own_block_lt own8 hk
  have hne : ∀ k, ev8.ownBlock = some k → wv14.ownBlock ≠ some k := fun k hk e => by
    have h8 := hlt8 k hk
    rcases l14 k e with e1 | e1
    · rcases l8 k hk with e2 | e2
      · exact (eo6 k e2).2.2.2 e1
      · have := own_block_lt wr6 e1; omega
    · omega
  have hnw : ∀ k, ev8.ownBlock = some k → wv.ownBlock ≠ some k := fun k hk e => by
    rcases l8 k hk with e2 | e2
    · exact (eo6 k e2).2.2.2 e
    · have := own_block_lt wr6 e; omega
  have hTb : Below w0.heap.size w6 w14 := ⟨(T14.os.trans B11.os).trans T8.os, (T14.tape.trans B11.tape).trans T8.tape, (T14.output.trans B11.output).trans T8.output, by omega, fun k hk => TA k (by omega) (fun e => by have := (eo6 k e).1; omega) (fun e => by have := (wo6 k e).1; omega)⟩
  have R14 : Run w0 w14 p4 a b hv6 S' (n + 1) := by
    refine ⟨⟨R6.live.led.same fun k hk => TA k (R6.live.led.foot_lt hk) (fun e => (eo6 k e).2.1 hk) (fun e => (wo6 k e).2.1 hk), R6.live.tab.below hTb R6.live.pos, R6.live.ok, R6.live.foot, R6.live.below.trans hTb, R6.live.pos⟩, R6.pa, R6.book.same fun k hk => TA k (R6.book.lt hk) (fun e => (eo6 k e).2.2.1 hk) (fun e => (wo6 k e).2.2 hk), R6.new, R6.apart, R6.hok, R6.ids, R6.jl⟩
  have hcl := Q.clen
  have hxl := Q.xlen
  refine ⟨R14, ?_, ?_, fun k hk => ⟨(hev k hk).1, (hev k hk).2.1, (hev k hk).2.2, hne k hk⟩, hwv, ?_, hs1, by simp [hcl], by simp [hxl], hs6, hs7, hs8, fun i c y hc hy => ?_⟩
  · rw [← hxs, show (Cs ++ [fs'.length]).length = Cs.length + 1 by simp]
    exact own_same own8 fun k hk => (T14.block k (by have := hlt8 k hk; omega) (hnw k hk)).trans (B11.block k (hlt8 k hk))
  · simpa using own14
  · intro y hy
    rcases List.mem_append.1 hy with hy | hy
    · obtain ⟨c1, c2, c3⟩ := cp6 y hy
      refine ⟨c1.same fun k hk => TA k (c1.lt hk) (fun e => c2 k hk (Or.inr (Or.inr (Or.inl e)))) (fun e => c2 k hk (Or.inr (Or.inr (Or.inr e)))), fun k hk e => ?_, c3⟩
      have hk6 := c1.lt hk
      rcases e with e | e | e | e
      · exact c2 k hk (Or.inl e)
      · exact c2 k hk (Or.inr (Or.inl e))
      · rcases l8 k e with e | e
        · exact c2 k hk (Or.inr (Or.inr (Or.inl e)))
        · omega
      · rcases l14 k e with e | e
        · exact c2 k hk (Or.inr (Or.inr (Or.inr e)))
        · omega
    · simp at hy
      subst hy
      have hwl : ∀ k, wv.ownBlock = some k → k < w6.heap.size := fun k hk => own_block_lt wr6 hk
      refine ⟨KX.same fun k hk => T14.block k (KX.lt hk) (fun e => by have := hwl k e; have := KF k hk; omega), fun k hk e => ?_, R6.live.ok, R6.hok⟩
      have h8 := KF k hk
      have h11 := KX.lt hk
      rcases e with e | e | e | e
      · have := R6.live.led.foot_lt e; omega
      · have := R6.book.lt e; omega
      · have := hlt8 k e; omega
      · rcases l14 k e with e | e
        · have := hwl k e; omega
        · omega
  · rcases Nat.lt_or_ge i Cs.length with hi | hi
    · rw [List.getElem?_append_left hi] at hc
      rw [List.getElem?_append_left (by omega)] at hy
      rw [hs4 c (Q.cle i c hc)]
      exact Q.snap i c y hc hy
    · rw [List.getElem?_append_right hi] at hc
      rcases Nat.eq_zero_or_pos (i - Cs.length) with h0 | h0
      · rw [h0] at hc
        simp at hc
        rw [List.getElem?_append_right (by omega), show i - Xs.length = 0 by omega] at hy
        simp at hy
        subst hy
        rw [← hc, List.take_length]
        exact hs1
      · rw [List.getElem?_eq_none (by simp; omega)] at hc; cases hc

end Go.Proofs.YtdblmheoghhepaaDoor

/- What 'Replayed' asks behind its first loop: which copy tells the ledger that was opened of a part; two ledgers beside one another. -/
namespace Go.Proofs.YtdblmheoghhepaaDoor
open Go.RowKit

theorem fsB_app (a b : List (Nat → Int)) : fsB (a ++ b) = fsB a ++ fsB b := by simp [fsB]
theorem fsB_cons (f : Nat → Int) (b : List (Nat → Int)) : fsB (f :: b) = fB f ++ fsB b := by simp [fsB]

/-- A place in the journal lies behind the frames of so many commands. -/
theorem ends_le {fs gs hs : List (Nat → Int)} {k : Nat} (e : fs = gs ++ hs) (h4 : (fsB gs).length ≤ k) (h5 : ∀ f r, hs = f :: r → k < (fsB gs).length + (fB f).length) (c : Nat) (hc : c ≤ fs.length) : (fsB (fs.take c)).length ≤ k ↔ c ≤ gs.length := by
  subst e
  by_cases h : c ≤ gs.length
  · refine ⟨fun _ => h, fun _ => ?_⟩
    rw [List.take_append_of_le_length h]
    have : fsB gs = fsB (gs.take c) ++ fsB (gs.drop c) := by rw [← fsB_app, List.take_append_drop]
    have := congrArg List.length this
    rw [List.length_append] at this
    omega
  · refine ⟨fun hk => ?_, fun hk => absurd hk h⟩
    exfalso
    match hs, h5, hc with
    | [], _, hc => simp at hc; omega
    | f :: r, h5, _ =>
      have := h5 f r rfl
      obtain ⟨j, hj⟩ : ∃ j, c = gs.length + (j + 1) := ⟨c - gs.length - 1, by omega⟩
      rw [hj, List.take_length_add_append, List.take_succ_cons, fsB_app, fsB_cons, List.length_append, List.length_append] at hk
      omega

theorem prevC_succ {Cs : List Nat} {i c : Nat} (h : Cs[i]? = some c) : prevC Cs (i + 1) = c := by
  unfold prevC
  rw [if_neg (by omega), Nat.add_sub_cancel, h]
  rfl
theorem old_take {fs : List (Nat → Int)} {Cs : List Nat} {i c m : Nat} {X : Led} (h : Cs[i]? = some c) (hc : c ≤ m) (hX : Hist (fs.take c) S0 X) : Hist (fs.take (min (prevC Cs (i + 1)) m)) S0 X := by
  rw [prevC_succ h, Nat.min_eq_left hc]
  exact hX
theorem old_keep {fs : List (Nat → Int)} {Cs : List Nat} {i c m : Nat} {X : Led} (h : Cs[i]? = some c) (hc : m < c) (hs : c ≤ prevC Cs i + 1) (hX : Hist (fs.take (min (prevC Cs i) m)) S0 X) : Hist (fs.take (min (prevC Cs (i + 1)) m)) S0 X := by
  rw [prevC_succ h, Nat.min_eq_right (by omega)]
  rwa [Nat.min_eq_right (by omega)] at hX

/-- A copy of a book that has another ledger and the same row of holds. -/
theorem copy2_kat {w : World} {B : Nat} {l l' : Value} {now : Int} {P : Nat → Int} {hv : Value} {H : List (Nat → Int)} (h : KAt w B l now P hv H) (t : TypeId) : KAt (w.alloc (.cells (bookL l' now P hv).toArray t)) w.heap.size l' now P hv H := by
  obtain ⟨k0, k1, kn, kh, kf⟩ := book_new w l' now P hv t
  have hb : Below w.heap.size w (w.alloc (.cells (bookL l' now P hv).toArray t)) := (Below.refl _ _).alloc (Nat.le_refl _) _
  exact ⟨k0, k1, kn, kh, kf, own_same h.rows (fun k hk => hb.block k (h.row_lt hk)), fun k hk e => by have := h.row_lt hk; omega⟩

/-- A book that was just made of nothing but its ledger. -/
theorem zero_kat (w : World) (v : Value) : KAt (w.alloc (.cells (Tryd.zeroCells48.setIfInBounds 0 v) 48)) w.heap.size v S0.now (pofG S0.G) (.slice none 0 0) S0.H := by
  refine KAt.congr (P := fun _ => 0) ⟨?_, ?_, nums_of (fun i hi => ?_), ?_, free_new w _ 48, World.ownsRow_nil _ 0 61 8, fun k hk => by cases hk⟩ (fun k _ => by unfold pofG; split <;> (try split) <;> rfl) rfl rfl
  · rw [World.cell?_alloc_new, Array.getElem?_setIfInBounds_self_of_lt (by rw [zk_len]; omega)]
  · rw [World.cell?_alloc_new, Array.getElem?_setIfInBounds_ne (by omega)]
    exact zk_at 1 (by omega) (by omega)
  · rw [Array.getElem?_setIfInBounds_ne (by omega)]
    exact zk_at (2 + i) (by omega) (by omega)
  · rw [World.cell?_alloc_new, Array.getElem?_setIfInBounds_ne (by omega), ← Array.getElem?_toList, zk_end]

/-- Two ledgers, and a third with its caller's book, beside one another. -/
structure Two (w0 w : World) (p p1 p2 : Adr) (a a1 a2 b B : Nat) (hv : Value) (S S1 T : Led) : Prop where
  l : Live w0 w p S
  l1 : Live w0 w p1 S1
  pa : p.a = a
  pa1 : p1.a = a1
  duo : Duo w p2 a2 B hv T
  bc : w.cell? ⟨b, 0, none⟩ = some (.pointer (some ⟨a, 0, none⟩))
  ap : ∀ k, p.foot k → ¬ p1.foot k
  ob : ¬ p.foot b ∧ ¬ p1.foot b
  o2 : ∀ k, (p2.foot k ∨ KFoot B hv k) → ¬ p.foot k ∧ ¬ p1.foot k

section
variable {w0 w w' : World} {p p1 p2 : Adr} {a a1 a2 b B : Nat} {hv : Value} {S S1 T : Led}
theorem Two.b_lt (h : Two w0 w p p1 p2 a a1 a2 b B hv S S1 T) : b < w.heap.size := World.block_lt_of_cell? w ⟨b, 0, none⟩ h.bc
theorem Two.lt2 (h : Two w0 w p p1 p2 a a1 a2 b B hv S S1 T) {k : Nat} (hk : p2.foot k ∨ KFoot B hv k) : k < w.heap.size := by
  rcases hk with hk | hk
  · exact h.duo.led.foot_lt hk
  · exact h.duo.book.lt hk
theorem Two.below (h : Two w0 w p p1 p2 a a1 a2 b B hv S S1 T) (hb : Below w.heap.size w w') : Two w0 w' p p1 p2 a a1 a2 b B hv S S1 T :=
  ⟨h.l.mk' hb, h.l1.mk' hb, h.pa, h.pa1, h.duo.below hb, (hb.cell (p := ⟨b, 0, none⟩) h.b_lt).trans h.bc, h.ap, h.ob, h.o2⟩
theorem Duo.same (h : Duo w p a b hv S) (e : ∀ k, (p.foot k ∨ KFoot b hv k) → w'.heap[k]? = w.heap[k]?) : Duo w' p a b hv S :=
  ⟨h.led.same fun k hk => e k (Or.inl hk), h.ok, h.pa, h.book.same fun k hk => e k (Or.inr hk), h.day⟩

/-- A box that lies outside both ledgers and the third is written. -/
theorem Two.set (h : Two w0 w p p1 p2 a a1 a2 b B hv S S1 T) (q j : Nat) (v : Value) (h0 : w0.heap.size ≤ q) (h1 : ¬ p.foot q) (h2 : ¬ p1.foot q) (h3 : ¬ (p2.foot q ∨ KFoot B hv q)) (h4 : q ≠ b) : Two w0 (w.setCell ⟨q, j, none⟩ v) p p1 p2 a a1 a2 b B hv S S1 T := by
  have e : ∀ k, k ≠ q → (w.setCell ⟨q, j, none⟩ v).heap[k]? = w.heap[k]? := fun k hk => Below.heap_setCell _ _ _ _ hk
  have hb : Below w0.heap.size w (w.setCell ⟨q, j, none⟩ v) := (Below.refl _ _).setCell h0 v
  refine ⟨⟨h.l.led.same fun k hk => e k (fun x => h1 (x ▸ hk)), h.l.tab.below hb h.l.pos, h.l.ok, h.l.foot, h.l.below.trans hb, h.l.pos⟩, ⟨h.l1.led.same fun k hk => e k (fun x => h2 (x ▸ hk)), h.l1.tab.below hb h.l.pos, h.l1.ok, h.l1.foot, h.l1.below.trans hb, h.l.pos⟩, h.pa, h.pa1, h.duo.same fun k hk => e k (fun x => h3 (x ▸ hk)), ?_, h.ap, h.ob, h.o2⟩
  exact (World.cell?_of_block (a := ⟨b, 0, none⟩) (e b (fun x => h4 x.symm))).trans h.bc

theorem do_live2 (w0 : World) (p : Adr) (S : Led) (f : Nat → Int) (w : World) (h : Live w0 w p S) (hJ : S.J.length ≤ 140737488355000) :
    Calls Tryd.prog 17 #[.pointer (some ⟨p.a, 0, none⟩), cmdV f] w fun e w' => e = .returned (ansV (doD S f).E (doD S f).N) ∧ ∃ p' : Adr, p'.a = p.a ∧ Live w0 w' p' (doD S f).S ∧ Turned p.foot w w' ∧ (∀ k, p'.foot k → p.foot k ∨ w.heap.size ≤ k) := by
  refine (do_any p S f w h.tab h.led h.ok hJ).mono ?_
  rintro e w' ⟨p', rfl, hL, hT, hF, ha'⟩
  have hb : Below w0.heap.size w w' := ⟨hT.os, hT.tape, hT.output, hT.size, fun k hk => hT.block k (Nat.lt_of_lt_of_le hk h.below.size) (fun e => by have := h.foot k e; omega)⟩
  exact ⟨rfl, p', ha', ⟨hL, h.tab.turned hT (fun e => by have := h.foot 0 e; have := h.pos; omega), lok_do h.ok _, fun k hk => by
    rcases hF k hk with h1 | h1
    · exact h.foot k h1
    · have := h.below.size; omega, h.below.trans hb, h.pos⟩, hT, hF⟩

theorem Two.do0 (h : Two w0 w p p1 p2 a a1 a2 b B hv S S1 T) {p' : Adr} {S' : Led} (ha : p'.a = p.a) (L : Live w0 w' p' S') (t : Turned p.foot w w') (F : ∀ k, p'.foot k → p.foot k ∨ w.heap.size ≤ k) : Two w0 w' p' p1 p2 a a1 a2 b B hv S' S1 T := by
  have h1 : ∀ k, p1.foot k → w'.heap[k]? = w.heap[k]? := fun k hk => t.block k (h.l1.led.foot_lt hk) (fun e => h.ap k e hk)
  refine ⟨L, ⟨h.l1.led.same h1, L.tab, h.l1.ok, h.l1.foot, L.below, L.pos⟩, ha.trans h.pa, h.pa1, h.duo.same fun k hk => t.block k (h.lt2 hk) (h.o2 k hk).1, (t.cell h.b_lt h.ob.1 0).trans h.bc, fun k hk e => ?_, ⟨fun e => ?_, h.ob.2⟩, fun k hk => ⟨fun e => ?_, (h.o2 k hk).2⟩⟩
  · rcases F k hk with x | x
    · exact h.ap k x e
    · have := h.l1.led.foot_lt e; omega
  · rcases F b e with x | x
    · exact h.ob.1 x
    · have := h.b_lt; omega
  · rcases F k e with x | x
    · exact (h.o2 k hk).1 x
    · have := h.lt2 hk; omega
theorem Two.flip (h : Two w0 w p p1 p2 a a1 a2 b B hv S S1 T) (hc : w.cell? ⟨b, 0, none⟩ = some (.pointer (some ⟨a1, 0, none⟩))) : Two w0 w p1 p p2 a1 a a2 b B hv S1 S T :=
  ⟨h.l1, h.l, h.pa1, h.pa, h.duo, hc, fun k hk e => h.ap k e hk, ⟨h.ob.2, h.ob.1⟩, fun k hk => ⟨(h.o2 k hk).2, (h.o2 k hk).1⟩⟩
theorem Two.do1 (h : Two w0 w p p1 p2 a a1 a2 b B hv S S1 T) {p' : Adr} {S' : Led} (ha : p'.a = p1.a) (L : Live w0 w' p' S') (t : Turned p1.foot w w') (F : ∀ k, p'.foot k → p1.foot k ∨ w.heap.size ≤ k) : Two w0 w' p p' p2 a a1 a2 b B hv S S' T := by
  have h1 : ∀ k, p.foot k → w'.heap[k]? = w.heap[k]? := fun k hk => t.block k (h.l.led.foot_lt hk) (fun e => h.ap k hk e)
  refine ⟨⟨h.l.led.same h1, L.tab, h.l.ok, h.l.foot, L.below, L.pos⟩, L, h.pa, ha.trans h.pa1, h.duo.same fun k hk => t.block k (h.lt2 hk) (h.o2 k hk).2, (t.cell h.b_lt h.ob.2 0).trans h.bc, fun k hk e => ?_, ⟨h.ob.1, fun e => ?_⟩, fun k hk => ⟨(h.o2 k hk).1, fun e => ?_⟩⟩
  · rcases F k e with x | x
    · exact h.ap k hk x
    · have := h.l.led.foot_lt hk; omega
  · rcases F b e with x | x
    · exact h.ob.2 x
    · have := h.b_lt; omega
  · rcases F k e with x | x
    · exact (h.o2 k hk).2 x
    · have := h.lt2 hk; omega
end

/-- A box outside both ledgers, the third and the book's head. -/
def Off (w : World) (p p1 p2 : Adr) (b B : Nat) (hv : Value) (q : Nat) : Prop := q < w.heap.size ∧ ¬ p.foot q ∧ ¬ p1.foot q ∧ ¬ (p2.foot q ∨ KFoot B hv q) ∧ q ≠ b

/-- What stands behind 'Do' of one of two ledgers; q: the place of a box that may have been made for the answer ahead of the call. -/
structure TDid (w0 w3 : World) (q : Nat) (W w4 : World) (p p1 p' p1' p2 : Adr) (a a1 a2 b B : Nat) (hv : Value) (S S1 T : Led) (c : Nat) (f : Nat → Int) : Prop where
  two : Two w0 w4 p' p1' p2 a a1 a2 b B hv S S1 T
  cmd : CmdAt w4 c f
  off : Off w4 p' p1' p2 b B hv c
  size : W.heap.size ≤ w4.heap.size
  box : ∀ o, q < W.heap.size → w4.cell? ⟨q, o, none⟩ = W.cell? ⟨q, o, none⟩
  frz : ∀ o, q < W.heap.size → w4.frozen? ⟨q, o, none⟩ = W.frozen? ⟨q, o, none⟩
  nf : q < W.heap.size → Off w4 p' p1' p2 b B hv q
  oth : ∀ g, g < q → Off w3 p p1 p2 b B hv g → w4.heap[g]? = w3.heap[g]? ∧ Off w4 p' p1' p2 b B hv g

theorem two_do0 (w0 w3 W : World) (p p1 p2 : Adr) (a a1 a2 b B : Nat) (hv : Value) (S S1 T : Led) (c : Nat) (f : Nat → Int) (D : Two w0 w3 p p1 p2 a a1 a2 b B hv S S1 T) (hJ : S.J.length ≤ 140737488355000) (hc : CmdAt w3 c f) (ho : Off w3 p p1 p2 b B hv c) (hb : Below w3.heap.size w3 W) (q : Nat) (hq : w3.heap.size = q) :
    Calls Tryd.prog 17 #[.pointer (some ⟨a, 0, none⟩), cmdV f] W fun e w4 => e = .returned (ansV (doD S f).E (doD S f).N) ∧ ∃ p', TDid w0 w3 q W w4 p p1 p' p1 p2 a a1 a2 b B hv (doD S f).S S1 T c f := by
  subst hq
  have D' := D.below hb
  rw [← D.pa]
  refine (do_live2 w0 p S f W D'.l hJ).mono ?_
  rintro e w' ⟨rfl, p', ha, L, t, F⟩
  have hs := hb.size
  obtain ⟨o1, o2, o3, o4, o5⟩ := ho
  have h2 := D'.do0 ha L t F
  have nw : ∀ g, g < W.heap.size → ¬ p.foot g → ¬ p'.foot g := fun g hg hn e => by
    rcases F g e with x | x
    · exact hn x
    · omega
  have bl := D.b_lt
  refine ⟨rfl, p', by rw [D.pa]; exact h2, (hc.below hb o1).turned t (by omega) o2, ⟨by have := t.size; omega, nw c (by omega) o2, o3, o4, o5⟩, t.size, fun o ho => t.cell ho (fun e => by have := D.l.led.foot_lt e; omega) o, fun o ho => t.frozen ho (fun e => by have := D.l.led.foot_lt e; omega) o, fun ho => ⟨by have := t.size; omega, nw _ ho (fun e => by have := D.l.led.foot_lt e; omega), fun e => by have := D.l1.led.foot_lt e; omega, fun e => by have := D.lt2 e; omega, by omega⟩, fun g hg hf => ⟨(t.block g (by omega) hf.2.1).trans (hb.block g hg), by have := t.size; omega, nw g (by omega) hf.2.1, hf.2.2.1, hf.2.2.2.1, hf.2.2.2.2⟩⟩

theorem two_do1 (w0 w3 W : World) (p p1 p2 : Adr) (a a1 a2 b B : Nat) (hv : Value) (S S1 T : Led) (c : Nat) (f : Nat → Int) (D : Two w0 w3 p p1 p2 a a1 a2 b B hv S S1 T) (hJ : S1.J.length ≤ 140737488355000) (hc : CmdAt w3 c f) (ho : Off w3 p p1 p2 b B hv c) (hb : Below w3.heap.size w3 W) (q : Nat) (hq : w3.heap.size = q) :
    Calls Tryd.prog 17 #[.pointer (some ⟨a1, 0, none⟩), cmdV f] W fun e w4 => e = .returned (ansV (doD S1 f).E (doD S1 f).N) ∧ ∃ p1', TDid w0 w3 q W w4 p p1 p p1' p2 a a1 a2 b B hv S (doD S1 f).S T c f := by
  subst hq
  have D' := D.below hb
  rw [← D.pa1]
  refine (do_live2 w0 p1 S1 f W D'.l1 hJ).mono ?_
  rintro e w' ⟨rfl, p', ha, L, t, F⟩
  have hs := hb.size
  obtain ⟨o1, o2, o3, o4, o5⟩ := ho
  have h2 := D'.do1 ha L t F
  have nw : ∀ g, g < W.heap.size → ¬ p1.foot g → ¬ p'.foot g := fun g hg hn e => by
    rcases F g e with x | x
    · exact hn x
    · omega
  have bl := D.b_lt
  refine ⟨rfl, p', by rw [D.pa1]; exact h2, (hc.below hb o1).turned t (by omega) o3, ⟨by have := t.size; omega, o2, nw c (by omega) o3, o4, o5⟩, t.size, fun o ho => t.cell ho (fun e => by have := D.l1.led.foot_lt e; omega) o, fun o ho => t.frozen ho (fun e => by have := D.l1.led.foot_lt e; omega) o, fun ho => ⟨by have := t.size; omega, fun e => by have := D.l.led.foot_lt e; omega, nw _ ho (fun e => by have := D.l1.led.foot_lt e; omega), fun e => by have := D.lt2 e; omega, by omega⟩, fun g hg hf => ⟨(t.block g (by omega) hf.2.2.1).trans (hb.block g hg), by have := t.size; omega, hf.2.1, nw g (by omega) hf.2.2.1, hf.2.2.2.1, hf.2.2.2.2⟩⟩

/-- The answer's box, outside all. -/
def AnsAt (w : World) (p p1 p2 : Adr) (b B : Nat) (hv : Value) (q : Nat) (E N : Int) : Prop := Off w p p1 p2 b B hv q ∧ w.cell? ⟨q, 0, none⟩ = some (.int .i64 E) ∧ w.cell? ⟨q, 1, none⟩ = some (.int .i64 N)

section
variable {w0 w3 : World} {q : Nat} {W w4 : World} {p p1 p' p1' p2 : Adr} {a a1 a2 b B : Nat} {hv : Value} {S S1 T : Led} {c : Nat} {f : Nat → Int}
theorem Off.below {w w' : World} {g : Nat} (h : Off w p p1 p2 b B hv g) (hb : Below w.heap.size w w') : Off w' p p1 p2 b B hv g := ⟨Nat.lt_of_lt_of_le h.1 hb.size, h.2⟩
theorem AnsAt.below {w w' : World} {g : Nat} {E N : Int} (h : AnsAt w p p1 p2 b B hv g E N) (hb : Below w.heap.size w w') : AnsAt w' p p1 p2 b B hv g E N :=
  ⟨h.1.below hb, (hb.cell (p := ⟨g, 0, none⟩) h.1.1).trans h.2.1, (hb.cell (p := ⟨g, 1, none⟩) h.1.1).trans h.2.2⟩
theorem TDid.new (D : TDid w0 w3 q W w4 p p1 p' p1' p2 a a1 a2 b B hv S S1 T c f) (E N : Int) :
    Two w0 (w4.alloc (.cells #[.int .i64 E, .int .i64 N] 39)) p' p1' p2 a a1 a2 b B hv S S1 T ∧ CmdAt (w4.alloc (.cells #[.int .i64 E, .int .i64 N] 39)) c f ∧ Off (w4.alloc (.cells #[.int .i64 E, .int .i64 N] 39)) p' p1' p2 b B hv c ∧ AnsAt (w4.alloc (.cells #[.int .i64 E, .int .i64 N] 39)) p' p1' p2 b B hv w4.heap.size E N ∧
      (∀ g, g < q → Off w3 p p1 p2 b B hv g → (w4.alloc (.cells #[.int .i64 E, .int .i64 N] 39)).heap[g]? = w3.heap[g]? ∧ Off (w4.alloc (.cells #[.int .i64 E, .int .i64 N] 39)) p' p1' p2 b B hv g) := by
  have hb : Below w4.heap.size w4 (w4.alloc (.cells #[.int .i64 E, .int .i64 N] 39)) := (Below.refl _ _).alloc (Nat.le_refl _) _
  have hs := D.size
  refine ⟨D.two.below hb, D.cmd.below hb D.off.1, D.off.below hb, ⟨⟨by simp, fun e => by have := D.two.l.led.foot_lt e; omega, fun e => by have := D.two.l1.led.foot_lt e; omega, fun e => by have := D.two.lt2 e; omega, by have := D.two.b_lt; omega⟩, by simp [go_sem], by simp [go_sem]⟩, fun g hg ho => ?_⟩
  obtain ⟨h1, h2⟩ := D.oth g hg ho
  exact ⟨(hb.block g h2.1).trans h1, h2.below hb⟩
theorem TDid.old (D : TDid w0 w3 q W w4 p p1 p' p1' p2 a a1 a2 b B hv S S1 T c f) (hq : q < W.heap.size) (hqc : q ≠ c) (h0 : w0.heap.size ≤ q) (e0 : (W.cell? ⟨q, 0, none⟩).isSome = true) (e1 : (W.cell? ⟨q, 1, none⟩).isSome = true) (E N : Int) :
    Two w0 ((w4.setCell ⟨q, 0, none⟩ (.int .i64 E)).setCell ⟨q, 1, none⟩ (.int .i64 N)) p' p1' p2 a a1 a2 b B hv S S1 T ∧ CmdAt ((w4.setCell ⟨q, 0, none⟩ (.int .i64 E)).setCell ⟨q, 1, none⟩ (.int .i64 N)) c f ∧ Off ((w4.setCell ⟨q, 0, none⟩ (.int .i64 E)).setCell ⟨q, 1, none⟩ (.int .i64 N)) p' p1' p2 b B hv c ∧ AnsAt ((w4.setCell ⟨q, 0, none⟩ (.int .i64 E)).setCell ⟨q, 1, none⟩ (.int .i64 N)) p' p1' p2 b B hv q E N ∧
      (∀ g, g < q → Off w3 p p1 p2 b B hv g → ((w4.setCell ⟨q, 0, none⟩ (.int .i64 E)).setCell ⟨q, 1, none⟩ (.int .i64 N)).heap[g]? = w3.heap[g]? ∧ Off ((w4.setCell ⟨q, 0, none⟩ (.int .i64 E)).setCell ⟨q, 1, none⟩ (.int .i64 N)) p' p1' p2 b B hv g) := by
  have hs := D.size
  have nf := D.nf hq
  have M1 := (D.two.set q 0 (.int .i64 E) h0 nf.2.1 nf.2.2.1 nf.2.2.2.1 nf.2.2.2.2).set q 1 (.int .i64 N) h0 nf.2.1 nf.2.2.1 nf.2.2.2.1 nf.2.2.2.2
  have k0 : (w4.cell? ⟨q, 0, none⟩).isSome = true := by rw [D.box 0 hq]; exact e0
  have k1 : (w4.cell? ⟨q, 1, none⟩).isSome = true := by rw [D.box 1 hq]; exact e1
  have sz : ((w4.setCell ⟨q, 0, none⟩ (.int .i64 E)).setCell ⟨q, 1, none⟩ (.int .i64 N)).heap.size = w4.heap.size := by simp
  refine ⟨M1, fun j hj => ?_, ⟨by rw [sz]; exact D.off.1, D.off.2⟩, ⟨⟨by rw [sz]; exact nf.1, nf.2⟩, ?_, ?_⟩, fun g hg hp => ?_⟩
  · rw [World.cell?_setCell_other _ _ _ _ (fun e => hqc (congrArg Addr.block e)), World.cell?_setCell_other _ _ _ _ (fun e => hqc (congrArg Addr.block e))]
    exact D.cmd j hj
  · rw [World.cell?_setCell_other _ _ _ _ (off_ne (by omega))]
    exact World.cell?_setCell_same' _ _ _ k0
  · refine World.cell?_setCell_same' _ _ _ ?_
    rw [World.cell?_setCell_other _ _ _ _ (off_ne (by omega))]
    exact k1
  · obtain ⟨h1, h2⟩ := D.oth g hg hp
    refine ⟨?_, by rw [sz]; exact h2.1, h2.2⟩
    rw [Below.heap_setCell _ _ _ _ (by simp; omega), Below.heap_setCell _ _ _ _ (by simp; omega)]
    exact h1
end

/-- 'command' at any Id. -/
theorem command_z (f : Nat → Int) (i : Int) (w : World) (hf : Bd f) (hi : -9223372036854775808 ≤ i ∧ i ≤ 9223372036854775807) :
    Calls Tryd.prog 12 #[cmdV f, .int .i64 i] w fun e w' => ∃ F, e = .returned (cmdV F) ∧ Below w.heap.size w w' := by
  refine (command_any f i w hf hi).mono ?_
  rintro e w' ⟨F, rfl, h1, h2, h3⟩
  exact ⟨F, rfl, h2⟩

/-- 'command' at an Id that is a number of the loop. -/
theorem command_nat (f : Nat → Int) (n : Nat) (i : Int) (hi : i = (n : Int)) (w : World) (hf : Bd f) (hn : n ≤ 1048600) :
    Calls Tryd.prog 12 #[cmdV f, .int .i64 i] w fun e w' => ∃ F, e = .returned (cmdV F) ∧ Hid (refOk F = true ∧ F 1 = (n : Int)) ∧ Below w.heap.size w w' := by
  subst hi
  exact command_at f n w hf (by omega)
theorem journal_at {w0 : World} {p : Adr} {a b : Nat} {hv : Value} {S : Led} {n : Nat} (wx : World) (h : Run w0 wx p a b hv S n) : Calls Tryd.prog 24 #[.pointer (some ⟨a, 0, none⟩)] wx fun e w' => e = .returned (.string (strOfNums S.J)) ∧ wx = w' := by
  rw [← h.pa]
  exact journal_any p S wx h.live.led

theorem own_at {w : World} {e : TypeId} {v : Value} {n : Nat} {xs : List Value} {i : Nat} {x : Value} (h : w.ownsRow 0 e 1 v n xs) (hx : xs[i]? = some x) (hi : i < n) : ∃ g cap, v = .slice (some ⟨g, 0, none⟩) n cap ∧ w.cell? ⟨g, i, none⟩ = some x := by
  rcases h.2 with ⟨_, e2⟩ | ⟨g, cap, cur, e, _⟩
  · omega
  · refine ⟨g, cap, e, ?_⟩
    rw [e] at h
    rw [h.cellAt i (by omega), hx]

/-- A copy that is looked at, beside two ledgers. -/
structure OldAt (wx : World) (p p1 : Adr) (a2 B : Nat) (hv : Value) (X : Led) : Prop where
  kat : KAt wx B (.pointer (some ⟨a2, 0, none⟩)) X.now (pofG X.G) hv X.H
  off : ∀ k, KFoot B hv k → ¬ p.foot k ∧ ¬ p1.foot k
  ok : LOk X
  hok : HOk X.now X.H
theorem OldAt.below {w w' : World} {p p1 : Adr} {a2 B : Nat} {hv : Value} {X : Led} (h : OldAt w p p1 a2 B hv X) (hb : Below w.heap.size w w') : OldAt w' p p1 a2 B hv X := ⟨h.kat.below hb, h.off, h.ok, h.hok⟩

theorem two_start {w0 wo w1 w2 wx : World} {p p1 p2 : Adr} {a b B n : Nat} {hv ev wv hvB : Value} {S S1 T : Led} {fs : List (Nat → Int)} {Cs : List Nat} {Xs : List Cpy}
    (Q : RS w0 wo p a b hv ev wv S n fs Cs Xs) (L1 : Live wo w1 p1 S1) (L2 : Live w1 w2 p2 T) (b3 : Below w2.heap.size w2 wx) (O : OldAt wx p p1 p2.a B hvB T) : Two w0 wx p p1 p2 a p1.a p2.a b B hvB S S1 T := by
  have R := Q.run
  have z0 := R.live.below.size
  have z1 := L1.below.size
  have z2 := L2.below.size
  have l := ((R.live.mk' L1.below).mk' L2.below).mk' b3
  have l1 := (L1.mk' L2.below).mk' b3
  have l2 := L2.mk' b3
  have bl := R.book.b_lt
  have Bx : Below wo.heap.size wo wx := L1.below.trans ((L2.below.mono z1).trans (b3.mono (by omega)))
  refine ⟨l, ⟨l1.led, l1.tab, l1.ok, fun k hk => by have := L1.foot k hk; omega, l.below, l.pos⟩, R.pa, rfl, ⟨l2.led, l2.ok, rfl, O.kat, O.hok.day⟩, (Bx.cell (p := ⟨b, 0, none⟩) bl).trans R.book.c0, fun k hk e => ?_, ⟨R.apart b (Or.inl rfl), fun e => ?_⟩, fun k hk => ?_⟩
  · have := R.live.led.foot_lt hk
    have := L1.foot k e
    omega
  · have := L1.foot b e
    omega
  · rcases hk with hk | hk
    · have := L2.foot k hk
      exact ⟨fun e => by have := R.live.led.foot_lt e; omega, fun e => by have := L1.led.foot_lt e; omega⟩
    · exact O.off k hk

/-- A copy of the row is taken. -/
theorem old_copy {w0 wo w1 w2 wx : World} {p p1 p2 : Adr} {a b n : Nat} {hv ev wv : Value} {S S1 T : Led} {fs : List (Nat → Int)} {Cs : List Nat} {Xs : List Cpy}
    (Q : RS w0 wo p a b hv ev wv S n fs Cs Xs) (L1 : Live wo w1 p1 S1) (L2 : Live w1 w2 p2 T) (b3 : Below w2.heap.size w2 wx) {j : Nat} {x : Cpy} (hx : Xs[j]? = some x) (a2 : Nat) (t : TypeId) :
    KAt wx x.B (.pointer (some ⟨a, 0, none⟩)) x.S.now (pofG x.S.G) x.hv x.S.H ∧ OldAt (wx.alloc (.cells (bookL (.pointer (some ⟨a2, 0, none⟩)) x.S.now (pofG x.S.G) x.hv).toArray t)) p p1 a2 wx.heap.size x.hv x.S := by
  obtain ⟨K, O, ok, hok⟩ := Q.cp x (List.mem_of_getElem? hx)
  have z1 := L1.below.size
  have z2 := L2.below.size
  have z3 := b3.size
  have Bx : Below wo.heap.size wo wx := L1.below.trans ((L2.below.mono z1).trans (b3.mono (by omega)))
  have K' := K.below Bx
  refine ⟨K', copy2_kat K' t, fun k hk => ?_, ok, hok⟩
  rcases hk with rfl | hk
  · exact ⟨fun e => by have := Q.run.live.led.foot_lt e; omega, fun e => by have := L1.led.foot_lt e; omega⟩
  · have hl := K.row_lt hk
    exact ⟨fun e => O k (Or.inr hk) (Or.inl e), fun e => by have := L1.foot k e; omega⟩

theorem old_zero {wo w1 w2 : World} {p p1 p2 : Adr} {S1 T : Led} (hp : ∀ k, p.foot k → k < wo.heap.size) (L1 : Live wo w1 p1 S1) (L2 : Live w1 w2 p2 T) (a2 : Nat) :
    OldAt (w2.alloc (.cells (Tryd.zeroCells48.setIfInBounds 0 (.pointer (some ⟨a2, 0, none⟩))) 48)) p p1 a2 w2.heap.size (.slice none 0 0) S0 := by
  have z1 := L1.below.size
  have z2 := L2.below.size
  refine ⟨zero_kat w2 _, fun k hk => ?_, lok_S0, hok_nil _⟩
  rcases hk with rfl | hk
  · exact ⟨fun e => by have := hp _ e; omega, fun e => by have := L1.led.foot_lt e; omega⟩
  · cases hk

/-- The journal of one of two ledgers. -/
theorem journal_live {w0 : World} {p : Adr} {S : Led} (a : Nat) (w : World) (h : Live w0 w p S) (ha : Hid (p.a = a)) : Calls Tryd.prog 24 #[.pointer (some ⟨a, 0, none⟩)] w fun e w' => e = .returned (.string (strOfNums S.J)) ∧ w = w' := by
  rw [← ha.out]
  exact journal_any p S w h.led

theorem str_list (J : List Int) : (strOfNums J).data.toList = bytesU J := by simp [strOfNums, bytesU]
theorem hist_str {fs : List (Nat → Int)} {S : Led} (h : Hist fs S0 S) : (strOfNums S.J).data.toList = fsB fs := by
  rw [str_list, hist_J h]
  simp [S0, bytesU]
theorem size_list (s : ByteArray) : s.size = s.data.toList.length := (Array.length_toList (xs := s.data)).symm
theorem bytes_ext {s t : ByteArray} (h : s.data.toList = t.data.toList) : s = t := by
  obtain ⟨⟨a⟩⟩ := s
  obtain ⟨⟨b⟩⟩ := t
  simp at h
  rw [h]

end Go.Proofs.YtdblmheoghhepaaDoor
