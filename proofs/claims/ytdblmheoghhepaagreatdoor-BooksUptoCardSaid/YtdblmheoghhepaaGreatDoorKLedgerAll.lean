/- A ledger: its memory, and what it tells; 'mayPromise'. -/
import Derived.Test.YtdblmheoghhepaaGreatDoorKLastAll
import Derived.Test.YtdblmheoghhepaaGreatDoorKCloseAll
namespace Go.Proofs.YtdblmheoghhepaaGreatDoor
open Go.RowKit

/-- A ledger as plain data: now, eighty numbers of the goods, the holds, eighty numbers of the last answers, the journal's bytes. -/
structure Led where
  now : Int
  G : Nat → Int
  H : List (Nat → Int)
  A : Nat → Int
  J : List Int
/-- Where it lies. -/
structure Adr where
  a : Nat
  bk : Nat
  mo : Nat
  mc : Nat
  jv : Value

structure LedAt (w : World) (p : Adr) (S : Led) : Prop where
  c0 : w.cell? ⟨p.a, 0, none⟩ = some (.int .i64 S.now)
  goods : NumsAt w p.a 1 80 S.G
  cb : w.cell? ⟨p.a, 81, none⟩ = some (.pointer (some ⟨p.bk, 0, none⟩))
  last : NumsAt w p.a 82 80 S.A
  cj : w.cell? ⟨p.a, 162, none⟩ = some p.jv
  free : Free w p.a
  book : BookAt w p.bk p.mo p.mc S.H
  jour : w.ownsRow 0 5 1 p.jv S.J.length (S.J.map (Value.int .u8))
  apart : ∀ k, p.jv.ownBlock = some k → k ≠ p.a ∧ k ≠ p.bk

structure LOk (S : Led) : Prop where
  now : 0 ≤ S.now ∧ S.now ≤ 1000000
  G : ∀ k, k < 80 → -1000000000 ≤ S.G k ∧ S.G k ≤ 1000000000
  H : ∀ h ∈ S.H, (0 ≤ h 4 ∧ h 4 ≤ 1000000) ∧ (0 ≤ h 5 ∧ h 5 ≤ 1000000) ∧ (0 ≤ h 6 ∧ h 6 ≤ 1001000)
  rows : Rows8 S.A

theorem LedAt.a_lt {w : World} {p : Adr} {S : Led} (h : LedAt w p S) : p.a < w.heap.size := World.block_lt_of_cell? w ⟨p.a, 0, none⟩ h.c0
theorem LedAt.a_ne {w : World} {p : Adr} {S : Led} (h : LedAt w p S) : p.a ≠ p.bk ∧ p.a ≠ p.mo ∧ p.a ≠ p.mc := by
  obtain ⟨no, nc, h1, h2, h3⟩ := h.book.maps
  obtain ⟨x, y, e1⟩ := h1.isMapBlock
  obtain ⟨x', y', e2⟩ := h2.isMapBlock
  have c0 := h.c0
  refine ⟨fun e => ?_, fun e => ?_, fun e => ?_⟩
  · have := h.book.c0
    rw [← e, c0] at this
    cases this
  · rw [e] at c0; simp [World.cell?, e1] at c0
  · rw [e] at c0; simp [World.cell?, e2] at c0
theorem LedAt.j_ne {w : World} {p : Adr} {S : Led} (h : LedAt w p S) {k : Nat} (hk : p.jv.ownBlock = some k) : k ≠ p.a ∧ k ≠ p.bk ∧ k ≠ p.mo ∧ k ≠ p.mc ∧ k < w.heap.size := by
  obtain ⟨no, nc, h1, h2, h3⟩ := h.book.maps
  obtain ⟨x, y, e1⟩ := h1.isMapBlock
  obtain ⟨x', y', e2⟩ := h2.isMapBlock
  obtain ⟨q1, q2⟩ := h.apart k hk
  rcases h.jour.2 with ⟨e, _⟩ | ⟨g, cap, cur, hv, hg, hh, _⟩
  · rw [e] at hk; cases hk
  · rw [hv] at hk
    simp [Value.ownBlock] at hk
    subst hk
    refine ⟨q1, q2, ?_, ?_, (Array.getElem?_eq_some_iff.1 hh).1⟩
    · intro e; rw [e, e1] at hh; cases hh
    · intro e; rw [e, e2] at hh; cases hh

theorem own_same {w w' : World} {base : Nat} {e : TypeId} {size : Nat} {v : Value} {n : Nat} {xs : List Value} (h : w.ownsRow base e size v n xs) (hb : ∀ k, v.ownBlock = some k → w'.heap[k]? = w.heap[k]?) : w'.ownsRow base e size v n xs := by
  obtain ⟨h1, h2⟩ := h
  refine ⟨h1, ?_⟩
  rcases h2 with h2 | ⟨g, cap, cur, hv, hg, hcur, h3⟩
  · exact Or.inl h2
  · refine Or.inr ⟨g, cap, cur, hv, hg, ?_, h3⟩
    rw [hb g (by rw [hv]; rfl)]
    exact hcur

/-- The blocks of a ledger. -/
def Adr.foot (p : Adr) (k : Nat) : Prop := k = p.a ∨ k = p.bk ∨ k = p.mo ∨ k = p.mc ∨ p.jv.ownBlock = some k
theorem LedAt.foot_lt {w : World} {p : Adr} {S : Led} (h : LedAt w p S) {k : Nat} (hk : p.foot k) : k < w.heap.size := by
  rcases hk with rfl | rfl | rfl | rfl | hk
  · exact h.a_lt
  · exact h.book.bk_lt
  · exact h.book.mo_lt
  · exact h.book.mc_lt
  · exact (h.j_ne hk).2.2.2.2
theorem LedAt.same {w w' : World} {p : Adr} {S : Led} (h : LedAt w p S) (e : ∀ k, p.foot k → w'.heap[k]? = w.heap[k]?) : LedAt w' p S := by
  have ea := e p.a (Or.inl rfl)
  obtain ⟨c0, goods, cb, last, cj, free, book, jour, apart⟩ := h
  exact ⟨(World.cell?_of_block (a := ⟨p.a, 0, none⟩) ea).trans c0, goods.same ea, (World.cell?_of_block (a := ⟨p.a, 81, none⟩) ea).trans cb, last.same ea, (World.cell?_of_block (a := ⟨p.a, 162, none⟩) ea).trans cj,
    fun j => (World.frozen?_of_block (a := ⟨p.a, j, none⟩) ea).trans (free j), book.same (e _ (Or.inr (Or.inl rfl))) (e _ (Or.inr (Or.inr (Or.inl rfl)))) (e _ (Or.inr (Or.inr (Or.inr (Or.inl rfl))))), own_same jour (fun k hk => e k (Or.inr (Or.inr (Or.inr (Or.inr hk))))), apart⟩
theorem LedAt.below {w w' : World} {p : Adr} {S : Led} (h : LedAt w p S) (hb : Below w.heap.size w w') : LedAt w' p S := h.same fun k hk => hb.block k (h.foot_lt hk)
theorem LedAt.alloc {w : World} {p : Adr} {S : Led} (h : LedAt w p S) (o : Obj) : LedAt (w.alloc o) p S := h.below ((Below.refl _ _).alloc (Nat.le_refl _) o)
theorem LedAt.drew {w : World} {p : Adr} {S : Led} (h : LedAt w p S) : LedAt w.drew p S := h.below (Below.refl _ _).drew

/-- The numbers of one good. -/
def goodG (G : Nat → Int) (g : Nat) : Nat → Int := fun o => G (g * 20 + o)
theorem LedAt.good {w : World} {p : Adr} {S : Led} (h : LedAt w p S) {g : Nat} (hg : g < 4) : NumsAt w p.a (1 + g * 20) 20 (goodG S.G g) := fun k hk => by
  have := h.goods (g * 20 + k) (by omega)
  rwa [← Nat.add_assoc] at this
theorem LOk.good {S : Led} (h : LOk S) {g : Nat} (hg : g < 4) : Stk (goodG S.G g) := fun k hk => h.G (g * 20 + k) (by omega)
theorem LOk.cnt {S : Led} (h : LOk S) (g : Int) : ∀ x ∈ counting S.H g, 0 ≤ x 4 ∧ x 4 ≤ 1000000 := fun x hx => (h.H x (List.mem_filter.1 hx).1).1
def freeS (S : Led) (g c : Nat) : Int := freeV (goodG S.G g) (counting S.H g) c
def atpS (S : Led) (g d : Nat) : Int := atpV (goodG S.G g) (counting S.H g) d
/-- Whether a promise can be made. -/
def mayE (S : Led) (g c d : Nat) (q : Int) : Int :=
  if 60 ≤ S.H.length then 2 else if freeS S g c < q then 4 else if atpS S g d < q then 3 else 0
abbrev cv (k id g c d q o t : Int) : Value := .agg #[.int .i64 k, .int .i64 id, .int .i64 g, .int .i64 c, .int .i64 d, .int .i64 q, .int .i64 o, .int .i64 t]
abbrev cc (k id g c d q o t : Int) : Array Value := #[.int .i64 k, .int .i64 id, .int .i64 g, .int .i64 c, .int .i64 d, .int .i64 q, .int .i64 o, .int .i64 t]

set_option maxRecDepth 100000 in
set_option maxHeartbeats 2000000 in
theorem may_any (p : Adr) (S : Led) (k id q o t : Int) (w : World) (h : LedAt w p S) (hO : LOk S) (g c d : Nat) (hg : g < 4) (hc : c < 3) (hd : d < 16) :
    Calls Tryz.prog 100 #[.pointer (some ⟨p.a, 0, none⟩), cv k id g c d q o t] w fun e w' => e = .returned (.int .i64 (mayE S g c d q)) ∧ Below w.heap.size w w' := by
  have hlen := h.book.len
  have h1 := (h.alloc (.cells (cc k id g c d q o t) 33)).drew
  have cb := h1.cb
  have hal := h.a_lt
  have gI : (g : Int) < 4 := by omega
  have B1 : Below w.heap.size w ((w.alloc (.cells (cc k id g c d q o t) 33)).drew) := ((Below.refl _ _).alloc (Nat.le_refl _) _).drew
  have cbw := h.cb
  go_enter Tryz.func100, Tryz.ntmps100
  go_wp2
  go_region_held3 (fun w' => w'.cell? ⟨p.a, 81, none⟩ = some (.pointer (some ⟨p.bk, 0, none⟩)) ∧ w'.cell? ⟨w.heap.size, 2, none⟩ = some (.int .i64 g)) (first | (go_keep; done) | (simp; done)) (first | (go_at_call 56; refine (counting_any _ h1.book g).mono ?_; rintro e wa ⟨v, rfl, hva, ha⟩; have ca : wa.cell? ⟨p.a, 81, none⟩ = some (.pointer (some ⟨p.bk, 0, none⟩)) := (h1.below ha).cb; have cx : wa.cell? ⟨w.heap.size, 2, none⟩ = some (.int .i64 g) := (ha.cell (p := ⟨w.heap.size, 2, none⟩) (by simp)).trans (by simp [go_sem])))
  have hA := h1.below ha
  have R0 := rowIs_of_own hva
  have BA : Below w.heap.size w wa := B1.trans (ha.mono (by simp))
  have hsa := ha.size
  simp only [World.size_drew, World.size_alloc] at hsa
  have box : ∀ j, wa.cell? ⟨w.heap.size, j, none⟩ = (cc k id g c d q o t)[j]? := fun j => (ha.cell (p := ⟨w.heap.size, j, none⟩) (by simp)).trans (World.cell?_alloc_new w _ _ j)
  have x3 : wa.cell? ⟨w.heap.size, 3, none⟩ = some (.int .i64 c) := box 3
  have x4 : wa.cell? ⟨w.heap.size, 4, none⟩ = some (.int .i64 d) := box 4
  have x5 : wa.cell? ⟨w.heap.size, 5, none⟩ = some (.int .i64 q) := box 5
  clear h h1 cb cbw hva ha B1 box cx
  go_wp2_with fail
  refine (made_any _ hA.book).mono ?_
  rintro e wb ⟨rfl, hb⟩
  have hB := hA.below hb
  have RB := R0.below hb
  have BB := BA.trans (hb.mono BA.size)
  have hsb := hb.size
  have y3 : wb.cell? ⟨w.heap.size, 3, none⟩ = some (.int .i64 c) := (hb.cell (p := ⟨w.heap.size, 3, none⟩) (by show w.heap.size < _; omega)).trans x3
  have y4 : wb.cell? ⟨w.heap.size, 4, none⟩ = some (.int .i64 d) := (hb.cell (p := ⟨w.heap.size, 4, none⟩) (by show w.heap.size < _; omega)).trans x4
  have y5 : wb.cell? ⟨w.heap.size, 5, none⟩ = some (.int .i64 q) := (hb.cell (p := ⟨w.heap.size, 5, none⟩) (by show w.heap.size < _; omega)).trans x5
  clear hA R0 BA x3 x4 x5 hb ca
  have hcl : (counting S.H g).length ≤ 60 := Nat.le_trans (counting_len _ _) hlen
  have hq := hO.cnt (g : Int)
  have hst := hO.good hg
  by_cases e1 : 60 ≤ S.H.length
  · have HM : Hid (mayE S g c d q = 2) := if_pos e1
    have e1' : (60 : Int) ≤ (S.H.length : Int) := by omega
    clear e1
    go_wp2
    go_ret
    exact ⟨by rw [HM.out]; rfl, BB⟩
  · have e1' : ¬ (60 : Int) ≤ (S.H.length : Int) := by omega
    have h2 := hB.drew
    have g2 := h2.good hg
    have r2 : RowIs wb.drew v (counting S.H g) := RB.below (Below.refl _ _).drew
    go_wp2
    go_region_held3 (fun w' => w'.cell? ⟨w.heap.size, 3, none⟩ = some (.int .i64 c) ∧ w'.cell? ⟨w.heap.size, 5, none⟩ = some (.int .i64 q)) (first | (go_keep; done) | (simp; done)) (first | (go_at_call 58; refine (goodFree_any p.a (1 + g * 20) c (goodG S.G g) v (counting S.H g) _ hc hst g2 hcl hq r2).mono ?_; rintro e wc ⟨rfl, hbc⟩; have z5 : wc.cell? ⟨w.heap.size, 5, none⟩ = some (.int .i64 q) := (hbc.cell (p := ⟨w.heap.size, 5, none⟩) (by show w.heap.size < _; simp; omega)).trans y5; have z3 : wc.cell? ⟨w.heap.size, 3, none⟩ = some (.int .i64 c) := (hbc.cell (p := ⟨w.heap.size, 3, none⟩) (by show w.heap.size < _; simp; omega)).trans y3))
    have hC := h2.below hbc
    have RC := r2.below hbc
    have hbc' : Below wb.heap.size wb wc := (Below.refl _ _).drew.trans hbc
    have hsc := hbc.size
    simp only [World.size_drew] at hsc
    have BC := BB.trans (hbc'.mono BB.size)
    have z4 : wc.cell? ⟨w.heap.size, 4, none⟩ = some (.int .i64 d) := (hbc'.cell (p := ⟨w.heap.size, 4, none⟩) (by show w.heap.size < _; omega)).trans y4
    clear hB RB BB y3 y4 y5 h2 g2 r2 hbc hbc'
    have FS : Hid (freeV (goodG S.G g) (counting S.H g) c = freeS S g c) := rfl
    rw [FS.out]
    by_cases e2 : freeS S g c < q
    · have HM : Hid (mayE S g c d q = 4) := by show _ = _; unfold mayE; rw [if_neg e1, if_pos e2]
      clear e1
      go_wp2
      go_ret
      exact ⟨by rw [HM.out]; rfl, BC⟩
    · have h3 := hC.drew
      have g3 := h3.good hg
      have r3 : RowIs wc.drew v (counting S.H g) := RC.below (Below.refl _ _).drew
      go_wp2
      go_region_held3 (fun w' => w'.cell? ⟨w.heap.size, 4, none⟩ = some (.int .i64 d) ∧ w'.cell? ⟨w.heap.size, 5, none⟩ = some (.int .i64 q)) (first | (go_keep; done) | (simp; done)) (first | (go_at_call 55; refine (goodATP_any p.a (1 + g * 20) d (goodG S.G g) v (counting S.H g) _ hd hst g3 hcl hq r3).mono ?_; rintro e wd ⟨rfl, hbd⟩; have v5 : wd.cell? ⟨w.heap.size, 5, none⟩ = some (.int .i64 q) := (hbd.cell (p := ⟨w.heap.size, 5, none⟩) (by show w.heap.size < _; simp; omega)).trans z5; have v4 : wd.cell? ⟨w.heap.size, 4, none⟩ = some (.int .i64 d) := (hbd.cell (p := ⟨w.heap.size, 4, none⟩) (by show w.heap.size < _; simp; omega)).trans z4))
      have BD : Below w.heap.size w wd := BC.drew.trans (hbd.mono (by have := BC.size; simp; omega))
      have AS : Hid (atpV (goodG S.G g) (counting S.H g) d = atpS S g d) := rfl
      rw [AS.out]
      clear hC RC h3 g3 r3 hbd z3 z4 z5
      by_cases e3 : atpS S g d < q
      · have HM : Hid (mayE S g c d q = 3) := by show _ = _; unfold mayE; rw [if_neg e1, if_neg (by omega), if_pos e3]
        clear e1
        go_wp2
        go_ret
        exact ⟨by rw [HM.out]; rfl, BD⟩
      · have HM : Hid (mayE S g c d q = 0) := by show _ = _; unfold mayE; rw [if_neg e1, if_neg (by omega), if_neg e3]
        clear e1
        go_wp2
        go_ret
        exact ⟨by rw [HM.out]; rfl, BD⟩

end Go.Proofs.YtdblmheoghhepaaGreatDoor

/- 'promise'. -/
namespace Go.Proofs.YtdblmheoghhepaaGreatDoor
open Go.RowKit

abbrev ansV (e h : Int) : Value := .agg #[.int .i64 e, .int .i64 h]
theorem Turned.cell {F : Nat → Prop} {w w' : World} (h : Turned F w w') {b : Nat} (hb : b < w.heap.size) (hn : ¬ F b) (j : Nat) : w'.cell? ⟨b, j, none⟩ = w.cell? ⟨b, j, none⟩ := World.cell?_of_block (a := ⟨b, j, none⟩) (h.block b hb hn)
theorem Turned.free {F : Nat → Prop} {w w' : World} (h : Turned F w w') {b : Nat} (hb : b < w.heap.size) (hn : ¬ F b) (hf : Free w b) : Free w' b := fun j => (World.frozen?_of_block (a := ⟨b, j, none⟩) (h.block b hb hn)).trans (hf j)

/-- The book has turned, and nothing else of the ledger. -/
theorem LedAt.rebook {w w' : World} {p : Adr} {S : Led} (h : LedAt w p S) {H' : List (Nat → Int)} (hB : BookAt w' p.bk p.mo p.mc H') (hT : Turned (fun b => b = p.mo ∨ b = p.mc) w w') : LedAt w' p { S with H := H' } := by
  obtain ⟨n1, n2, n3⟩ := h.a_ne
  have ea : w'.heap[p.a]? = w.heap[p.a]? := hT.block p.a h.a_lt (fun e => by rcases e with e | e <;> omega)
  have hj := fun k hk => h.j_ne (k := k) hk
  obtain ⟨c0, goods, cb, last, cj, free, book, jour, apart⟩ := h
  exact ⟨(World.cell?_of_block (a := ⟨p.a, 0, none⟩) ea).trans c0, goods.same ea, (World.cell?_of_block (a := ⟨p.a, 81, none⟩) ea).trans cb, last.same ea, (World.cell?_of_block (a := ⟨p.a, 162, none⟩) ea).trans cj,
    fun j => (World.frozen?_of_block (a := ⟨p.a, j, none⟩) ea).trans (free j), hB, own_same jour (fun k hk => hT.block k (hj k hk).2.2.2.2 (fun e => by have := hj k hk; rcases e with e | e <;> omega)), apart⟩

/-- A hold that is made. -/
def newH (S : Led) (g c d : Nat) (q t : Int) : Nat → Int := asOpen (eight 0 g c d q S.now (S.now + t) 0) ((S.H.length : Int) + 1)

set_option maxRecDepth 100000 in
set_option maxHeartbeats 2000000 in
theorem promise_no (p : Adr) (S : Led) (k id q o t : Int) (w : World) (h : LedAt w p S) (hO : LOk S) (g c d : Nat) (hg : g < 4) (hc : c < 3) (hd : d < 16) (hm : mayE S g c d q ≠ 0) :
    Calls Tryz.prog 77 #[.pointer (some ⟨p.a, 0, none⟩), cv k id g c d q o t] w fun e w' => e = .returned (ansV (mayE S g c d q) 0) ∧ Below w.heap.size w w' := by
  have h1 := (h.alloc (.cells (cc k id g c d q o t) 33)).alloc (.cells #[.int .i64 0, .int .i64 0] 66)
  have B1 : Below w.heap.size w ((w.alloc (.cells (cc k id g c d q o t) 33)).alloc (.cells #[.int .i64 0, .int .i64 0] 66)) := ((Below.refl _ _).alloc (Nat.le_refl _) _).alloc (by simp) _
  go_enter Tryz.func77, Tryz.ntmps77
  go_wp2_with fail
  refine (may_any p S k id q o t _ h1 hO g c d hg hc hd).mono ?_
  rintro e w1 ⟨rfl, hb1⟩
  have a0 : w1.cell? ⟨w.heap.size + 1, 0, none⟩ = some (.int .i64 0) := (hb1.cell (p := ⟨w.heap.size + 1, 0, none⟩) (by simp)).trans (by simp [go_sem])
  have a1 : w1.cell? ⟨w.heap.size + 1, 1, none⟩ = some (.int .i64 0) := (hb1.cell (p := ⟨w.heap.size + 1, 1, none⟩) (by simp)).trans (by simp [go_sem])
  have f0 : w1.frozen? ⟨w.heap.size + 1, 0, none⟩ = false := (hb1.frozen (p := ⟨w.heap.size + 1, 0, none⟩) (by simp)).trans (by simp [go_sem])
  have f1 : w1.frozen? ⟨w.heap.size + 1, 1, none⟩ = false := (hb1.frozen (p := ⟨w.heap.size + 1, 1, none⟩) (by simp)).trans (by simp [go_sem])
  have BB := B1.trans (hb1.mono (by simp; omega))
  have hx' : (mayE S g c d q == 0) = false := by simpa using hm
  clear h h1 hb1 B1
  go_wp2
  refine bodyPost_ret (v := ansV (mayE S g c d q) 0) (by simp [results, Tryz.results77, go_sem, a0, a1]) rfl ⟨rfl, ?_⟩
  exact (BB.setCell (p := ⟨w.heap.size + 1, 0, none⟩) (Nat.le_succ _) _).setCell (p := ⟨w.heap.size + 1, 1, none⟩) (Nat.le_succ _) _

end Go.Proofs.YtdblmheoghhepaaGreatDoor

/- 'promise', where one is made. -/
namespace Go.Proofs.YtdblmheoghhepaaGreatDoor
open Go.RowKit

theorem add8 (w : World) {bk mo mc : Nat} {H : List (Nat → Int)} (hB : BookAt w bk mo mc H) (a0 a1 a2 a3 a4 a5 a6 a7 : Int) (hl : H.length < 60) :
    Calls Tryz.prog 101 #[.pointer (some ⟨bk, 0, none⟩), cv a0 a1 a2 a3 a4 a5 a6 a7] w fun e w' => e = .returned (.int .i64 ((H.length : Int) + 1)) ∧ BookAt w' bk mo mc (H ++ [asOpen (eight a0 a1 a2 a3 a4 a5 a6 a7) ((H.length : Int) + 1)]) ∧ Turned (fun b => b = mo) w w' :=
  add_any w hB (eight a0 a1 a2 a3 a4 a5 a6 a7) hl

set_option maxRecDepth 100000 in
set_option maxHeartbeats 2000000 in
theorem promise_yes (p : Adr) (S : Led) (k id q o t : Int) (w : World) (h : LedAt w p S) (hO : LOk S) (g c d : Nat) (hg : g < 4) (hc : c < 3) (hd : d < 16) (ht : 0 ≤ t ∧ t ≤ 1000) (hm : mayE S g c d q = 0) :
    Calls Tryz.prog 77 #[.pointer (some ⟨p.a, 0, none⟩), cv k id g c d q o t] w fun e w' => e = .returned (ansV 0 ((S.H.length : Int) + 1)) ∧ LedAt w' p { S with H := S.H ++ [newH S g c d q t] } ∧ Turned (fun b => b = p.mo ∨ b = p.mc) w w' := by
  have h1 := (h.alloc (.cells (cc k id g c d q o t) 33)).alloc (.cells #[.int .i64 0, .int .i64 0] 66)
  have B1 : Below w.heap.size w ((w.alloc (.cells (cc k id g c d q o t) 33)).alloc (.cells #[.int .i64 0, .int .i64 0] 66)) := ((Below.refl _ _).alloc (Nat.le_refl _) _).alloc (by simp) _
  have hnow := hO.now
  have hfl := fun k (hk : p.foot k) => h.foot_lt hk
  have hmol := h.book.mo_lt
  have hal := h.a_lt
  obtain ⟨n1, n2, n3⟩ := h.a_ne
  have hl60 : S.H.length < 60 := by
    unfold mayE at hm
    split at hm
    · omega
    · omega
  go_enter Tryz.func77, Tryz.ntmps77
  go_wp2_with fail
  refine (may_any p S k id q o t _ h1 hO g c d hg hc hd).mono ?_
  rintro e w1 ⟨rfl, hb1⟩
  rw [hm]
  have hs1 := hb1.size
  simp only [World.size_alloc] at hs1
  have a0 : w1.cell? ⟨w.heap.size + 1, 0, none⟩ = some (.int .i64 0) := (hb1.cell (p := ⟨w.heap.size + 1, 0, none⟩) (by simp)).trans (by simp [go_sem])
  have a1 : w1.cell? ⟨w.heap.size + 1, 1, none⟩ = some (.int .i64 0) := (hb1.cell (p := ⟨w.heap.size + 1, 1, none⟩) (by simp)).trans (by simp [go_sem])
  have f0 : w1.frozen? ⟨w.heap.size + 1, 0, none⟩ = false := (hb1.frozen (p := ⟨w.heap.size + 1, 0, none⟩) (by simp)).trans (by simp [go_sem])
  have f1 : w1.frozen? ⟨w.heap.size + 1, 1, none⟩ = false := (hb1.frozen (p := ⟨w.heap.size + 1, 1, none⟩) (by simp)).trans (by simp [go_sem])
  have box : ∀ j, w1.cell? ⟨w.heap.size, j, none⟩ = (cc k id g c d q o t)[j]? := fun j => (hb1.cell (p := ⟨w.heap.size, j, none⟩) (by simp; omega)).trans ((World.cell?_alloc_past _ _ _ (by simp)).trans (World.cell?_alloc_new w _ _ j))
  have x2 : w1.cell? ⟨w.heap.size, 2, none⟩ = some (.int .i64 g) := box 2
  have x3 : w1.cell? ⟨w.heap.size, 3, none⟩ = some (.int .i64 c) := box 3
  have x4 : w1.cell? ⟨w.heap.size, 4, none⟩ = some (.int .i64 d) := box 4
  have x5 : w1.cell? ⟨w.heap.size, 5, none⟩ = some (.int .i64 q) := box 5
  have x7 : w1.cell? ⟨w.heap.size, 7, none⟩ = some (.int .i64 t) := box 7
  have hA := h1.below hb1
  have c0 := hA.c0
  have cb := hA.cb
  have hAd := hA.drew
  have BB := B1.trans (hb1.mono (by simp; omega))
  clear h h1 hb1 B1 box hm
  have ne1 : ¬ w.heap.size + 1 = p.a := by omega
  have ne2 : ¬ p.a = w.heap.size + 1 := by omega
  have hW : IntKind.i64.wrap (S.now + t) = S.now + t := w64i _ (by omega)
  go_wp2
  go_region_held3 (fun w' => w'.cell? ⟨p.a, 0, none⟩ = some (.int .i64 S.now) ∧ w'.cell? ⟨p.a, 81, none⟩ = some (.pointer (some ⟨p.bk, 0, none⟩)) ∧ w'.cell? ⟨w.heap.size, 2, none⟩ = some (.int .i64 g) ∧ w'.cell? ⟨w.heap.size, 3, none⟩ = some (.int .i64 c) ∧ w'.cell? ⟨w.heap.size, 4, none⟩ = some (.int .i64 d) ∧ w'.cell? ⟨w.heap.size, 5, none⟩ = some (.int .i64 q) ∧ w'.cell? ⟨w.heap.size, 7, none⟩ = some (.int .i64 t)) (first | (go_keep; done) | (simp; done)) (first | (go_at_call 101; refine (add8 _ hAd.book 0 g c d q S.now (S.now + t) 0 hl60).mono ?_; rintro e w2 ⟨rfl, hB2, hT2⟩; have y0 : w2.cell? ⟨p.a, 0, none⟩ = some (.int .i64 S.now) := (hT2.cell (b := p.a) (by simp; omega) n2 0).trans c0; have y1 : w2.cell? ⟨p.a, 81, none⟩ = some (.pointer (some ⟨p.bk, 0, none⟩)) := (hT2.cell (b := p.a) (by simp; omega) n2 81).trans cb; have bx : ∀ j, w2.cell? ⟨w.heap.size, j, none⟩ = w1.cell? ⟨w.heap.size, j, none⟩ := (fun j => hT2.cell (b := w.heap.size) (by simp; omega) (by omega) j); have y2 := (bx 2).trans x2; have y3 := (bx 3).trans x3; have y4 := (bx 4).trans x4; have y5 := (bx 5).trans x5; have y7 := (bx 7).trans x7; have z0 : w2.cell? ⟨w.heap.size + 1, 0, none⟩ = some (.int .i64 0) := (hT2.cell (b := w.heap.size + 1) (by simp; omega) (by omega) 0).trans a0; have z1 : w2.cell? ⟨w.heap.size + 1, 1, none⟩ = some (.int .i64 0) := (hT2.cell (b := w.heap.size + 1) (by simp; omega) (by omega) 1).trans a1; have g0 : w2.frozen? ⟨w.heap.size + 1, 0, none⟩ = false := (World.frozen?_of_block (hT2.block (w.heap.size + 1) (by simp; omega) (by omega))).trans f0; have g1 : w2.frozen? ⟨w.heap.size + 1, 1, none⟩ = false := (World.frozen?_of_block (hT2.block (w.heap.size + 1) (by simp; omega) (by omega))).trans f1))
  have hT : Turned (fun b => b = p.mo ∨ b = p.mc) w1 w2 := ((Turned.refl _ w1).drew).trans (hT2.mono (fun k _ e => Or.inl e))
  have hL := hA.rebook hB2 hT
  have T0 : Turned (fun b => b = p.mo ∨ b = p.mc) w w2 := (Turned.ofBelow BB).trans hT
  have T3 := (T0.setCell (p := ⟨w.heap.size + 1, 0, none⟩) (Or.inr (Nat.le_succ _)) (.int .i64 0)).setCell (p := ⟨w.heap.size + 1, 1, none⟩) (Or.inr (Nat.le_succ _)) (.int .i64 ((S.H.length : Int) + 1))
  have L3 : LedAt ((w2.setCell ⟨w.heap.size + 1, 0, none⟩ (.int .i64 0)).setCell ⟨w.heap.size + 1, 1, none⟩ (.int .i64 ((S.H.length : Int) + 1))) p { S with H := S.H ++ [newH S g c d q t] } := by
    refine hL.same (fun k hk => ?_)
    have := hfl k hk
    have hkl : k ≠ w.heap.size + 1 := by omega
    rw [Below.heap_setCell _ _ _ _ hkl, Below.heap_setCell _ _ _ _ hkl]
  clear hA hAd hB2 hT2 hT hL T0
  go_wp2
  exact bodyPost_ret (v := ansV 0 ((S.H.length : Int) + 1)) (by simp [results, Tryz.results77, go_sem, z0, z1]) rfl ⟨rfl, L3, T3⟩

end Go.Proofs.YtdblmheoghhepaaGreatDoor

/- 'tick'; what turns of a ledger. -/
namespace Go.Proofs.YtdblmheoghhepaaGreatDoor
open Go.RowKit

theorem off_ne {b i j : Nat} (h : i ≠ j) : (⟨b, i, none⟩ : Addr) ≠ ⟨b, j, none⟩ := fun e => h (congrArg Addr.off e)
def updG (G : Nat → Int) (i : Nat) (x : Int) : Nat → Int := fun j => if j = i then x else G j
theorem nums_upd {w : World} {b o n i : Nat} {V : Nat → Int} (h : NumsAt w b o n V) (hi : i < n) (x : Int) : NumsAt (w.setCell ⟨b, o + i, none⟩ (.int .i64 x)) b o n (updG V i x) := by
  intro j hj
  unfold updG
  by_cases e : j = i
  · subst e
    rw [if_pos rfl, World.cell?_setCell_same _ _ _ (h j hj)]
  · rw [if_neg e, World.cell?_setCell_other _ _ _ _ (off_ne (by omega))]
    exact h j hj
theorem nums_other {w : World} {b o n i : Nat} {V : Nat → Int} (h : NumsAt w b o n V) (hi : i < o ∨ o + n ≤ i) (v : Value) : NumsAt (w.setCell ⟨b, i, none⟩ v) b o n V := fun j hj => by
  rw [World.cell?_setCell_other _ _ _ _ (off_ne (by omega))]
  exact h j hj

/-- A cell of the ledger's own block is written: the rest stays. -/
theorem LedAt.rest {w : World} {p : Adr} {S : Led} (h : LedAt w p S) (i : Nat) (v : Value) :
    Free (w.setCell ⟨p.a, i, none⟩ v) p.a ∧ BookAt (w.setCell ⟨p.a, i, none⟩ v) p.bk p.mo p.mc S.H ∧ (w.setCell ⟨p.a, i, none⟩ v).ownsRow 0 5 1 p.jv S.J.length (S.J.map (Value.int .u8)) := by
  obtain ⟨n1, n2, n3⟩ := h.a_ne
  refine ⟨fun j => by rw [World.frozen?_setCell]; exact h.free j, h.book.same (Below.heap_setCell _ _ _ _ n1.symm) (Below.heap_setCell _ _ _ _ n2.symm) (Below.heap_setCell _ _ _ _ n3.symm), own_same h.jour (fun k hk => Below.heap_setCell _ _ _ _ (h.j_ne hk).1)⟩
theorem LedAt.setG {w : World} {p : Adr} {S : Led} (h : LedAt w p S) {i : Nat} (hi : i < 80) (x : Int) : LedAt (w.setCell ⟨p.a, 1 + i, none⟩ (.int .i64 x)) p { S with G := updG S.G i x } := by
  obtain ⟨r1, r2, r3⟩ := h.rest (1 + i) (.int .i64 x)
  refine ⟨?_, nums_upd h.goods hi x, ?_, nums_other h.last (by omega) _, ?_, r1, r2, r3, h.apart⟩
  · rw [World.cell?_setCell_other _ _ _ _ (off_ne (by omega))]; exact h.c0
  · rw [World.cell?_setCell_other _ _ _ _ (off_ne (by omega))]; exact h.cb
  · rw [World.cell?_setCell_other _ _ _ _ (off_ne (by omega))]; exact h.cj
theorem LedAt.setNow {w : World} {p : Adr} {S : Led} (h : LedAt w p S) (x : Int) : LedAt (w.setCell ⟨p.a, 0, none⟩ (.int .i64 x)) p { S with now := x } := by
  obtain ⟨r1, r2, r3⟩ := h.rest 0 (.int .i64 x)
  refine ⟨World.cell?_setCell_same _ _ _ h.c0, nums_other h.goods (by omega) _, ?_, nums_other h.last (by omega) _, ?_, r1, r2, r3, h.apart⟩
  · rw [World.cell?_setCell_other _ _ _ _ (off_ne (by omega))]; exact h.cb
  · rw [World.cell?_setCell_other _ _ _ _ (off_ne (by omega))]; exact h.cj

set_option maxRecDepth 100000 in
set_option maxHeartbeats 1000000 in
theorem tick_no (p : Adr) (S : Led) (t : Int) (w : World) (h : LedAt w p S) (hO : LOk S) (ht : 0 ≤ t ∧ t ≤ 1000) (hx : S.now + t > 1000000) :
    Calls Tryz.prog 79 #[.pointer (some ⟨p.a, 0, none⟩), .int .i64 t] w fun e w' => e = .returned (.int .i64 7) ∧ w = w' := by
  have c0 := h.c0
  have hnow := hO.now
  go_enter Tryz.func79, Tryz.ntmps79
  go_wp2
  go_ret
  exact ⟨rfl, rfl⟩

set_option maxRecDepth 100000 in
set_option maxHeartbeats 1000000 in
theorem tick_yes (p : Adr) (S : Led) (t : Int) (w : World) (h : LedAt w p S) (hO : LOk S) (ht : 0 ≤ t ∧ t ≤ 1000) (hx : ¬ S.now + t > 1000000) :
    Calls Tryz.prog 79 #[.pointer (some ⟨p.a, 0, none⟩), .int .i64 t] w fun e w' => e = .returned (.int .i64 0) ∧ LedAt w' p { S with now := S.now + t, H := expL (S.now + t) S.H } ∧ Turned p.foot w w' := by
  have c0 := h.c0
  have hnow := hO.now
  have f0 := h.free 0
  have h1 := h.setNow (S.now + t)
  have d0 := h1.c0
  have d1 := h1.cb
  have T1 : Turned p.foot w (w.setCell ⟨p.a, 0, none⟩ (.int .i64 (S.now + t))) := (Turned.refl _ w).setCell (Or.inl (Or.inl rfl)) _
  go_enter Tryz.func79, Tryz.ntmps79
  go_wp2
  generalize hw1 : w.setCell ⟨p.a, 0, none⟩ (.int .i64 (S.now + t)) = w1 at *
  obtain ⟨n1, n2, n3⟩ := h1.a_ne
  have hal := h1.a_lt
  have h1d := h1.drew
  clear hw1 h c0 f0
  go_region_held3 (fun w' => w'.cell? ⟨p.a, 0, none⟩ = some (.int .i64 (S.now + t)) ∧ w'.cell? ⟨p.a, 81, none⟩ = some (.pointer (some ⟨p.bk, 0, none⟩))) (first | (go_keep; done) | (simp; done)) (first | (go_at_call 102; refine (expire_any _ h1d.book (S.now + t)).mono ?_; rintro e w2 ⟨rfl, hB2, hT2⟩; have y0 : w2.cell? ⟨p.a, 0, none⟩ = some (.int .i64 (S.now + t)) := (hT2.cell (b := p.a) (by simpa using hal) (by omega) 0).trans d0; have y1 : w2.cell? ⟨p.a, 81, none⟩ = some (.pointer (some ⟨p.bk, 0, none⟩)) := (hT2.cell (b := p.a) (by simpa using hal) (by omega) 81).trans d1))
  have hL := h1d.rebook hB2 hT2
  have T2 : Turned p.foot w w2 := T1.drew.trans (hT2.mono (fun k _ e => by rcases e with e | e; exact Or.inr (Or.inr (Or.inl e)); exact Or.inr (Or.inr (Or.inr (Or.inl e)))))
  clear hB2 hT2 h1 h1d T1
  go_wp2
  go_ret
  exact ⟨rfl, hL, T2⟩

/-- A number of the goods goes on by q, where it may. -/
def moveS (S : Led) (i : Nat) (q : Int) : Led := if inStock (S.G i + q) = true then { S with G := updG S.G i (S.G i + q) } else S
theorem LedAt.move {w : World} {p : Adr} {S : Led} (h : LedAt w p S) {i : Nat} (hi : i < 80) (q : Int) : LedAt (moveW w ⟨p.a, 1 + i, none⟩ (S.G i + q)) p (moveS S i q) ∧ Turned p.foot w (moveW w ⟨p.a, 1 + i, none⟩ (S.G i + q)) := by
  unfold moveW moveS
  split
  · exact ⟨h.setG hi _, (Turned.refl _ w).setCell (Or.inl (Or.inl rfl)) _⟩
  · exact ⟨h, Turned.refl _ w⟩

end Go.Proofs.YtdblmheoghhepaaGreatDoor

/- 'decide', kind by kind. -/
namespace Go.Proofs.YtdblmheoghhepaaGreatDoor
open Go.RowKit

/-- What a decision leaves. -/
def Decided (w : World) (p : Adr) (S' : Led) (E N : Int) (e : Ending) (w' : World) : Prop := e = .returned (ansV E N) ∧ LedAt w' p S' ∧ Turned p.foot w w'

theorem ans_set {w0 w : World} {p : Adr} {S : Led} (hf : ∀ k, p.foot k → k < w0.heap.size) (h : LedAt w p S) (hT : Turned p.foot w0 w) (b : Nat) (hb : w0.heap.size ≤ b) (u v : Value) :
    LedAt ((w.setCell ⟨b, 0, none⟩ u).setCell ⟨b, 1, none⟩ v) p S ∧ Turned p.foot w0 ((w.setCell ⟨b, 0, none⟩ u).setCell ⟨b, 1, none⟩ v) := by
  refine ⟨h.same (fun k hk => ?_), (hT.setCell (p := ⟨b, 0, none⟩) (Or.inr hb) _).setCell (p := ⟨b, 1, none⟩) (Or.inr hb) _⟩
  have := hf k hk
  rw [Below.heap_setCell _ _ _ _ (by show k ≠ b; omega), Below.heap_setCell _ _ _ _ (by show k ≠ b; omega)]

set_option maxRecDepth 100000 in
set_option maxHeartbeats 2000000 in
theorem dec1 (p : Adr) (S : Led) (id q : Int) (w : World) (h : LedAt w p S) (hO : LOk S) (g : Nat) (hg : g < 4) (hq : -1000000 ≤ q ∧ q ≤ 1000000) (hfp : ∀ k, p.foot k → k < w.heap.size) :
    Calls Tryz.prog 51 #[.pointer (some ⟨p.a, 0, none⟩), cv 1 id g 0 0 q 0 0] w (Decided w p (moveS S (g * 20) q) (moveE (S.G (g * 20) + q)) 0) := by
  have gI : (g : Int) < 4 := by omega
  have hal := h.a_lt
  have hs := hO.G (g * 20) (by omega)
  go_enter Tryz.func51, Tryz.ntmps51
  go_wp2
  go_quiet (fail)
  have h1 : LedAt (((w.alloc (.cells (cc 1 id g 0 0 q 0 0) 33)).alloc (.cells #[.int .i64 0, .int .i64 0] 66)).drewN nq) p S := ((h.alloc _).alloc _).below (below_drewN (Below.refl _ _) _)
  have hc : (((w.alloc (.cells (cc 1 id g 0 0 q 0 0) 33)).alloc (.cells #[.int .i64 0, .int .i64 0] 66)).drewN nq).cell? ⟨p.a, 1 + g * 20, none⟩ = some (.int .i64 (S.G (g * 20))) := by
    have := h1.goods (g * 20) (by omega)
    rwa [show 1 + (g * 20) = 1 + g * 20 by omega] at this
  have hf := h1.free (1 + g * 20)
  have T1 : Turned p.foot w (((w.alloc (.cells (cc 1 id g 0 0 q 0 0) 33)).alloc (.cells #[.int .i64 0, .int .i64 0] 66)).drewN nq) := Turned.ofBelow (below_drewN (((Below.refl _ _).alloc (Nat.le_refl _) _).alloc (by simp) _) _)
  go_wp2_with fail
  refine (change_any p.a (1 + g * 20) _ q _ hc hf hs hq).mono ?_
  rintro e w2 ⟨rfl, hw2⟩
  obtain ⟨L2, T2⟩ := h1.move (i := g * 20) (by omega) q
  rw [show 1 + (g * 20) = 1 + g * 20 by omega, hw2] at L2 T2
  have a0 : w2.cell? ⟨w.heap.size + 1, 0, none⟩ = some (.int .i64 0) := (T2.cell (b := w.heap.size + 1) (by simp) (fun e => by have := hfp _ e; omega) 0).trans (by simp [go_sem])
  have a1 : w2.cell? ⟨w.heap.size + 1, 1, none⟩ = some (.int .i64 0) := (T2.cell (b := w.heap.size + 1) (by simp) (fun e => by have := hfp _ e; omega) 1).trans (by simp [go_sem])
  have f0 : w2.frozen? ⟨w.heap.size + 1, 0, none⟩ = false := (World.frozen?_of_block (T2.block (w.heap.size + 1) (by simp) (fun e => by have := hfp _ e; omega))).trans (by simp [go_sem])
  have f1 : w2.frozen? ⟨w.heap.size + 1, 1, none⟩ = false := (World.frozen?_of_block (T2.block (w.heap.size + 1) (by simp) (fun e => by have := hfp _ e; omega))).trans (by simp [go_sem])
  have TT := T1.trans T2
  obtain ⟨L3, T3⟩ := ans_set hfp L2 TT (w.heap.size + 1) (Nat.le_succ _) (.int .i64 (moveE (S.G (g * 20) + q))) (.int .i64 0)
  clear h1 hc hf T1 hw2 L2 T2 TT h
  go_wp2
  exact bodyPost_ret (v := ansV (moveE (S.G (g * 20) + q)) 0) (by simp [results, Tryz.results51, go_sem, a0, a1]) rfl ⟨rfl, L3, T3⟩

set_option maxRecDepth 100000 in
set_option maxHeartbeats 2000000 in
theorem dec7 (p : Adr) (S : Led) (id q : Int) (w : World) (h : LedAt w p S) (hO : LOk S) (g : Nat) (hg : g < 4) (hq : -1000000 ≤ q ∧ q ≤ 1000000) (hfp : ∀ k, p.foot k → k < w.heap.size) :
    Calls Tryz.prog 51 #[.pointer (some ⟨p.a, 0, none⟩), cv 7 id g 0 0 q 0 0] w (Decided w p (moveS S (g * 20) q) (moveE (S.G (g * 20) + q)) 0) := by
  have gI : (g : Int) < 4 := by omega
  have hal := h.a_lt
  have hs := hO.G (g * 20) (by omega)
  go_enter Tryz.func51, Tryz.ntmps51
  go_wp2
  go_quiet (fail)
  have h1 : LedAt (((w.alloc (.cells (cc 7 id g 0 0 q 0 0) 33)).alloc (.cells #[.int .i64 0, .int .i64 0] 66)).drewN nq) p S := ((h.alloc _).alloc _).below (below_drewN (Below.refl _ _) _)
  have hc : (((w.alloc (.cells (cc 7 id g 0 0 q 0 0) 33)).alloc (.cells #[.int .i64 0, .int .i64 0] 66)).drewN nq).cell? ⟨p.a, 1 + g * 20, none⟩ = some (.int .i64 (S.G (g * 20))) := by
    have := h1.goods (g * 20) (by omega)
    rwa [show 1 + (g * 20) = 1 + g * 20 by omega] at this
  have hf := h1.free (1 + g * 20)
  have T1 : Turned p.foot w (((w.alloc (.cells (cc 7 id g 0 0 q 0 0) 33)).alloc (.cells #[.int .i64 0, .int .i64 0] 66)).drewN nq) := Turned.ofBelow (below_drewN (((Below.refl _ _).alloc (Nat.le_refl _) _).alloc (by simp) _) _)
  go_wp2_with fail
  refine (change_any p.a (1 + g * 20) _ q _ hc hf hs hq).mono ?_
  rintro e w2 ⟨rfl, hw2⟩
  obtain ⟨L2, T2⟩ := h1.move (i := g * 20) (by omega) q
  rw [show 1 + (g * 20) = 1 + g * 20 by omega, hw2] at L2 T2
  have a0 : w2.cell? ⟨w.heap.size + 1, 0, none⟩ = some (.int .i64 0) := (T2.cell (b := w.heap.size + 1) (by simp) (fun e => by have := hfp _ e; omega) 0).trans (by simp [go_sem])
  have a1 : w2.cell? ⟨w.heap.size + 1, 1, none⟩ = some (.int .i64 0) := (T2.cell (b := w.heap.size + 1) (by simp) (fun e => by have := hfp _ e; omega) 1).trans (by simp [go_sem])
  have f0 : w2.frozen? ⟨w.heap.size + 1, 0, none⟩ = false := (World.frozen?_of_block (T2.block (w.heap.size + 1) (by simp) (fun e => by have := hfp _ e; omega))).trans (by simp [go_sem])
  have f1 : w2.frozen? ⟨w.heap.size + 1, 1, none⟩ = false := (World.frozen?_of_block (T2.block (w.heap.size + 1) (by simp) (fun e => by have := hfp _ e; omega))).trans (by simp [go_sem])
  have TT := T1.trans T2
  obtain ⟨L3, T3⟩ := ans_set hfp L2 TT (w.heap.size + 1) (Nat.le_succ _) (.int .i64 (moveE (S.G (g * 20) + q))) (.int .i64 0)
  clear h1 hc hf T1 hw2 L2 T2 TT h
  go_wp2
  exact bodyPost_ret (v := ansV (moveE (S.G (g * 20) + q)) 0) (by simp [results, Tryz.results51, go_sem, a0, a1]) rfl ⟨rfl, L3, T3⟩

set_option maxRecDepth 100000 in
set_option maxHeartbeats 2000000 in
theorem dec2 (p : Adr) (S : Led) (id q : Int) (w : World) (h : LedAt w p S) (hO : LOk S) (g d : Nat) (hg : g < 4) (hd : d < 16) (hq : -1000000 ≤ q ∧ q ≤ 1000000) (hfp : ∀ k, p.foot k → k < w.heap.size) :
    Calls Tryz.prog 51 #[.pointer (some ⟨p.a, 0, none⟩), cv 2 id g 0 d q 0 0] w (Decided w p (moveS S (g * 20 + 1 + d) q) (moveE (S.G (g * 20 + 1 + d) + q)) 0) := by
  have gI : (g : Int) < 4 := by omega
  have hal := h.a_lt
  have hs := hO.G (g * 20 + 1 + d) (by omega)
  go_enter Tryz.func51, Tryz.ntmps51
  go_wp2
  go_quiet (fail)
  have h1 : LedAt (((w.alloc (.cells (cc 2 id g 0 d q 0 0) 33)).alloc (.cells #[.int .i64 0, .int .i64 0] 66)).drewN nq) p S := ((h.alloc _).alloc _).below (below_drewN (Below.refl _ _) _)
  have hc : (((w.alloc (.cells (cc 2 id g 0 d q 0 0) 33)).alloc (.cells #[.int .i64 0, .int .i64 0] 66)).drewN nq).cell? ⟨p.a, 1 + g * 20 + 1 + d, none⟩ = some (.int .i64 (S.G (g * 20 + 1 + d))) := by
    have := h1.goods (g * 20 + 1 + d) (by omega)
    rwa [show 1 + (g * 20 + 1 + d) = 1 + g * 20 + 1 + d by omega] at this
  have hf := h1.free (1 + g * 20 + 1 + d)
  have T1 : Turned p.foot w (((w.alloc (.cells (cc 2 id g 0 d q 0 0) 33)).alloc (.cells #[.int .i64 0, .int .i64 0] 66)).drewN nq) := Turned.ofBelow (below_drewN (((Below.refl _ _).alloc (Nat.le_refl _) _).alloc (by simp) _) _)
  go_wp2_with fail
  refine (plan_any p.a (1 + g * 20) d _ q _ hd hc hf hs hq).mono ?_
  rintro e w2 ⟨rfl, hw2⟩
  obtain ⟨L2, T2⟩ := h1.move (i := g * 20 + 1 + d) (by omega) q
  rw [show 1 + (g * 20 + 1 + d) = 1 + g * 20 + 1 + d by omega, hw2] at L2 T2
  have a0 : w2.cell? ⟨w.heap.size + 1, 0, none⟩ = some (.int .i64 0) := (T2.cell (b := w.heap.size + 1) (by simp) (fun e => by have := hfp _ e; omega) 0).trans (by simp [go_sem])
  have a1 : w2.cell? ⟨w.heap.size + 1, 1, none⟩ = some (.int .i64 0) := (T2.cell (b := w.heap.size + 1) (by simp) (fun e => by have := hfp _ e; omega) 1).trans (by simp [go_sem])
  have f0 : w2.frozen? ⟨w.heap.size + 1, 0, none⟩ = false := (World.frozen?_of_block (T2.block (w.heap.size + 1) (by simp) (fun e => by have := hfp _ e; omega))).trans (by simp [go_sem])
  have f1 : w2.frozen? ⟨w.heap.size + 1, 1, none⟩ = false := (World.frozen?_of_block (T2.block (w.heap.size + 1) (by simp) (fun e => by have := hfp _ e; omega))).trans (by simp [go_sem])
  have TT := T1.trans T2
  obtain ⟨L3, T3⟩ := ans_set hfp L2 TT (w.heap.size + 1) (Nat.le_succ _) (.int .i64 (moveE (S.G (g * 20 + 1 + d) + q))) (.int .i64 0)
  clear h1 hc hf T1 hw2 L2 T2 TT h
  go_wp2
  exact bodyPost_ret (v := ansV (moveE (S.G (g * 20 + 1 + d) + q)) 0) (by simp [results, Tryz.results51, go_sem, a0, a1]) rfl ⟨rfl, L3, T3⟩

set_option maxRecDepth 100000 in
set_option maxHeartbeats 2000000 in
theorem dec3 (p : Adr) (S : Led) (id q : Int) (w : World) (h : LedAt w p S) (hO : LOk S) (g c : Nat) (hg : g < 4) (hc3 : c < 3) (hq : -1000000 ≤ q ∧ q ≤ 1000000) (hfp : ∀ k, p.foot k → k < w.heap.size) :
    Calls Tryz.prog 51 #[.pointer (some ⟨p.a, 0, none⟩), cv 3 id g c 0 q 0 0] w (Decided w p (moveS S (g * 20 + 17 + c) q) (moveE (S.G (g * 20 + 17 + c) + q)) 0) := by
  have gI : (g : Int) < 4 := by omega
  have hal := h.a_lt
  have hs := hO.G (g * 20 + 17 + c) (by omega)
  go_enter Tryz.func51, Tryz.ntmps51
  go_wp2
  go_quiet (fail)
  have h1 : LedAt (((w.alloc (.cells (cc 3 id g c 0 q 0 0) 33)).alloc (.cells #[.int .i64 0, .int .i64 0] 66)).drewN nq) p S := ((h.alloc _).alloc _).below (below_drewN (Below.refl _ _) _)
  have hc : (((w.alloc (.cells (cc 3 id g c 0 q 0 0) 33)).alloc (.cells #[.int .i64 0, .int .i64 0] 66)).drewN nq).cell? ⟨p.a, 1 + g * 20 + 17 + c, none⟩ = some (.int .i64 (S.G (g * 20 + 17 + c))) := by
    have := h1.goods (g * 20 + 17 + c) (by omega)
    rwa [show 1 + (g * 20 + 17 + c) = 1 + g * 20 + 17 + c by omega] at this
  have hf := h1.free (1 + g * 20 + 17 + c)
  have T1 : Turned p.foot w (((w.alloc (.cells (cc 3 id g c 0 q 0 0) 33)).alloc (.cells #[.int .i64 0, .int .i64 0] 66)).drewN nq) := Turned.ofBelow (below_drewN (((Below.refl _ _).alloc (Nat.le_refl _) _).alloc (by simp) _) _)
  go_wp2_with fail
  refine (allot_any p.a (1 + g * 20) c _ q _ hc3 hc hf hs hq).mono ?_
  rintro e w2 ⟨rfl, hw2⟩
  obtain ⟨L2, T2⟩ := h1.move (i := g * 20 + 17 + c) (by omega) q
  rw [show 1 + (g * 20 + 17 + c) = 1 + g * 20 + 17 + c by omega, hw2] at L2 T2
  have a0 : w2.cell? ⟨w.heap.size + 1, 0, none⟩ = some (.int .i64 0) := (T2.cell (b := w.heap.size + 1) (by simp) (fun e => by have := hfp _ e; omega) 0).trans (by simp [go_sem])
  have a1 : w2.cell? ⟨w.heap.size + 1, 1, none⟩ = some (.int .i64 0) := (T2.cell (b := w.heap.size + 1) (by simp) (fun e => by have := hfp _ e; omega) 1).trans (by simp [go_sem])
  have f0 : w2.frozen? ⟨w.heap.size + 1, 0, none⟩ = false := (World.frozen?_of_block (T2.block (w.heap.size + 1) (by simp) (fun e => by have := hfp _ e; omega))).trans (by simp [go_sem])
  have f1 : w2.frozen? ⟨w.heap.size + 1, 1, none⟩ = false := (World.frozen?_of_block (T2.block (w.heap.size + 1) (by simp) (fun e => by have := hfp _ e; omega))).trans (by simp [go_sem])
  have TT := T1.trans T2
  obtain ⟨L3, T3⟩ := ans_set hfp L2 TT (w.heap.size + 1) (Nat.le_succ _) (.int .i64 (moveE (S.G (g * 20 + 17 + c) + q))) (.int .i64 0)
  clear h1 hc hf T1 hw2 L2 T2 TT h
  go_wp2
  exact bodyPost_ret (v := ansV (moveE (S.G (g * 20 + 17 + c) + q)) 0) (by simp [results, Tryz.results51, go_sem, a0, a1]) rfl ⟨rfl, L3, T3⟩

end Go.Proofs.YtdblmheoghhepaaGreatDoor

/- 'decide': promises, holds that end, ticks. -/
namespace Go.Proofs.YtdblmheoghhepaaGreatDoor
open Go.RowKit

set_option maxRecDepth 100000 in
set_option maxHeartbeats 2000000 in
theorem dec4_no (p : Adr) (S : Led) (id q t : Int) (w : World) (h : LedAt w p S) (hO : LOk S) (g c d : Nat) (hg : g < 4) (hc : c < 3) (hd : d < 16) (hm : mayE S g c d q ≠ 0) (hfp : ∀ k, p.foot k → k < w.heap.size) :
    Calls Tryz.prog 51 #[.pointer (some ⟨p.a, 0, none⟩), cv 4 id g c d q 0 t] w (Decided w p S (mayE S g c d q) 0) := by
  have gI : (g : Int) < 4 := by omega
  have hal := h.a_lt
  go_enter Tryz.func51, Tryz.ntmps51
  go_wp2
  go_quiet (fail)
  have h1 : LedAt (((w.alloc (.cells (cc 4 id g c d q 0 t) 33)).alloc (.cells #[.int .i64 0, .int .i64 0] 66)).drewN nq) p S := ((h.alloc _).alloc _).below (below_drewN (Below.refl _ _) _)
  have B1 : Below w.heap.size w (((w.alloc (.cells (cc 4 id g c d q 0 t) 33)).alloc (.cells #[.int .i64 0, .int .i64 0] 66)).drewN nq) := below_drewN (((Below.refl _ _).alloc (Nat.le_refl _) _).alloc (by simp) _) _
  go_wp2_with fail
  refine (promise_no p S 4 id q 0 t _ h1 hO g c d hg hc hd hm).mono ?_
  rintro e w2 ⟨rfl, hb2⟩
  have T2 : Turned p.foot (((w.alloc (.cells (cc 4 id g c d q 0 t) 33)).alloc (.cells #[.int .i64 0, .int .i64 0] 66)).drewN nq) w2 := Turned.ofBelow hb2
  have L2 := h1.below hb2
  have TT := (Turned.ofBelow (F := p.foot) B1).trans T2
  have a0 : w2.cell? ⟨w.heap.size + 1, 0, none⟩ = some (.int .i64 0) := (T2.cell (b := w.heap.size + 1) (by simp) (fun e => by have := hfp _ e; omega) 0).trans (by simp [go_sem])
  have a1 : w2.cell? ⟨w.heap.size + 1, 1, none⟩ = some (.int .i64 0) := (T2.cell (b := w.heap.size + 1) (by simp) (fun e => by have := hfp _ e; omega) 1).trans (by simp [go_sem])
  have f0 : w2.frozen? ⟨w.heap.size + 1, 0, none⟩ = false := (World.frozen?_of_block (T2.block (w.heap.size + 1) (by simp) (fun e => by have := hfp _ e; omega))).trans (by simp [go_sem])
  have f1 : w2.frozen? ⟨w.heap.size + 1, 1, none⟩ = false := (World.frozen?_of_block (T2.block (w.heap.size + 1) (by simp) (fun e => by have := hfp _ e; omega))).trans (by simp [go_sem])
  clear T2 hb2
  obtain ⟨L3, T3⟩ := ans_set hfp L2 TT (w.heap.size + 1) (Nat.le_succ _) (.int .i64 (mayE S g c d q)) (.int .i64 (0))
  clear h1 B1 L2 TT h
  go_wp2
  exact bodyPost_ret (v := ansV (mayE S g c d q) (0)) (by simp [results, Tryz.results51, go_sem, a0, a1]) rfl ⟨rfl, L3, T3⟩

set_option maxRecDepth 100000 in
set_option maxHeartbeats 2000000 in
theorem dec4_yes (p : Adr) (S : Led) (id q t : Int) (w : World) (h : LedAt w p S) (hO : LOk S) (g c d : Nat) (hg : g < 4) (hc : c < 3) (hd : d < 16) (ht : 0 ≤ t ∧ t ≤ 1000) (hm : mayE S g c d q = 0) (hfp : ∀ k, p.foot k → k < w.heap.size) :
    Calls Tryz.prog 51 #[.pointer (some ⟨p.a, 0, none⟩), cv 4 id g c d q 0 t] w (Decided w p { S with H := S.H ++ [newH S g c d q t] } 0 ((S.H.length : Int) + 1)) := by
  have gI : (g : Int) < 4 := by omega
  have hal := h.a_lt
  go_enter Tryz.func51, Tryz.ntmps51
  go_wp2
  go_quiet (fail)
  have h1 : LedAt (((w.alloc (.cells (cc 4 id g c d q 0 t) 33)).alloc (.cells #[.int .i64 0, .int .i64 0] 66)).drewN nq) p S := ((h.alloc _).alloc _).below (below_drewN (Below.refl _ _) _)
  have B1 : Below w.heap.size w (((w.alloc (.cells (cc 4 id g c d q 0 t) 33)).alloc (.cells #[.int .i64 0, .int .i64 0] 66)).drewN nq) := below_drewN (((Below.refl _ _).alloc (Nat.le_refl _) _).alloc (by simp) _) _
  go_wp2_with fail
  refine (promise_yes p S 4 id q 0 t _ h1 hO g c d hg hc hd ht hm).mono ?_
  rintro e w2 ⟨rfl, L2, hT2⟩
  have T2 : Turned p.foot (((w.alloc (.cells (cc 4 id g c d q 0 t) 33)).alloc (.cells #[.int .i64 0, .int .i64 0] 66)).drewN nq) w2 := hT2.mono (fun k _ e => by rcases e with e | e; exact Or.inr (Or.inr (Or.inl e)); exact Or.inr (Or.inr (Or.inr (Or.inl e))))
  have TT := (Turned.ofBelow (F := p.foot) B1).trans T2
  have a0 : w2.cell? ⟨w.heap.size + 1, 0, none⟩ = some (.int .i64 0) := (T2.cell (b := w.heap.size + 1) (by simp) (fun e => by have := hfp _ e; omega) 0).trans (by simp [go_sem])
  have a1 : w2.cell? ⟨w.heap.size + 1, 1, none⟩ = some (.int .i64 0) := (T2.cell (b := w.heap.size + 1) (by simp) (fun e => by have := hfp _ e; omega) 1).trans (by simp [go_sem])
  have f0 : w2.frozen? ⟨w.heap.size + 1, 0, none⟩ = false := (World.frozen?_of_block (T2.block (w.heap.size + 1) (by simp) (fun e => by have := hfp _ e; omega))).trans (by simp [go_sem])
  have f1 : w2.frozen? ⟨w.heap.size + 1, 1, none⟩ = false := (World.frozen?_of_block (T2.block (w.heap.size + 1) (by simp) (fun e => by have := hfp _ e; omega))).trans (by simp [go_sem])
  clear T2 hT2
  obtain ⟨L3, T3⟩ := ans_set hfp L2 TT (w.heap.size + 1) (Nat.le_succ _) (.int .i64 (0)) (.int .i64 ((S.H.length : Int) + 1))
  clear h1 B1 L2 TT h
  go_wp2
  exact bodyPost_ret (v := ansV (0) ((S.H.length : Int) + 1)) (by simp [results, Tryz.results51, go_sem, a0, a1]) rfl ⟨rfl, L3, T3⟩

set_option maxRecDepth 100000 in
set_option maxHeartbeats 2000000 in
theorem dec5_no (p : Adr) (S : Led) (id o : Int) (w : World) (h : LedAt w p S) (ho : I64 o) (hm : openOf S.H o = none) (hfp : ∀ k, p.foot k → k < w.heap.size) :
    Calls Tryz.prog 51 #[.pointer (some ⟨p.a, 0, none⟩), cv 5 id 0 0 0 0 o 0] w (Decided w p S 5 0) := by
  have hal := h.a_lt
  have cbw := h.cb
  have ne1 : ¬ w.heap.size + 1 = p.a := by omega
  have ne2 : ¬ p.a = w.heap.size + 1 := by omega
  go_enter Tryz.func51, Tryz.ntmps51
  go_wp2
  go_quiet (fail)
  have h1 : LedAt (((w.alloc (.cells (cc 5 id 0 0 0 0 o 0) 33)).alloc (.cells #[.int .i64 0, .int .i64 0] 66)).drewN nq) p S := ((h.alloc _).alloc _).below (below_drewN (Below.refl _ _) _)
  have B1 : Below w.heap.size w (((w.alloc (.cells (cc 5 id 0 0 0 0 o 0) 33)).alloc (.cells #[.int .i64 0, .int .i64 0] 66)).drewN nq) := below_drewN (((Below.refl _ _).alloc (Nat.le_refl _) _).alloc (by simp) _) _
  have cb := h1.cb
  have h1d := h1.drew
  go_wp2
  go_region_held3 (fun w' => w'.cell? ⟨p.a, 81, none⟩ = some (.pointer (some ⟨p.bk, 0, none⟩)) ∧ w'.cell? ⟨w.heap.size, 6, none⟩ = some (.int .i64 o)) (first | (go_keep; done) | (simp; done)) (first | (go_at_call 78; refine (close_none _ h1d.book o 2 ho hm).mono ?_; rintro e w2 ⟨rfl, hb2⟩; have y1 : w2.cell? ⟨p.a, 81, none⟩ = some (.pointer (some ⟨p.bk, 0, none⟩)) := (h1d.below hb2).cb; have y6 : w2.cell? ⟨w.heap.size, 6, none⟩ = some (.int .i64 o) := (hb2.cell (p := ⟨w.heap.size, 6, none⟩) (by simp; omega)).trans (by simp [go_sem]); have a0 : w2.cell? ⟨w.heap.size + 1, 0, none⟩ = some (.int .i64 0) := (hb2.cell (p := ⟨w.heap.size + 1, 0, none⟩) (by simp)).trans (by simp [go_sem]); have a1 : w2.cell? ⟨w.heap.size + 1, 1, none⟩ = some (.int .i64 0) := (hb2.cell (p := ⟨w.heap.size + 1, 1, none⟩) (by simp)).trans (by simp [go_sem]); have f0 : w2.frozen? ⟨w.heap.size + 1, 0, none⟩ = false := (hb2.frozen (p := ⟨w.heap.size + 1, 0, none⟩) (by simp)).trans (by simp [go_sem]); have f1 : w2.frozen? ⟨w.heap.size + 1, 1, none⟩ = false := (hb2.frozen (p := ⟨w.heap.size + 1, 1, none⟩) (by simp)).trans (by simp [go_sem])))
  have L2 := h1d.below hb2
  have TT := (Turned.ofBelow (F := p.foot) B1).drew.trans (Turned.ofBelow hb2)
  clear h1d hb2 cb
  obtain ⟨L3, T3⟩ := ans_set hfp L2 TT (w.heap.size + 1) (Nat.le_succ _) (.int .i64 (5)) (.int .i64 (0))
  clear h1 B1 L2 TT h
  go_wp2
  exact bodyPost_ret (v := ansV (5) (0)) (by simp [results, Tryz.results51, go_sem, a0, a1]) rfl ⟨rfl, L3, T3⟩

set_option maxRecDepth 100000 in
set_option maxHeartbeats 2000000 in
theorem dec5_yes (p : Adr) (S : Led) (id o : Int) (w : World) (h : LedAt w p S) (n : Nat) (ho : o = (n : Int) + 1) (x : Nat → Int) (hx : S.H[n]? = some x) (h7 : x 7 = 1) (hfp : ∀ k, p.foot k → k < w.heap.size) :
    Calls Tryz.prog 51 #[.pointer (some ⟨p.a, 0, none⟩), cv 5 id 0 0 0 0 o 0] w (Decided w p { S with H := closeAt S.H n 2 } 0 0) := by
  have hal := h.a_lt
  have cbw := h.cb
  have ne1 : ¬ w.heap.size + 1 = p.a := by omega
  have ne2 : ¬ p.a = w.heap.size + 1 := by omega
  have HO : Hid (o = (n : Int) + 1) := ho
  have H7 : Hid (x 7 = 1) := h7
  have HX : Hid (S.H[n]? = some x) := hx
  obtain ⟨n1, n2, n3⟩ := h.a_ne
  have hmo := h.book.mo_lt
  have hmc := h.book.mc_lt
  clear ho h7 hx
  go_enter Tryz.func51, Tryz.ntmps51
  go_wp2
  go_quiet (fail)
  have h1 : LedAt (((w.alloc (.cells (cc 5 id 0 0 0 0 o 0) 33)).alloc (.cells #[.int .i64 0, .int .i64 0] 66)).drewN nq) p S := ((h.alloc _).alloc _).below (below_drewN (Below.refl _ _) _)
  have B1 : Below w.heap.size w (((w.alloc (.cells (cc 5 id 0 0 0 0 o 0) 33)).alloc (.cells #[.int .i64 0, .int .i64 0] 66)).drewN nq) := below_drewN (((Below.refl _ _).alloc (Nat.le_refl _) _).alloc (by simp) _) _
  have cb := h1.cb
  have h1d := h1.drew
  go_wp2
  go_region_held3 (fun w' => w'.cell? ⟨p.a, 81, none⟩ = some (.pointer (some ⟨p.bk, 0, none⟩)) ∧ w'.cell? ⟨w.heap.size, 6, none⟩ = some (.int .i64 o)) (first | (go_keep; done) | (simp; done)) (first | (go_at_call 78; refine (close_some _ h1d.book n o 2 HO.out (by omega) x HX.out H7.out).mono ?_; rintro e w2 ⟨rfl, hB2, hT2, _⟩; have y1 : w2.cell? ⟨p.a, 81, none⟩ = some (.pointer (some ⟨p.bk, 0, none⟩)) := (hT2.cell (b := p.a) (by simp; omega) (by omega) 81).trans cb; have y6 : w2.cell? ⟨w.heap.size, 6, none⟩ = some (.int .i64 o) := (hT2.cell (b := w.heap.size) (by simp; omega) (by omega) 6).trans (by simp [go_sem]); have a0 : w2.cell? ⟨w.heap.size + 1, 0, none⟩ = some (.int .i64 0) := (hT2.cell (b := w.heap.size + 1) (by simp) (by omega) 0).trans (by simp [go_sem]); have a1 : w2.cell? ⟨w.heap.size + 1, 1, none⟩ = some (.int .i64 0) := (hT2.cell (b := w.heap.size + 1) (by simp) (by omega) 1).trans (by simp [go_sem]); have f0 : w2.frozen? ⟨w.heap.size + 1, 0, none⟩ = false := (World.frozen?_of_block (hT2.block (w.heap.size + 1) (by simp) (by omega))).trans (by simp [go_sem]); have f1 : w2.frozen? ⟨w.heap.size + 1, 1, none⟩ = false := (World.frozen?_of_block (hT2.block (w.heap.size + 1) (by simp) (by omega))).trans (by simp [go_sem])))
  have L2 := h1d.rebook hB2 hT2
  have TT : Turned p.foot w w2 := (Turned.ofBelow (F := p.foot) B1).drew.trans (hT2.mono (fun k _ e => by rcases e with e | e; exact Or.inr (Or.inr (Or.inl e)); exact Or.inr (Or.inr (Or.inr (Or.inl e)))))
  clear h1d hB2 hT2 cb
  obtain ⟨L3, T3⟩ := ans_set hfp L2 TT (w.heap.size + 1) (Nat.le_succ _) (.int .i64 (0)) (.int .i64 (0))
  clear h1 B1 L2 TT h
  go_wp2
  exact bodyPost_ret (v := ansV (0) (0)) (by simp [results, Tryz.results51, go_sem, a0, a1]) rfl ⟨rfl, L3, T3⟩

set_option maxRecDepth 100000 in
set_option maxHeartbeats 2000000 in
theorem dec6_no (p : Adr) (S : Led) (id o : Int) (w : World) (h : LedAt w p S) (ho : I64 o) (hm : openOf S.H o = none) (hfp : ∀ k, p.foot k → k < w.heap.size) :
    Calls Tryz.prog 51 #[.pointer (some ⟨p.a, 0, none⟩), cv 6 id 0 0 0 0 o 0] w (Decided w p S 5 0) := by
  have hal := h.a_lt
  have cbw := h.cb
  have ne1 : ¬ w.heap.size + 1 = p.a := by omega
  have ne2 : ¬ p.a = w.heap.size + 1 := by omega
  go_enter Tryz.func51, Tryz.ntmps51
  go_wp2
  go_quiet (fail)
  have h1 : LedAt (((w.alloc (.cells (cc 6 id 0 0 0 0 o 0) 33)).alloc (.cells #[.int .i64 0, .int .i64 0] 66)).drewN nq) p S := ((h.alloc _).alloc _).below (below_drewN (Below.refl _ _) _)
  have B1 : Below w.heap.size w (((w.alloc (.cells (cc 6 id 0 0 0 0 o 0) 33)).alloc (.cells #[.int .i64 0, .int .i64 0] 66)).drewN nq) := below_drewN (((Below.refl _ _).alloc (Nat.le_refl _) _).alloc (by simp) _) _
  have cb := h1.cb
  have h1d := h1.drew
  go_wp2
  go_region_held3 (fun w' => w'.cell? ⟨p.a, 81, none⟩ = some (.pointer (some ⟨p.bk, 0, none⟩)) ∧ w'.cell? ⟨w.heap.size, 6, none⟩ = some (.int .i64 o)) (first | (go_keep; done) | (simp; done)) (first | (go_at_call 78; refine (close_none _ h1d.book o 3 ho hm).mono ?_; rintro e w2 ⟨rfl, hb2⟩; have y1 : w2.cell? ⟨p.a, 81, none⟩ = some (.pointer (some ⟨p.bk, 0, none⟩)) := (h1d.below hb2).cb; have y6 : w2.cell? ⟨w.heap.size, 6, none⟩ = some (.int .i64 o) := (hb2.cell (p := ⟨w.heap.size, 6, none⟩) (by simp; omega)).trans (by simp [go_sem]); have a0 : w2.cell? ⟨w.heap.size + 1, 0, none⟩ = some (.int .i64 0) := (hb2.cell (p := ⟨w.heap.size + 1, 0, none⟩) (by simp)).trans (by simp [go_sem]); have a1 : w2.cell? ⟨w.heap.size + 1, 1, none⟩ = some (.int .i64 0) := (hb2.cell (p := ⟨w.heap.size + 1, 1, none⟩) (by simp)).trans (by simp [go_sem]); have f0 : w2.frozen? ⟨w.heap.size + 1, 0, none⟩ = false := (hb2.frozen (p := ⟨w.heap.size + 1, 0, none⟩) (by simp)).trans (by simp [go_sem]); have f1 : w2.frozen? ⟨w.heap.size + 1, 1, none⟩ = false := (hb2.frozen (p := ⟨w.heap.size + 1, 1, none⟩) (by simp)).trans (by simp [go_sem])))
  have L2 := h1d.below hb2
  have TT := (Turned.ofBelow (F := p.foot) B1).drew.trans (Turned.ofBelow hb2)
  clear h1d hb2 cb
  obtain ⟨L3, T3⟩ := ans_set hfp L2 TT (w.heap.size + 1) (Nat.le_succ _) (.int .i64 (5)) (.int .i64 (0))
  clear h1 B1 L2 TT h
  go_wp2
  exact bodyPost_ret (v := ansV (5) (0)) (by simp [results, Tryz.results51, go_sem, a0, a1]) rfl ⟨rfl, L3, T3⟩

set_option maxRecDepth 100000 in
set_option maxHeartbeats 2000000 in
theorem dec6_yes (p : Adr) (S : Led) (id o : Int) (w : World) (h : LedAt w p S) (n : Nat) (ho : o = (n : Int) + 1) (x : Nat → Int) (hx : S.H[n]? = some x) (h7 : x 7 = 1) (hfp : ∀ k, p.foot k → k < w.heap.size) :
    Calls Tryz.prog 51 #[.pointer (some ⟨p.a, 0, none⟩), cv 6 id 0 0 0 0 o 0] w (Decided w p { S with H := closeAt S.H n 3 } 0 0) := by
  have hal := h.a_lt
  have cbw := h.cb
  have ne1 : ¬ w.heap.size + 1 = p.a := by omega
  have ne2 : ¬ p.a = w.heap.size + 1 := by omega
  have HO : Hid (o = (n : Int) + 1) := ho
  have H7 : Hid (x 7 = 1) := h7
  have HX : Hid (S.H[n]? = some x) := hx
  obtain ⟨n1, n2, n3⟩ := h.a_ne
  have hmo := h.book.mo_lt
  have hmc := h.book.mc_lt
  clear ho h7 hx
  go_enter Tryz.func51, Tryz.ntmps51
  go_wp2
  go_quiet (fail)
  have h1 : LedAt (((w.alloc (.cells (cc 6 id 0 0 0 0 o 0) 33)).alloc (.cells #[.int .i64 0, .int .i64 0] 66)).drewN nq) p S := ((h.alloc _).alloc _).below (below_drewN (Below.refl _ _) _)
  have B1 : Below w.heap.size w (((w.alloc (.cells (cc 6 id 0 0 0 0 o 0) 33)).alloc (.cells #[.int .i64 0, .int .i64 0] 66)).drewN nq) := below_drewN (((Below.refl _ _).alloc (Nat.le_refl _) _).alloc (by simp) _) _
  have cb := h1.cb
  have h1d := h1.drew
  go_wp2
  go_region_held3 (fun w' => w'.cell? ⟨p.a, 81, none⟩ = some (.pointer (some ⟨p.bk, 0, none⟩)) ∧ w'.cell? ⟨w.heap.size, 6, none⟩ = some (.int .i64 o)) (first | (go_keep; done) | (simp; done)) (first | (go_at_call 78; refine (close_some _ h1d.book n o 3 HO.out (by omega) x HX.out H7.out).mono ?_; rintro e w2 ⟨rfl, hB2, hT2, _⟩; have y1 : w2.cell? ⟨p.a, 81, none⟩ = some (.pointer (some ⟨p.bk, 0, none⟩)) := (hT2.cell (b := p.a) (by simp; omega) (by omega) 81).trans cb; have y6 : w2.cell? ⟨w.heap.size, 6, none⟩ = some (.int .i64 o) := (hT2.cell (b := w.heap.size) (by simp; omega) (by omega) 6).trans (by simp [go_sem]); have a0 : w2.cell? ⟨w.heap.size + 1, 0, none⟩ = some (.int .i64 0) := (hT2.cell (b := w.heap.size + 1) (by simp) (by omega) 0).trans (by simp [go_sem]); have a1 : w2.cell? ⟨w.heap.size + 1, 1, none⟩ = some (.int .i64 0) := (hT2.cell (b := w.heap.size + 1) (by simp) (by omega) 1).trans (by simp [go_sem]); have f0 : w2.frozen? ⟨w.heap.size + 1, 0, none⟩ = false := (World.frozen?_of_block (hT2.block (w.heap.size + 1) (by simp) (by omega))).trans (by simp [go_sem]); have f1 : w2.frozen? ⟨w.heap.size + 1, 1, none⟩ = false := (World.frozen?_of_block (hT2.block (w.heap.size + 1) (by simp) (by omega))).trans (by simp [go_sem])))
  have L2 := h1d.rebook hB2 hT2
  have TT : Turned p.foot w w2 := (Turned.ofBelow (F := p.foot) B1).drew.trans (hT2.mono (fun k _ e => by rcases e with e | e; exact Or.inr (Or.inr (Or.inl e)); exact Or.inr (Or.inr (Or.inr (Or.inl e)))))
  clear h1d hB2 hT2 cb
  obtain ⟨L3, T3⟩ := ans_set hfp L2 TT (w.heap.size + 1) (Nat.le_succ _) (.int .i64 (0)) (.int .i64 (0))
  clear h1 B1 L2 TT h
  go_wp2
  exact bodyPost_ret (v := ansV (0) (0)) (by simp [results, Tryz.results51, go_sem, a0, a1]) rfl ⟨rfl, L3, T3⟩

set_option maxRecDepth 100000 in
set_option maxHeartbeats 2000000 in
theorem dec8_no (p : Adr) (S : Led) (id t : Int) (w : World) (h : LedAt w p S) (hO : LOk S) (ht : 0 ≤ t ∧ t ≤ 1000) (hx : S.now + t > 1000000) (hfp : ∀ k, p.foot k → k < w.heap.size) :
    Calls Tryz.prog 51 #[.pointer (some ⟨p.a, 0, none⟩), cv 8 id 0 0 0 0 0 t] w (Decided w p S 7 0) := by
  have hal := h.a_lt
  go_enter Tryz.func51, Tryz.ntmps51
  go_wp2
  go_quiet (fail)
  have h1 : LedAt (((w.alloc (.cells (cc 8 id 0 0 0 0 0 t) 33)).alloc (.cells #[.int .i64 0, .int .i64 0] 66)).drewN nq) p S := ((h.alloc _).alloc _).below (below_drewN (Below.refl _ _) _)
  have B1 : Below w.heap.size w (((w.alloc (.cells (cc 8 id 0 0 0 0 0 t) 33)).alloc (.cells #[.int .i64 0, .int .i64 0] 66)).drewN nq) := below_drewN (((Below.refl _ _).alloc (Nat.le_refl _) _).alloc (by simp) _) _
  go_wp2_with fail
  refine (tick_no p S t _ h1 hO ht hx).mono ?_
  rintro e w2 ⟨rfl, hw2⟩
  have T2 : Turned p.foot (((w.alloc (.cells (cc 8 id 0 0 0 0 0 t) 33)).alloc (.cells #[.int .i64 0, .int .i64 0] 66)).drewN nq) w2 := hw2 ▸ Turned.refl _ _
  have L2 : LedAt w2 p S := hw2 ▸ h1
  have TT := (Turned.ofBelow (F := p.foot) B1).trans T2
  have a0 : w2.cell? ⟨w.heap.size + 1, 0, none⟩ = some (.int .i64 0) := (T2.cell (b := w.heap.size + 1) (by simp) (fun e => by have := hfp _ e; omega) 0).trans (by simp [go_sem])
  have a1 : w2.cell? ⟨w.heap.size + 1, 1, none⟩ = some (.int .i64 0) := (T2.cell (b := w.heap.size + 1) (by simp) (fun e => by have := hfp _ e; omega) 1).trans (by simp [go_sem])
  have f0 : w2.frozen? ⟨w.heap.size + 1, 0, none⟩ = false := (World.frozen?_of_block (T2.block (w.heap.size + 1) (by simp) (fun e => by have := hfp _ e; omega))).trans (by simp [go_sem])
  have f1 : w2.frozen? ⟨w.heap.size + 1, 1, none⟩ = false := (World.frozen?_of_block (T2.block (w.heap.size + 1) (by simp) (fun e => by have := hfp _ e; omega))).trans (by simp [go_sem])
  clear T2 hw2
  obtain ⟨L3, T3⟩ := ans_set hfp L2 TT (w.heap.size + 1) (Nat.le_succ _) (.int .i64 (7)) (.int .i64 (0))
  clear h1 B1 L2 TT h
  go_wp2
  exact bodyPost_ret (v := ansV (7) (0)) (by simp [results, Tryz.results51, go_sem, a0, a1]) rfl ⟨rfl, L3, T3⟩

set_option maxRecDepth 100000 in
set_option maxHeartbeats 2000000 in
theorem dec8_yes (p : Adr) (S : Led) (id t : Int) (w : World) (h : LedAt w p S) (hO : LOk S) (ht : 0 ≤ t ∧ t ≤ 1000) (hx : ¬ S.now + t > 1000000) (hfp : ∀ k, p.foot k → k < w.heap.size) :
    Calls Tryz.prog 51 #[.pointer (some ⟨p.a, 0, none⟩), cv 8 id 0 0 0 0 0 t] w (Decided w p { S with now := S.now + t, H := expL (S.now + t) S.H } 0 0) := by
  have hal := h.a_lt
  go_enter Tryz.func51, Tryz.ntmps51
  go_wp2
  go_quiet (fail)
  have h1 : LedAt (((w.alloc (.cells (cc 8 id 0 0 0 0 0 t) 33)).alloc (.cells #[.int .i64 0, .int .i64 0] 66)).drewN nq) p S := ((h.alloc _).alloc _).below (below_drewN (Below.refl _ _) _)
  have B1 : Below w.heap.size w (((w.alloc (.cells (cc 8 id 0 0 0 0 0 t) 33)).alloc (.cells #[.int .i64 0, .int .i64 0] 66)).drewN nq) := below_drewN (((Below.refl _ _).alloc (Nat.le_refl _) _).alloc (by simp) _) _
  go_wp2_with fail
  refine (tick_yes p S t _ h1 hO ht (by omega)).mono ?_
  rintro e w2 ⟨rfl, L2, T2⟩
  have TT := (Turned.ofBelow (F := p.foot) B1).trans T2
  have a0 : w2.cell? ⟨w.heap.size + 1, 0, none⟩ = some (.int .i64 0) := (T2.cell (b := w.heap.size + 1) (by simp) (fun e => by have := hfp _ e; omega) 0).trans (by simp [go_sem])
  have a1 : w2.cell? ⟨w.heap.size + 1, 1, none⟩ = some (.int .i64 0) := (T2.cell (b := w.heap.size + 1) (by simp) (fun e => by have := hfp _ e; omega) 1).trans (by simp [go_sem])
  have f0 : w2.frozen? ⟨w.heap.size + 1, 0, none⟩ = false := (World.frozen?_of_block (T2.block (w.heap.size + 1) (by simp) (fun e => by have := hfp _ e; omega))).trans (by simp [go_sem])
  have f1 : w2.frozen? ⟨w.heap.size + 1, 1, none⟩ = false := (World.frozen?_of_block (T2.block (w.heap.size + 1) (by simp) (fun e => by have := hfp _ e; omega))).trans (by simp [go_sem])
  clear T2
  obtain ⟨L3, T3⟩ := ans_set hfp L2 TT (w.heap.size + 1) (Nat.le_succ _) (.int .i64 (0)) (.int .i64 (0))
  clear h1 B1 L2 TT h
  go_wp2
  exact bodyPost_ret (v := ansV (0) (0)) (by simp [results, Tryz.results51, go_sem, a0, a1]) rfl ⟨rfl, L3, T3⟩

end Go.Proofs.YtdblmheoghhepaaGreatDoor
