/- The caller's book: 'takes' where a number goes on. -/
import Derived.Test.YtdblmheoghhepaaDoorKLedgerAll
import Derived.BigRegion
import Derived.Test.YtdblmheoghhepaaDoorKPlain
import Derived.Test.YtdblmheoghhepaaDoorKCloseAll
namespace Go.Proofs.YtdblmheoghhepaaDoor
open Go.RowKit

/-- The caller's book at block b: its ledger, now, eighty numbers, the holds. -/
structure KAt (w : World) (b : Nat) (l : Value) (now : Int) (P : Nat → Int) (hv : Value) (H : List (Nat → Int)) : Prop where
  c0 : w.cell? ⟨b, 0, none⟩ = some l
  c1 : w.cell? ⟨b, 1, none⟩ = some (.int .i64 now)
  nums : NumsAt w b 2 80 P
  ch : w.cell? ⟨b, 82, none⟩ = some hv
  free : Free w b
  rows : w.ownsRow 0 61 8 hv H.length (H.flatMap hc)
  apart : ∀ k, hv.ownBlock = some k → k ≠ b

/-- The blocks of a book. -/
def KFoot (b : Nat) (hv : Value) (k : Nat) : Prop := k = b ∨ hv.ownBlock = some k
theorem KAt.b_lt {w : World} {b : Nat} {l : Value} {now : Int} {P : Nat → Int} {hv : Value} {H : List (Nat → Int)} (h : KAt w b l now P hv H) : b < w.heap.size := World.block_lt_of_cell? w ⟨b, 0, none⟩ h.c0
theorem KAt.row_lt {w : World} {b : Nat} {l : Value} {now : Int} {P : Nat → Int} {hv : Value} {H : List (Nat → Int)} (h : KAt w b l now P hv H) {k : Nat} (hk : hv.ownBlock = some k) : k < w.heap.size := by
  rcases h.rows.2 with ⟨e, _⟩ | ⟨g, cap, cur, e, hg, hh, _⟩
  · rw [e] at hk; cases hk
  · rw [e] at hk
    simp [Value.ownBlock] at hk
    subst hk
    exact (Array.getElem?_eq_some_iff.1 hh).1
theorem KAt.same {w w' : World} {b : Nat} {l : Value} {now : Int} {P : Nat → Int} {hv : Value} {H : List (Nat → Int)} (h : KAt w b l now P hv H) (e : ∀ k, KFoot b hv k → w'.heap[k]? = w.heap[k]?) : KAt w' b l now P hv H := by
  have eb := e b (Or.inl rfl)
  exact ⟨(World.cell?_of_block (a := ⟨b, 0, none⟩) eb).trans h.c0, (World.cell?_of_block (a := ⟨b, 1, none⟩) eb).trans h.c1, h.nums.same eb, (World.cell?_of_block (a := ⟨b, 82, none⟩) eb).trans h.ch,
    fun j => (World.frozen?_of_block (a := ⟨b, j, none⟩) eb).trans (h.free j), own_same h.rows (fun k hk => e k (Or.inr hk)), h.apart⟩
theorem KAt.below {w w' : World} {b : Nat} {l : Value} {now : Int} {P : Nat → Int} {hv : Value} {H : List (Nat → Int)} (h : KAt w b l now P hv H) (hb : Below w.heap.size w w') : KAt w' b l now P hv H :=
  h.same fun k hk => by
    rcases hk with rfl | hk
    · exact hb.block _ h.b_lt
    · exact hb.block _ (h.row_lt hk)
theorem KAt.setN {w : World} {b : Nat} {l : Value} {now : Int} {P : Nat → Int} {hv : Value} {H : List (Nat → Int)} (h : KAt w b l now P hv H) {i : Nat} (hi : i < 80) (x : Int) : KAt (w.setCell ⟨b, 2 + i, none⟩ (.int .i64 x)) b l now (updG P i x) hv H := by
  refine ⟨?_, ?_, nums_upd h.nums hi x, ?_, fun j => by rw [World.frozen?_setCell]; exact h.free j, own_same h.rows (fun k hk => Below.heap_setCell _ _ _ _ (h.apart k hk)), h.apart⟩
  · rw [World.cell?_setCell_other _ _ _ _ (off_ne (by omega))]; exact h.c0
  · rw [World.cell?_setCell_other _ _ _ _ (off_ne (by omega))]; exact h.c1
  · rw [World.cell?_setCell_other _ _ _ _ (off_ne (by omega))]; exact h.ch

set_option maxRecDepth 100000 in
set_option maxHeartbeats 1000000 in
theorem takes_err (b : Nat) (f : Nat → Int) (E : Int) (w : World) (hE : E ≠ 0) : Calls Tryd.prog 18 #[.pointer (some ⟨b, 0, none⟩), cmdV f, ansV E 0] w fun e w' => e = .returned (.bool true) ∧ Below w.heap.size w w' := by
  have hE' : (E == 0) = false := by simpa using hE
  go_enter Tryd.func18, Tryd.ntmps18
  go_wp2
  go_ret
  exact ⟨rfl, ((Below.refl _ _).alloc (Nat.le_refl _) _).alloc (by simp) _⟩

set_option maxRecDepth 100000 in
set_option maxHeartbeats 2000000 in
theorem takes1 (b : Nat) (l : Value) (now : Int) (P : Nat → Int) (hv : Value) (H : List (Nat → Int)) (id q : Int) (g : Nat) (w : World) (h : KAt w b l now P hv H) (hg : g < 4) (hP : -1000000000 ≤ P (g) ∧ P (g) ≤ 1000000000) (hq : -1000000 ≤ q ∧ q ≤ 1000000) :
    Calls Tryd.prog 18 #[.pointer (some ⟨b, 0, none⟩), cv 1 id g 0 0 q 0 0, ansV 0 0] w fun e w' => e = .returned (.bool true) ∧ KAt w' b l now (updG P (g) (P (g) + q)) hv H ∧ Turned (KFoot b hv) w w' := by
  have gI : (g : Int) < 4 := by omega
  have hbl := h.b_lt
  have c2 : w.cell? ⟨b, 2 + g, none⟩ = some (.int .i64 (P (g))) := by
    have := h.nums (g) (by omega)
    rwa [show 2 + (g) = 2 + g by omega] at this
  have f2 := h.free (2 + g)
  have hW : IntKind.i64.wrap (P (g) + q) = P (g) + q := w64i _ (by omega)
  have K1 := h.setN (i := g) (by omega) (P (g) + q)
  rw [show 2 + (g) = 2 + g by omega] at K1
  have T1 : Turned (KFoot b hv) w (w.setCell ⟨b, 2 + g, none⟩ (.int .i64 (P (g) + q))) := (Turned.refl _ w).setCell (Or.inl (Or.inl rfl)) _
  go_enter Tryd.func18, Tryd.ntmps18
  go_wp2
  go_region
  go_wp2
  go_ret
  exact ⟨rfl, K1.below (((Below.refl _ _).alloc (Nat.le_refl _) _).alloc (by simp) _).drew, ((T1.alloc _).alloc _).drew⟩

set_option maxRecDepth 100000 in
set_option maxHeartbeats 2000000 in
theorem takes7 (b : Nat) (l : Value) (now : Int) (P : Nat → Int) (hv : Value) (H : List (Nat → Int)) (id q : Int) (g : Nat) (w : World) (h : KAt w b l now P hv H) (hg : g < 4) (hP : -1000000000 ≤ P (g) ∧ P (g) ≤ 1000000000) (hq : -1000000 ≤ q ∧ q ≤ 1000000) :
    Calls Tryd.prog 18 #[.pointer (some ⟨b, 0, none⟩), cv 7 id g 0 0 q 0 0, ansV 0 0] w fun e w' => e = .returned (.bool true) ∧ KAt w' b l now (updG P (g) (P (g) + q)) hv H ∧ Turned (KFoot b hv) w w' := by
  have gI : (g : Int) < 4 := by omega
  have hbl := h.b_lt
  have c2 : w.cell? ⟨b, 2 + g, none⟩ = some (.int .i64 (P (g))) := by
    have := h.nums (g) (by omega)
    rwa [show 2 + (g) = 2 + g by omega] at this
  have f2 := h.free (2 + g)
  have hW : IntKind.i64.wrap (P (g) + q) = P (g) + q := w64i _ (by omega)
  have K1 := h.setN (i := g) (by omega) (P (g) + q)
  rw [show 2 + (g) = 2 + g by omega] at K1
  have T1 : Turned (KFoot b hv) w (w.setCell ⟨b, 2 + g, none⟩ (.int .i64 (P (g) + q))) := (Turned.refl _ w).setCell (Or.inl (Or.inl rfl)) _
  go_enter Tryd.func18, Tryd.ntmps18
  go_wp2
  go_region
  go_wp2
  go_ret
  exact ⟨rfl, K1.below (((Below.refl _ _).alloc (Nat.le_refl _) _).alloc (by simp) _).drew, ((T1.alloc _).alloc _).drew⟩

set_option maxRecDepth 100000 in
set_option maxHeartbeats 2000000 in
theorem takes2 (b : Nat) (l : Value) (now : Int) (P : Nat → Int) (hv : Value) (H : List (Nat → Int)) (id q : Int) (g d : Nat) (w : World) (h : KAt w b l now P hv H) (hg : g < 4) (hd : d < 16) (hP : -1000000000 ≤ P (4 + g * 16 + d) ∧ P (4 + g * 16 + d) ≤ 1000000000) (hq : -1000000 ≤ q ∧ q ≤ 1000000) :
    Calls Tryd.prog 18 #[.pointer (some ⟨b, 0, none⟩), cv 2 id g 0 d q 0 0, ansV 0 0] w fun e w' => e = .returned (.bool true) ∧ KAt w' b l now (updG P (4 + g * 16 + d) (P (4 + g * 16 + d) + q)) hv H ∧ Turned (KFoot b hv) w w' := by
  have gI : (g : Int) < 4 := by omega
  have dI : (d : Int) < 16 := by omega
  have hbl := h.b_lt
  have c2 : w.cell? ⟨b, 6 + g * 16 + d, none⟩ = some (.int .i64 (P (4 + g * 16 + d))) := by
    have := h.nums (4 + g * 16 + d) (by omega)
    rwa [show 2 + (4 + g * 16 + d) = 6 + g * 16 + d by omega] at this
  have f2 := h.free (6 + g * 16 + d)
  have hW : IntKind.i64.wrap (P (4 + g * 16 + d) + q) = P (4 + g * 16 + d) + q := w64i _ (by omega)
  have K1 := h.setN (i := 4 + g * 16 + d) (by omega) (P (4 + g * 16 + d) + q)
  rw [show 2 + (4 + g * 16 + d) = 6 + g * 16 + d by omega] at K1
  have T1 : Turned (KFoot b hv) w (w.setCell ⟨b, 6 + g * 16 + d, none⟩ (.int .i64 (P (4 + g * 16 + d) + q))) := (Turned.refl _ w).setCell (Or.inl (Or.inl rfl)) _
  go_enter Tryd.func18, Tryd.ntmps18
  go_wp2
  go_region
  go_wp2
  go_ret
  exact ⟨rfl, K1.below (((Below.refl _ _).alloc (Nat.le_refl _) _).alloc (by simp) _).drew, ((T1.alloc _).alloc _).drew⟩

set_option maxRecDepth 100000 in
set_option maxHeartbeats 2000000 in
theorem takes3 (b : Nat) (l : Value) (now : Int) (P : Nat → Int) (hv : Value) (H : List (Nat → Int)) (id q : Int) (g c : Nat) (w : World) (h : KAt w b l now P hv H) (hg : g < 4) (hc3 : c < 3) (hP : -1000000000 ≤ P (68 + g * 3 + c) ∧ P (68 + g * 3 + c) ≤ 1000000000) (hq : -1000000 ≤ q ∧ q ≤ 1000000) :
    Calls Tryd.prog 18 #[.pointer (some ⟨b, 0, none⟩), cv 3 id g c 0 q 0 0, ansV 0 0] w fun e w' => e = .returned (.bool true) ∧ KAt w' b l now (updG P (68 + g * 3 + c) (P (68 + g * 3 + c) + q)) hv H ∧ Turned (KFoot b hv) w w' := by
  have gI : (g : Int) < 4 := by omega
  have cI : (c : Int) < 3 := by omega
  have hbl := h.b_lt
  have c2 : w.cell? ⟨b, 70 + g * 3 + c, none⟩ = some (.int .i64 (P (68 + g * 3 + c))) := by
    have := h.nums (68 + g * 3 + c) (by omega)
    rwa [show 2 + (68 + g * 3 + c) = 70 + g * 3 + c by omega] at this
  have f2 := h.free (70 + g * 3 + c)
  have hW : IntKind.i64.wrap (P (68 + g * 3 + c) + q) = P (68 + g * 3 + c) + q := w64i _ (by omega)
  have K1 := h.setN (i := 68 + g * 3 + c) (by omega) (P (68 + g * 3 + c) + q)
  rw [show 2 + (68 + g * 3 + c) = 70 + g * 3 + c by omega] at K1
  have T1 : Turned (KFoot b hv) w (w.setCell ⟨b, 70 + g * 3 + c, none⟩ (.int .i64 (P (68 + g * 3 + c) + q))) := (Turned.refl _ w).setCell (Or.inl (Or.inl rfl)) _
  go_enter Tryd.func18, Tryd.ntmps18
  go_wp2
  go_region
  go_wp2
  go_ret
  exact ⟨rfl, K1.below (((Below.refl _ _).alloc (Nat.le_refl _) _).alloc (by simp) _).drew, ((T1.alloc _).alloc _).drew⟩

end Go.Proofs.YtdblmheoghhepaaDoor

/- The caller's book: 'takes' of a hold that ends by a command. -/
namespace Go.Proofs.YtdblmheoghhepaaDoor
open Go.RowKit

/-- The row of holds is the book's own: where its cells lie, and what a store leaves. -/
theorem KAt.row {w : World} {b : Nat} {l : Value} {now : Int} {P : Nat → Int} {hv : Value} {H : List (Nat → Int)} (h : KAt w b l now P hv H) (hn : 0 < H.length) : ∃ g cap, hv = .slice (some ⟨g, 0, none⟩) H.length cap ∧ HoldsAt w g H ∧ g ≠ b ∧ Free w g := by
  rcases h.rows.2 with ⟨_, e⟩ | ⟨g, cap, cur, e, _, hh, _⟩
  · omega
  · refine ⟨g, cap, e, ?_, h.apart g (by rw [e]; rfl), fun j => ?_⟩
    · have := h.rows
      rw [e] at this
      exact holdsAt_of_own this (Array.getElem?_eq_some_iff.1 hh).1
    · simp [World.frozen?, hh]

theorem KAt.setState {w : World} {b : Nat} {l : Value} {now : Int} {P : Nat → Int} {g cap : Nat} {H : List (Nat → Int)} (h : KAt w b l now P (.slice (some ⟨g, 0, none⟩) H.length cap) H) {k : Nat} (_ : k < H.length) (s : Int) :
    KAt (w.setCell ⟨g, k * 8 + 7, none⟩ (.int .i64 s)) b l now P (.slice (some ⟨g, 0, none⟩) H.length cap) (closeAt H k s) := by
  have hgb : g ≠ b := h.apart g rfl
  have eb : (w.setCell ⟨g, k * 8 + 7, none⟩ (.int .i64 s)).heap[b]? = w.heap[b]? := Below.heap_setCell _ _ _ _ hgb.symm
  refine ⟨(World.cell?_of_block (a := ⟨b, 0, none⟩) eb).trans h.c0, (World.cell?_of_block (a := ⟨b, 1, none⟩) eb).trans h.c1, h.nums.same eb, (World.cell?_of_block (a := ⟨b, 82, none⟩) eb).trans h.ch, fun j => (World.frozen?_of_block (a := ⟨b, j, none⟩) eb).trans (h.free j), ?_, h.apart⟩
  have hl : (closeAt H k s).length = H.length := by simp [closeAt]
  rw [hl]
  obtain ⟨h1, h2⟩ := h.rows
  refine ⟨by rw [flat_len, hl], ?_⟩
  rcases h2 with ⟨e, _⟩ | ⟨g', cap', cur, e, hg, hh, hc1, hc2, hc3, hc4⟩
  · cases e
  · cases e
    refine Or.inr ⟨g, cap, cur.setIfInBounds (k * 8 + 7) (.int .i64 s), rfl, hg, ?_, hc1, hc2, by simpa using hc3, ?_⟩
    · simp only [World.setCell, Array.getElem?_modify, if_true, hh, Option.map_some]
      rfl
    · rw [Array.toList_setIfInBounds]
      exact flat_close H k s cur.toList hc4 (by have e : cur.toList.length = cur.size := Array.length_toList; rw [e, hc3]; exact Nat.mul_le_mul_right 8 hc1)

set_option maxRecDepth 100000 in
set_option maxHeartbeats 4000000 in
theorem takes5 (b : Nat) (l : Value) (now : Int) (P : Nat → Int) (hv : Value) (H : List (Nat → Int)) (id : Int) (k : Nat) (x : Nat → Int) (w : World) (h : KAt w b l now P hv H) (hl : H.length ≤ 60) (hx : H[k]? = some x) (h7 : x 7 = 1) :
    Calls Tryd.prog 18 #[.pointer (some ⟨b, 0, none⟩), cv 5 id 0 0 0 0 ((k : Int) + 1) 0, ansV 0 0] w fun e w' => e = .returned (.bool true) ∧ KAt w' b l now P hv (closeAt H k 2) ∧ Turned (KFoot b hv) w w' := by
  have hk : k < H.length := (List.getElem?_eq_some_iff.1 hx).1
  obtain ⟨g, cap, rfl, hH, hgb, hF⟩ := h.row (by omega)
  have hbl := h.b_lt
  have hgl := hH.1
  have hch := h.ch
  have c7 : w.cell? ⟨g, k * 8 + 7, none⟩ = some (.int .i64 1) := by
    have := hH.2 k x hx 7 (by omega)
    rwa [h7] at this
  have f7 := hF (k * 8 + 7)
  have HH : Hid (KAt w b l now P (.slice (some ⟨g, 0, none⟩) H.length cap) H) := h
  have G1 : decide ((H.length : Int) < (k : Int) + 1) = false := by simp; omega
  have hkI : (k : Int) < (H.length : Int) := by omega
  have hW : IntKind.i64.wrap ((k : Int) + 1 - 1) = (k : Int) := by rw [w64i _ (by omega)]; omega
  have e1 : (k : Int) + 1 - 1 = (k : Int) := by omega
  have hgb1 : ¬ g = b := hgb
  have hgb2 : ¬ b = g := fun e => hgb e.symm
  clear h hH hF hx h7
  go_enter Tryd.func18, Tryd.ntmps18
  go_wp2
  go_quiet (fail)
  go_wp2
  go_region
  have hB : Below w.heap.size w (((w.alloc (.cells (cc 5 id 0 0 0 0 ((k : Int) + 1) 0) 23)).alloc (.cells #[.int .i64 0, .int .i64 0] 39)).drewN (nq + 1)) := below_drewN (((Below.refl _ _).alloc (Nat.le_refl _) _).alloc (by simp) _) _
  have K2 := (HH.out.below hB).setState hk 2
  have T2 : Turned (KFoot b (.slice (some ⟨g, 0, none⟩) H.length cap)) w ((((w.alloc (.cells (cc 5 id 0 0 0 0 ((k : Int) + 1) 0) 23)).alloc (.cells #[.int .i64 0, .int .i64 0] 39)).drewN (nq + 1)).setCell ⟨g, k * 8 + 7, none⟩ (.int .i64 2)) := (Turned.ofBelow hB).setCell (p := ⟨g, k * 8 + 7, none⟩) (Or.inl (Or.inr rfl)) _
  go_wp2
  go_ret
  exact ⟨rfl, K2, T2⟩

set_option maxRecDepth 100000 in
set_option maxHeartbeats 4000000 in
theorem takes6 (b : Nat) (l : Value) (now : Int) (P : Nat → Int) (hv : Value) (H : List (Nat → Int)) (id : Int) (k : Nat) (x : Nat → Int) (w : World) (h : KAt w b l now P hv H) (hl : H.length ≤ 60) (hx : H[k]? = some x) (h7 : x 7 = 1) :
    Calls Tryd.prog 18 #[.pointer (some ⟨b, 0, none⟩), cv 6 id 0 0 0 0 ((k : Int) + 1) 0, ansV 0 0] w fun e w' => e = .returned (.bool true) ∧ KAt w' b l now P hv (closeAt H k 3) ∧ Turned (KFoot b hv) w w' := by
  have hk : k < H.length := (List.getElem?_eq_some_iff.1 hx).1
  obtain ⟨g, cap, rfl, hH, hgb, hF⟩ := h.row (by omega)
  have hbl := h.b_lt
  have hgl := hH.1
  have hch := h.ch
  have c7 : w.cell? ⟨g, k * 8 + 7, none⟩ = some (.int .i64 1) := by
    have := hH.2 k x hx 7 (by omega)
    rwa [h7] at this
  have f7 := hF (k * 8 + 7)
  have HH : Hid (KAt w b l now P (.slice (some ⟨g, 0, none⟩) H.length cap) H) := h
  have G1 : decide ((H.length : Int) < (k : Int) + 1) = false := by simp; omega
  have hkI : (k : Int) < (H.length : Int) := by omega
  have hW : IntKind.i64.wrap ((k : Int) + 1 - 1) = (k : Int) := by rw [w64i _ (by omega)]; omega
  have e1 : (k : Int) + 1 - 1 = (k : Int) := by omega
  have hgb1 : ¬ g = b := hgb
  have hgb2 : ¬ b = g := fun e => hgb e.symm
  clear h hH hF hx h7
  go_enter Tryd.func18, Tryd.ntmps18
  go_wp2
  go_quiet (fail)
  go_wp2
  go_region
  have hB : Below w.heap.size w (((w.alloc (.cells (cc 6 id 0 0 0 0 ((k : Int) + 1) 0) 23)).alloc (.cells #[.int .i64 0, .int .i64 0] 39)).drewN (nq + 1)) := below_drewN (((Below.refl _ _).alloc (Nat.le_refl _) _).alloc (by simp) _) _
  have K2 := (HH.out.below hB).setState hk 2
  have T2 : Turned (KFoot b (.slice (some ⟨g, 0, none⟩) H.length cap)) w ((((w.alloc (.cells (cc 6 id 0 0 0 0 ((k : Int) + 1) 0) 23)).alloc (.cells #[.int .i64 0, .int .i64 0] 39)).drewN (nq + 1)).setCell ⟨g, k * 8 + 7, none⟩ (.int .i64 2)) := (Turned.ofBelow hB).setCell (p := ⟨g, k * 8 + 7, none⟩) (Or.inl (Or.inr rfl)) _
  have c7' : ((((w.alloc (.cells (cc 6 id 0 0 0 0 ((k : Int) + 1) 0) 23)).alloc (.cells #[.int .i64 0, .int .i64 0] 39)).drewN (nq + 1)).setCell ⟨g, k * 8 + 7, none⟩ (.int .i64 2)).cell? ⟨g, k * 8 + 7, none⟩ = some (.int .i64 2) := World.cell?_setCell_same _ _ _ ((hB.cell (p := ⟨g, k * 8 + 7, none⟩) hgl).trans c7)
  have f7' : ((((w.alloc (.cells (cc 6 id 0 0 0 0 ((k : Int) + 1) 0) 23)).alloc (.cells #[.int .i64 0, .int .i64 0] 39)).drewN (nq + 1)).setCell ⟨g, k * 8 + 7, none⟩ (.int .i64 2)).frozen? ⟨g, k * 8 + 7, none⟩ = false := by rw [World.frozen?_setCell]; exact (hB.frozen (p := ⟨g, k * 8 + 7, none⟩) hgl).trans f7
  have hch' := K2.ch
  have x0 : ((((w.alloc (.cells (cc 6 id 0 0 0 0 ((k : Int) + 1) 0) 23)).alloc (.cells #[.int .i64 0, .int .i64 0] 39)).drewN (nq + 1)).setCell ⟨g, k * 8 + 7, none⟩ (.int .i64 2)).cell? ⟨w.heap.size, 0, none⟩ = some (.int .i64 6) := (World.cell?_setCell_other _ _ _ _ (fun e => by have e2 : g = w.heap.size := congrArg Addr.block e; omega)).trans (by simp [go_sem])
  have x6 : ((((w.alloc (.cells (cc 6 id 0 0 0 0 ((k : Int) + 1) 0) 23)).alloc (.cells #[.int .i64 0, .int .i64 0] 39)).drewN (nq + 1)).setCell ⟨g, k * 8 + 7, none⟩ (.int .i64 2)).cell? ⟨w.heap.size, 6, none⟩ = some (.int .i64 ((k : Int) + 1)) := (World.cell?_setCell_other _ _ _ _ (fun e => by have e2 : g = w.heap.size := congrArg Addr.block e; omega)).trans (by simp [go_sem])
  have xa : ((((w.alloc (.cells (cc 6 id 0 0 0 0 ((k : Int) + 1) 0) 23)).alloc (.cells #[.int .i64 0, .int .i64 0] 39)).drewN (nq + 1)).setCell ⟨g, k * 8 + 7, none⟩ (.int .i64 2)).cell? ⟨w.heap.size + 1, 1, none⟩ = some (.int .i64 0) := (World.cell?_setCell_other _ _ _ _ (fun e => by have e2 : g = w.heap.size + 1 := congrArg Addr.block e; omega)).trans (by simp [go_sem])
  have n1 : ¬ g = w.heap.size + 1 := by omega
  have n2 : ¬ w.heap.size + 1 = g := by omega
  generalize (((w.alloc (.cells (cc 6 id 0 0 0 0 ((k : Int) + 1) 0) 23)).alloc (.cells #[.int .i64 0, .int .i64 0] 39)).drewN (nq + 1)).setCell ⟨g, k * 8 + 7, none⟩ (.int .i64 2) = W2 at K2 T2 c7' f7' hch' x0 x6 xa ⊢
  have K3 : KAt (W2.drew.setCell ⟨g, k * 8 + 7, none⟩ (.int .i64 3)) b l now P (.slice (some ⟨g, 0, none⟩) H.length cap) (closeAt H k 3) := by
    have e : (closeAt H k 2).length = H.length := by simp [closeAt]
    have a1 := K2.below (Below.refl _ _).drew
    rw [← e] at a1
    have a2 := a1.setState (k := k) (by rw [e]; exact hk) 3
    rw [e, close_close] at a2
    exact a2
  have T3 : Turned (KFoot b (.slice (some ⟨g, 0, none⟩) H.length cap)) w (W2.drew.setCell ⟨g, k * 8 + 7, none⟩ (.int .i64 3)) := (T2.thenBelow (Below.refl _ _).drew).setCell (p := ⟨g, k * 8 + 7, none⟩) (Or.inl (Or.inr rfl)) _
  clear K2 T2 hB c7 f7 hch
  go_wp2
  go_region
  go_wp2
  go_ret
  exact ⟨rfl, K3, T3⟩

end Go.Proofs.YtdblmheoghhepaaDoor

/- The caller's book: 'takes' of a tick. -/
namespace Go.Proofs.YtdblmheoghhepaaDoor
open Go.RowKit

theorem KAt.setNow {w : World} {b : Nat} {l : Value} {now : Int} {P : Nat → Int} {hv : Value} {H : List (Nat → Int)} (h : KAt w b l now P hv H) (x : Int) : KAt (w.setCell ⟨b, 1, none⟩ (.int .i64 x)) b l x P hv H := by
  refine ⟨?_, World.cell?_setCell_same _ _ _ h.c1, nums_other h.nums (by omega) _, ?_, fun j => by rw [World.frozen?_setCell]; exact h.free j, own_same h.rows (fun k hk => Below.heap_setCell _ _ _ _ (h.apart k hk)), h.apart⟩
  · rw [World.cell?_setCell_other _ _ _ _ (off_ne (by omega))]; exact h.c0
  · rw [World.cell?_setCell_other _ _ _ _ (off_ne (by omega))]; exact h.ch

set_option maxRecDepth 100000 in
set_option maxHeartbeats 4000000 in
theorem takes8 (b : Nat) (l : Value) (now : Int) (P : Nat → Int) (hv : Value) (H : List (Nat → Int)) (id t : Int) (w : World) (h : KAt w b l now P hv H) (hl : H.length ≤ 60) (hn : 0 ≤ now ∧ now ≤ 1000000) (ht : 0 ≤ t ∧ t ≤ 1000) :
    Calls Tryd.prog 18 #[.pointer (some ⟨b, 0, none⟩), cv 8 id 0 0 0 0 0 t, ansV 0 0] w fun e w' => e = .returned (.bool true) ∧ KAt w' b l (now + t) P hv (expL (now + t) H) ∧ Turned (KFoot b hv) w w' := by
  have hbl := h.b_lt
  have c1 := h.c1
  have f1 := h.free 1
  have hW : IntKind.i64.wrap (now + t) = now + t := w64i _ (by omega)
  obtain ⟨ha, hcap, hvs⟩ : ∃ a c', hv = .slice a H.length c' := by
    rcases h.rows.2 with ⟨e, e2⟩ | ⟨g, cap, cur, e, _⟩
    · exact ⟨none, 0, by rw [e, e2]⟩
    · exact ⟨_, _, e⟩
  have K1 := h.setNow (now + t)
  have T1 : Turned (KFoot b hv) w (w.setCell ⟨b, 1, none⟩ (.int .i64 (now + t))) := (Turned.refl _ w).setCell (p := ⟨b, 1, none⟩) (Or.inl (Or.inl rfl)) _
  have hfp : ∀ k, KFoot b hv k → k < w.heap.size := fun k hk => by
    rcases hk with rfl | hk
    · exact hbl
    · exact h.row_lt hk
  subst hvs
  clear h
  go_enter Tryd.func18, Tryd.ntmps18
  go_wp2
  go_region
  have K2 := K1.below (((Below.refl _ _).alloc (Nat.le_refl _) (.cells (cc 8 id 0 0 0 0 0 t) 23)).alloc (by simp) (.cells #[.int .i64 0, .int .i64 0] 39)).drew
  have T2 := ((T1.alloc (.cells (cc 8 id 0 0 0 0 0 t) 23)).alloc (.cells #[.int .i64 0, .int .i64 0] 39)).drew
  have an : ((((w.setCell ⟨b, 1, none⟩ (.int .i64 (now + t))).alloc (.cells (cc 8 id 0 0 0 0 0 t) 23)).alloc (.cells #[.int .i64 0, .int .i64 0] 39)).drew).cell? ⟨w.heap.size + 1, 1, none⟩ = some (.int .i64 0) := by simp [go_sem]
  have sz : w.heap.size + 2 ≤ ((((w.setCell ⟨b, 1, none⟩ (.int .i64 (now + t))).alloc (.cells (cc 8 id 0 0 0 0 0 t) 23)).alloc (.cells #[.int .i64 0, .int .i64 0] 39)).drew).heap.size := by simp
  generalize ((((w.setCell ⟨b, 1, none⟩ (.int .i64 (now + t))).alloc (.cells (cc 8 id 0 0 0 0 0 t) 23)).alloc (.cells #[.int .i64 0, .int .i64 0] 39)).drew) = W2 at K2 T2 an sz ⊢
  clear K1 T1 c1 f1
  go_wp2
  go_loopw [8] (fun i wr => ∃ k : Nat, k ≤ H.length ∧ i = .int .i64 k ∧ KAt wr b l (now + t) P (.slice ha H.length hcap) (expK (now + t) H k) ∧ Turned (KFoot b (.slice ha H.length hcap)) w wr ∧ wr.cell? ⟨w.heap.size + 1, 1, none⟩ = some (.int .i64 0) ∧ w.heap.size + 2 ≤ wr.heap.size) (fun i _ => H.length - (intOf i).toNat)
  case atStart => exact ⟨0, by omega, rfl, by rw [expK_zero]; exact K2, T2, an, sz⟩
  case round =>
    obtain ⟨k, hk, rfl, hK, hT, hA, hS⟩ := hrel
    have hch := hK.ch
    have hc1 := hK.c1
    clear K2 T2 an sz
    by_cases hlt : k < H.length
    · obtain ⟨x, hx⟩ : ∃ x, H[k]? = some x := ⟨H[k], by simp [hlt]⟩
      have el := expK_len (now + t) H k
      obtain ⟨g, cap, eg, hH, hgb, hF⟩ := hK.row (by omega)
      rw [el] at eg
      cases eg
      have hx' : (expK (now + t) H k)[k]? = some x := by rw [expK_at]; exact hx
      have c7 : wr.cell? ⟨g, k * 8 + 7, none⟩ = some (.int .i64 (x 7)) := hH.2 k x hx' 7 (by omega)
      have c6 : wr.cell? ⟨g, k * 8 + 6, none⟩ = some (.int .i64 (x 6)) := hH.2 k x hx' 6 (by omega)
      have f7 := hF (k * 8 + 7)
      have hkI : (k : Int) < (H.length : Int) := by omega
      have hgl := hfp g (Or.inr rfl)
      have HX : Hid (H[k]? = some x) := hx
      clear hx hx' hH hF el
      by_cases e7 : x 7 = 1
      · by_cases e6 : x 6 ≤ now + t
        · have HE : Hid (expB (now + t) x = true) := by show _ = _; simp [expB, e7, e6]
          have G7 : (x 7 == 1) = true := by simpa using e7
          have E7 : Hid (x 7 = 1) := e7
          clear e7
          go_wp2
          go_quiet (fail)
          go_wp2
          go_roundw
          case rel =>
            have el := expK_len (now + t) H k
            have a1 := hK.below (below_drewN (Below.refl _ wr) nq)
            rw [← el] at a1
            have a2 := a1.setState (k := k) (by rw [el]; exact hlt) 4
            rw [el, ← expK_close (now + t) H k x HX.out HE.out] at a2
            refine ⟨k + 1, by omega, by go_num, a2, (hT.thenBelow (below_drewN (Below.refl _ wr) nq)).setCell (p := ⟨g, k * 8 + 7, none⟩) (Or.inl (Or.inr rfl)) _, ?_, by simpa [World.setCell] using hS⟩
            rw [World.cell?_setCell_other _ _ _ _ (fun e => by have e2 : g = w.heap.size + 1 := congrArg Addr.block e; omega)]
            exact hA
          case measure => simp [intOf]; omega
        · have HE : Hid (expB (now + t) x = false) := by show _ = _; simp [expB, e6]
          have G7 : (x 7 == 1) = true := by simpa using e7
          have G6 : decide (x 6 ≤ now + t) = false := by simpa using e6
          clear e7 e6
          go_wp2
          go_quiet (fail)
          go_wp2
          go_roundw
          case rel => exact ⟨k + 1, by omega, by go_num, by rw [expK_keep (now + t) H k x HX.out HE.out]; exact hK.below (below_drewN (Below.refl _ wr) nq), hT.thenBelow (below_drewN (Below.refl _ wr) nq), hA, hS⟩
          case measure => simp [intOf]; omega
      · have HE : Hid (expB (now + t) x = false) := by show _ = _; simp [expB, e7]
        have G7 : (x 7 == 1) = false := by simpa using e7
        clear e7
        go_wp2
        go_quiet (fail)
        go_wp2
        go_roundw
        case rel => exact ⟨k + 1, by omega, by go_num, by rw [expK_keep (now + t) H k x HX.out HE.out]; exact hK.below (below_drewN (Below.refl _ wr) nq), hT.thenBelow (below_drewN (Below.refl _ wr) nq), hA, hS⟩
        case measure => simp [intOf]; omega
    · have he : k = H.length := by omega
      subst he
      rw [expK_all] at hK
      go_wp2
      go_ret
      exact ⟨rfl, hK, hT⟩

end Go.Proofs.YtdblmheoghhepaaDoor

/- The caller's book: 'counts', 'left'. -/
namespace Go.Proofs.YtdblmheoghhepaaDoor
open Go.RowKit

set_option maxRecDepth 100000 in
set_option maxHeartbeats 4000000 in
theorem kcounts_any (b : Nat) (l : Value) (now : Int) (P : Nat → Int) (hv : Value) (H : List (Nat → Int)) (good day ch : Int) (w : World) (h : KAt w b l now P hv H) (hl : H.length ≤ 60) (hq : ∀ h ∈ H, 0 ≤ h 4 ∧ h 4 ≤ 1000000) :
    Calls Tryd.prog 20 #[.pointer (some ⟨b, 0, none⟩), .int .i64 good, .int .i64 day, .int .i64 ch] w fun e w' => e = .returned (.int .i64 (sumL (keepQ good day ch) H)) ∧ Below w.heap.size w w' := by
  obtain ⟨ha, hcap, hvs⟩ : ∃ a c', hv = .slice a H.length c' := by
    rcases h.rows.2 with ⟨e, e2⟩ | ⟨g, cap, cur, e, _⟩
    · exact ⟨none, 0, by rw [e, e2]⟩
    · exact ⟨_, _, e⟩
  subst hvs
  go_enter Tryd.func20, Tryd.ntmps20
  go_wp2
  go_loopw [9, 10] (fun s i wr => ∃ k : Nat, k ≤ H.length ∧ i = .int .i64 k ∧ s = .int .i64 (sumL (keepQ good day ch) (H.take k)) ∧ Below w.heap.size w wr) (fun _ i _ => H.length - (intOf i).toNat)
  case atStart => exact ⟨0, Nat.zero_le _, rfl, rfl, Below.refl _ _⟩
  case round =>
    obtain ⟨k, hk, rfl, rfl, hb⟩ := hrel
    have hK := h.below hb
    have hch := hK.ch
    by_cases hlt : k < H.length
    · obtain ⟨x, hx⟩ : ∃ x, H[k]? = some x := ⟨H[k], by simp [hlt]⟩
      obtain ⟨g, cap, eg, hH, _, _⟩ := hK.row (by omega)
      cases eg
      obtain ⟨c0, c1, c2, c3, c4, c5, c6, c7⟩ := hH.all hx
      have hkI : (k : Int) < (H.length : Int) := by omega
      have hsb := hb.size
      have hq4 := hq x (List.mem_of_getElem? hx)
      have b1 := sumL_bd (keepQ good day ch) (keepQ_bd good day ch) (H.take k) (fun h hm => hq h (List.mem_of_mem_take hm))
      have b2 : (H.take k).length ≤ 60 := by simp; omega
      have ST : Hid (sumL (keepQ good day ch) (H.take (k + 1)) = sumL (keepQ good day ch) (H.take k) + keepQ good day ch x) := by
        show _ = _
        rw [List.take_add_one, hx]; simp [sumL]
      clear hq hx hH hK h
      generalize hS : sumL (keepQ good day ch) (H.take k) = s at *
      clear hS
      by_cases e1 : keepB good day ch x = true
      · have Q1 : Hid (keepQ good day ch x = x 4) := if_pos e1
        have e1' : (x 1 == good && (decide (x 3 ≤ day) && ((decide (ch < 0) || x 2 == ch) && (x 7 == 1 || x 7 == 2)))) = true := e1
        simp only [Bool.and_eq_true, Bool.or_eq_true] at e1'
        obtain ⟨p1, p2, p3, p4⟩ := e1'
        clear e1
        rcases p3 with p3 | p3 <;> rcases p4 with p4 | p4
        all_goals
          go_wp2
        all_goals
          refine ⟨⟨k + 1, by omega, by go_num, by rw [ST.out, Q1.out], hb.alloc hsb _⟩, by simp [intOf]; omega⟩
      · have HB : Hid (keepB good day ch x = false) := by show _ = _; simpa using e1
        have Q0 : Hid (keepQ good day ch x = 0) := if_neg e1
        clear e1
        go_wp2
        all_goals
          first
            | (refine ⟨⟨k + 1, by omega, by go_num, ?_, hb.alloc hsb _⟩, by simp [intOf]; omega⟩
               rw [ST.out, Q0.out, Int.add_zero]
               done)
            | (exfalso
               have hf := HB.out
               simp_all [keepB] <;> omega)
    · have he : k = H.length := by omega
      subst he
      rw [List.take_length]
      go_wp2
      go_ret
      exact ⟨rfl, hb⟩

set_option maxRecDepth 100000 in
set_option maxHeartbeats 2000000 in
theorem kleft_any (b : Nat) (l : Value) (now : Int) (P : Nat → Int) (hv : Value) (H : List (Nat → Int)) (g d : Nat) (w : World) (h : KAt w b l now P hv H) (hl : H.length ≤ 60) (hq : ∀ h ∈ H, 0 ≤ h 4 ∧ h 4 ≤ 1000000) (hg : g < 4) (hd : d < 16) (hP : ∀ k, k < 80 → -1000000000 ≤ P k ∧ P k ≤ 1000000000) :
    Calls Tryd.prog 21 #[.pointer (some ⟨b, 0, none⟩), .int .i64 (g : Int), .int .i64 (d : Int)] w fun e w' => e = .returned (.int .i64 (kLeft P H g d)) ∧ Below w.heap.size w w' := by
  have gI : (g : Int) < 4 := by omega
  have hc2 : w.cell? ⟨b, 2 + g, none⟩ = some (.int .i64 (P g)) := h.nums g (by omega)
  have bg := hP g (by omega)
  go_enter Tryd.func21, Tryd.ntmps21
  go_wp2
  go_loopw [7, 8] (fun s i wr => ∃ k : Nat, k ≤ d + 1 ∧ i = .int .i64 k ∧ s = .int .i64 (P g + sumTo (fun k => P (4 + g * 16 + k)) k) ∧ w = wr) (fun _ i _ => d + 1 - (intOf i).toNat)
  case atStart => exact ⟨0, Nat.zero_le _, rfl, by simp [sumTo], rfl⟩
  case round =>
    obtain ⟨k, hk, rfl, rfl, rfl⟩ := hrel
    have b1 := sumTo_bd (fun k => P (4 + g * 16 + k)) 1000000000 k (fun j hj => hP _ (by omega))
    by_cases hlt : k < d + 1
    · have hc3 : w.cell? ⟨b, 6 + g * 16 + k, none⟩ = some (.int .i64 (P (4 + g * 16 + k))) := by
        have := h.nums (4 + g * 16 + k) (by omega)
        rwa [show 2 + (4 + g * 16 + k) = 6 + g * 16 + k by omega] at this
      have b2 := hP (4 + g * 16 + k) (by omega)
      have kI : (k : Int) < 16 := by omega
      have kd : (k : Int) ≤ (d : Int) := by omega
      clear h hP
      go_wp2
      go_roundw
      case rel => exact ⟨k + 1, by omega, by go_num, int_eq (by simp only [sumTo]; omega), trivial⟩
      case measure => simp [intOf]; omega
    · have he : k = d + 1 := by omega
      subst he
      have kd : ¬ ((d + 1 : Nat) : Int) ≤ (d : Int) := by omega
      have b3 := sumL_bd (keepQ g d (-1)) (keepQ_bd g d (-1)) H hq
      go_wp2_with fail
      refine (kcounts_any b l now P hv H g d (-1) w h hl hq).mono ?_
      rintro e w1 ⟨rfl, hb1⟩
      have KL : Hid (kLeft P H g d = P g + sumTo (fun k => P (4 + g * 16 + k)) (d + 1) - sumL (keepQ g d (-1)) H) := rfl
      go_wp2
      go_ret
      exact ⟨by rw [KL.out]; rfl, hb1⟩

end Go.Proofs.YtdblmheoghhepaaDoor
