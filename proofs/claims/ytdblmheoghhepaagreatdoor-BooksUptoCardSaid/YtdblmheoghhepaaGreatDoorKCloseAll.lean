/- What the book does to a hold: 'Close', 'Add'. -/
import Derived.Test.YtdblmheoghhepaaGreatDoorKBook
import Derived.BigRegion
import Derived.Deep.RegionLaw
namespace Go.Proofs.YtdblmheoghhepaaGreatDoor
open Go.RowKit

/-- Of the blocks that there were none but those of F has turned. -/
structure Turned (F : Nat → Prop) (w w' : World) : Prop where
  os : w'.os = w.os
  tape : w'.tape = w.tape
  output : w'.output = w.output
  size : w.heap.size ≤ w'.heap.size
  block : ∀ k, k < w.heap.size → ¬ F k → w'.heap[k]? = w.heap[k]?

theorem Turned.refl (F : Nat → Prop) (w : World) : Turned F w w := ⟨rfl, rfl, rfl, Nat.le_refl _, fun _ _ _ => rfl⟩
theorem Turned.trans {F : Nat → Prop} {a b c : World} (h : Turned F a b) (k : Turned F b c) : Turned F a c :=
  ⟨k.os.trans h.os, k.tape.trans h.tape, k.output.trans h.output, Nat.le_trans h.size k.size, fun i hi hn => (k.block i (Nat.lt_of_lt_of_le hi h.size) hn).trans (h.block i hi hn)⟩
theorem Turned.ofBelow {F : Nat → Prop} {w w' : World} (h : Below w.heap.size w w') : Turned F w w' := ⟨h.os, h.tape, h.output, h.size, fun k hk _ => h.block k hk⟩
theorem Turned.ofGrown {F : Nat → Prop} {w w' : World} {row : Option Nat} (h : w.grownBy w' row) (hr : ∀ k, row = some k → F k ∨ w.heap.size ≤ k) : Turned F w w' :=
  ⟨h.os, h.tape, h.output, h.size, fun k hk hn => h.block k hk (fun e => by
    rcases hr k e.symm with h1 | h1
    · exact hn h1
    · omega)⟩
theorem Turned.mono {F G : Nat → Prop} {w w' : World} (h : Turned F w w') (hs : ∀ k, k < w.heap.size → F k → G k) : Turned G w w' := ⟨h.os, h.tape, h.output, h.size, fun k hk hn => h.block k hk (fun hf => hn (hs k hk hf))⟩
theorem Turned.setCell {F : Nat → Prop} {a w : World} (h : Turned F a w) {p : Addr} (hp : F p.block ∨ a.heap.size ≤ p.block) (u : Value) : Turned F a (w.setCell p u) := by
  refine ⟨h.os, h.tape, h.output, by simpa [World.setCell] using h.size, fun k hk hn => ?_⟩
  rw [Below.heap_setCell _ _ _ _ (fun e => by subst e; rcases hp with h1 | h1 <;> first | exact hn h1 | omega)]
  exact h.block k hk hn
theorem Turned.thenBelow {F : Nat → Prop} {a b c : World} (h : Turned F a b) (k : Below b.heap.size b c) : Turned F a c := h.trans (Turned.ofBelow k)
theorem Turned.alloc {F : Nat → Prop} {a w : World} (h : Turned F a w) (o : Obj) : Turned F a (w.alloc o) := h.thenBelow ((Below.refl _ _).alloc (Nat.le_refl _) o)
theorem Turned.map {F : Nat → Prop} {a w w' : World} {b : Nat} (h : Turned F a w) (k : w.mapTurned w' b) (hb : F b) : Turned F a w' := h.trans (Turned.ofGrown k.grown (fun j e => by cases e; exact Or.inl hb))

theorem grown_setCell (w : World) (p : Addr) (u : Value) : w.grownBy ((w.setCell p u).drew) (some p.block) :=
  ⟨rfl, rfl, rfl, by simp [World.setCell, World.drew], fun i _ hne => Below.heap_setCell _ _ _ _ (fun e => hne (by rw [e]))⟩

theorem grown_setCell0 (w : World) (p : Addr) (u : Value) : w.grownBy (w.setCell p u) (some p.block) :=
  ⟨rfl, rfl, rfl, by simp [World.setCell], fun i _ hne => Below.heap_setCell _ _ _ _ (fun e => hne (by rw [e]))⟩

/-- A hold with another state. -/
def setSt (h : Nat → Int) (s : Int) : Nat → Int := fun j => if j = 7 then s else h j
def closeAt (H : List (Nat → Int)) (k : Nat) (s : Int) : List (Nat → Int) := H.modify k (fun h => setSt h s)

theorem BookAt.maps' {w : World} {bk mo mc : Nat} {H : List (Nat → Int)} (h : BookAt w bk mo mc H) : (bk ≠ mo ∧ bk ≠ mc) := by
  obtain ⟨c0, c1, ne, ⟨no, nc, h1, h2, h3⟩, len⟩ := h
  obtain ⟨x, y, e1⟩ := h1.isMapBlock
  obtain ⟨x', y', e2⟩ := h2.isMapBlock
  constructor
  · rintro rfl; simp [World.cell?, e1] at c0
  · rintro rfl; simp [World.cell?, e2] at c0

theorem open_close {H : List (Nat → Int)} {k : Nat} {h : Nat → Int} (hk : H[k]? = some h) (s : Int) (hs : s ≠ 1) (j : Int) :
    openOf (closeAt H k s) j = delM (openOf H) ((k : Int) + 1) j ∧ closedOf (closeAt H k s) j = updM (closedOf H) ((k : Int) + 1) (setSt h s) j := by
  unfold openOf closedOf delM updM closeAt
  by_cases e : j = (k : Int) + 1
  · subst e
    have e1 : ((k : Int) + 1 - 1).toNat = k := by omega
    rw [e1, List.getElem?_modify_eq, hk]
    simp [setSt, hs]
    omega
  · by_cases h1 : 1 ≤ j
    · have e1 : k ≠ (j - 1).toNat := by omega
      have e2 : (H.modify k fun h => setSt h s)[(j - 1).toNat]? = H[(j - 1).toNat]? := by 
        rw [List.getElem?_modify]
        simp only [e1, if_false]
        cases H[(j - 1).toNat]? <;> rfl
      rw [e2, if_neg e, if_neg e]
      exact ⟨rfl, rfl⟩
    · simp [e, h1]

set_option maxRecDepth 100000 in
set_option maxHeartbeats 1000000 in
theorem close_none (w : World) {bk mo mc : Nat} {H : List (Nat → Int)} (hB : BookAt w bk mo mc H) (n s : Int) (hn : I64 n) (ho : openOf H n = none) :
    Calls Tryz.prog 78 #[.pointer (some ⟨bk, 0, none⟩), .int .i64 n, .int .i64 s] w fun e w' => e = .returned (.int .i64 5) ∧ Below w.heap.size w w' := by
  obtain ⟨c0, c1, _, ⟨no, nc, h1, h2, _⟩, _⟩ := hB
  have l1 := (h1.look_none hn ho).1
  clear h1 h2
  go_enter Tryz.func78, Tryz.ntmps78
  go_wp2
  go_ret
  exact ⟨rfl, (Below.refl _ _).alloc (Nat.le_refl _) _⟩

set_option maxRecDepth 100000 in
set_option maxHeartbeats 1000000 in
theorem close_some (w : World) {bk mo mc : Nat} {H : List (Nat → Int)} (hB : BookAt w bk mo mc H) (k : Nat) (n s : Int) (hnk : n = (k : Int) + 1) (hs : s ≠ 1) (h : Nat → Int) (hk : H[k]? = some h) (h7 : h 7 = 1) :
    Calls Tryz.prog 78 #[.pointer (some ⟨bk, 0, none⟩), .int .i64 n, .int .i64 s] w fun e w' => e = .returned (.int .i64 0) ∧ BookAt w' bk mo mc (closeAt H k s) ∧ Turned (fun b => b = mo ∨ b = mc) w w' ∧
      ∀ r m left cnt, RangeIs w mo r (openOf H) m left cnt → ∃ m' cnt', cnt' ≤ cnt ∧ RangeIs w' mo r (openOf (closeAt H k s)) m' (fun z => left z && !(z == n)) cnt' := by
  have hkl : k < H.length := (List.getElem?_eq_some_iff.1 hk).1
  have hlen := hB.len
  obtain ⟨q1, q2⟩ := hB.maps'
  have hn : I64 n := by constructor <;> omega
  have ho : openOf H n = some h := by rw [hnk, (at_open (k := (k : Int) + 1) (by omega) (by simpa using hk)).1, if_pos h7]
  have hcl : closedOf H n = none := by rw [hnk, (at_open (k := (k : Int) + 1) (by omega) (by simpa using hk)).2, if_pos h7]
  obtain ⟨c0, c1, ne, ⟨no, nc, h1, h2, h3⟩, len⟩ := hB
  have l1 := (h1.look_some hn ho).1
  obtain ⟨no', rfl⟩ : ∃ m, no = m + 1 := by
    cases no with
    | zero =>
      obtain ⟨D, a1, a2, a3⟩ := h1
      have := ((a3 n hn).2 h ho).1
      cases D <;> simp [Maps.size, Maps.has] at a2 this
      subst a2
      simp at this
    | succ m => exact ⟨m, rfl⟩
  clear h7
  have HNK : Hid (n = (k : Int) + 1) := hnk
  clear hnk hkl
  have hbk := World.block_lt_of_cell? w ⟨bk, 0, none⟩ c0
  have h1a := h1.kept (World.grownBy_alloc w (.cells (cmdC h) 57) none) (by simp)
  go_enter Tryz.func78, Tryz.ntmps78
  go_wp2_with (at_delete; refine wp_drop _ rfl _ _ rfl mo no' (openOf H) rfl h1a n hn rfl h ho ?_)
  intro w1 hm1 ht1 hr1
  have hg1 := ht1.grown
  have hs1 := hg1.size
  simp only [World.size_alloc] at hs1
  have c1' : w1.cell? ⟨bk, 1, none⟩ = some (.map (some mc)) := hg1.cell (by rw [World.cell?_alloc_past _ _ _ hbk]; exact c1) (by simpa using q1)
  have C1 : CmdAt w1 w.heap.size h := fun j hj => hg1.cell (CmdAt.new w h 57 j hj) (by have := h1.lt; simp; omega)
  have F1 : Free w1 w.heap.size := fun j => (World.frozen?_of_block (hg1.block w.heap.size (by simp) (by have := h1.lt; simp; omega))).trans (free_new w (cmdC h) 57 j)
  obtain ⟨d0, d1, d2, d3, d4, d5, d6, d7⟩ := C1.all
  have f7 := F1 7
  have h2b : MapIs ((w1.setCell ⟨w.heap.size, 7, none⟩ (.int .i64 s)).drew) mc (closedOf H) nc := by
    have a1 : MapIs w1 mc (closedOf H) nc := (h2.kept (World.grownBy_alloc w (.cells (cmdC h) 57) none) (by simp)).kept hg1 (by simpa using ne.symm)
    have := h2.lt
    exact a1.block (Below.heap_setCell _ _ _ _ (by show mc ≠ w.heap.size; omega))
  obtain ⟨w2, hrun, hm2, ht2⟩ := h2b.store hn (by omega) hcl (setSt h s)
  have hrun' : (Instr.mapUpdate 98 (.map (some mc)) (.int .i64 n) (.agg #[.int .i64 (h 0), .int .i64 (h 1), .int .i64 (h 2), .int .i64 (h 3), .int .i64 (h 4), .int .i64 (h 5), .int .i64 (h 6), .int .i64 s])).run Tryz.prog ((w1.setCell ⟨w.heap.size, 7, none⟩ (.int .i64 s)).drew) = .ok () w2 := hrun
  clear hrun
  go_wp2
  go_region
  all_goals
    go_wp2
    go_ret
  all_goals
    have hgs : w1.grownBy ((w1.setCell ⟨w.heap.size, 7, none⟩ (.int .i64 s)).drew) (some w.heap.size) := grown_setCell _ _ _
    have hg2 := ht2.grown
    have hmol := h1.lt
    have hmcl := h2.lt
    have oc := open_close hk s hs
    refine ⟨rfl, ⟨?_, ?_, ne, ⟨no', nc + 1, ?_, ?_, by simp [closeAt]; omega⟩, by simpa [closeAt] using len⟩, ?_, ?_⟩
    · exact hg2.cell (hgs.cell (hg1.cell (by rw [World.cell?_alloc_past _ _ _ hbk]; exact c0) (by simpa using q1)) (by simp; omega)) (by simpa using q2)
    · exact hg2.cell (hgs.cell c1' (by simp; omega)) (by simpa using q2)
    · refine ((hm1.kept hgs (by simp; omega)).kept hg2 (by simpa using ne)).congr (fun j _ => ?_)
      rw [(oc j).1, HNK.out]
    · refine hm2.congr (fun j _ => ?_)
      rw [(oc j).2, HNK.out]
    · have t1 : Turned (fun b => b = mo ∨ b = mc) w w1 := ((Turned.refl _ w).alloc _).map ht1 (Or.inl rfl)
      exact ((t1.setCell (p := ⟨w.heap.size, 7, none⟩) (Or.inr (Nat.le_refl _)) _).thenBelow (Below.refl _ _).drew).map ht2 (Or.inr rfl)
    · intro r m left cnt hr
      obtain ⟨x1, x2, x3, x4, hit⟩ := hr.iter
      have hrl : r < w.heap.size := (Array.getElem?_eq_some_iff.1 hit).1
      have hrc : r ≠ mc := by
        rintro rfl
        obtain ⟨y1, y2, e⟩ := h2.isMapBlock
        rw [hit] at e
        cases e
      obtain ⟨cnt', hc, hR⟩ := hr1 r m left cnt (hr.kept (World.grownBy_alloc w _ none) (by simp) (by simp))
      refine ⟨no', cnt', hc, ?_⟩
      have hR2 := (hR.kept hgs (by simp; omega) (by simp; omega)).kept hg2 (by simpa using ne) (by simpa using hrc)
      obtain ⟨D, l, a1, a2, a3, a4⟩ := hR2
      refine ⟨D, l, a1, a2, fun j hj => ?_, a4⟩
      have := a3 j hj
      rw [(oc j).1, ← HNK.out]
      exact this

/-- A hold as it is taken in. -/
def asOpen (h : Nat → Int) (n : Int) : Nat → Int := fun j => if j = 0 then n else if j = 7 then 1 else h j
theorem open_add (H : List (Nat → Int)) (h : Nat → Int) (j : Int) :
    openOf (H ++ [asOpen h ((H.length : Int) + 1)]) j = updM (openOf H) ((H.length : Int) + 1) (asOpen h ((H.length : Int) + 1)) j ∧ closedOf (H ++ [asOpen h ((H.length : Int) + 1)]) j = closedOf H j := by
  unfold openOf closedOf updM
  by_cases e : j = (H.length : Int) + 1
  · subst e
    have e1 : ((H.length : Int) + 1 - 1).toNat = H.length := by omega
    rw [e1]
    simp [asOpen]
    omega
  · by_cases h1 : 1 ≤ j
    · have e2 : (H ++ [asOpen h ((H.length : Int) + 1)])[(j - 1).toNat]? = H[(j - 1).toNat]? := by
        by_cases hl : (j - 1).toNat < H.length
        · rw [List.getElem?_append_left hl]
        · rw [List.getElem?_append_right (by omega), List.getElem?_eq_none (l := H) (by omega)]
          rw [List.getElem?_eq_none]
          simp
          omega
      rw [e2, if_neg e]
      exact ⟨rfl, rfl⟩
    · simp [e, h1]

set_option maxRecDepth 100000 in
set_option maxHeartbeats 1000000 in
theorem add_any (w : World) {bk mo mc : Nat} {H : List (Nat → Int)} (hB : BookAt w bk mo mc H) (h : Nat → Int) (hl : H.length < 60) :
    Calls Tryz.prog 101 #[.pointer (some ⟨bk, 0, none⟩), cmdV h] w fun e w' => e = .returned (.int .i64 ((H.length : Int) + 1)) ∧ BookAt w' bk mo mc (H ++ [asOpen h ((H.length : Int) + 1)]) ∧ Turned (fun b => b = mo) w w' := by
  have hB1 := hB.alloc (.cells (cmdC h) 57)
  have hbk := hB.bk_lt
  have hmol := hB.mo_lt
  have hmcl := hB.mc_lt
  obtain ⟨q1, q2⟩ := hB.maps'
  go_enter Tryz.func101, Tryz.ntmps101
  go_wp2_with fail
  refine (made_any _ hB1).mono ?_
  rintro e w1 ⟨rfl, hb1⟩
  have hB2 := hB1.below hb1
  have hs1 := hb1.size
  simp only [World.size_alloc] at hs1
  obtain ⟨d0, d1, d2, d3, d4, d5, d6, d7⟩ := ((CmdAt.new w h 57).below hb1 (by simp)).all
  have F1 := (free_new w (cmdC h) 57).below hb1 (by simp)
  have f0 := F1 0
  have f7 := F1 7
  have T1 : Turned (fun b => b = mo) w w1 := ((Turned.refl _ w).alloc _).thenBelow hb1
  have hNI : I64 ((H.length : Int) + 1) := by constructor <;> omega
  clear hB hB1 hb1
  obtain ⟨c0, c1, ne, ⟨no, nc, h1, h2, h3⟩, len⟩ := hB2
  have hon : openOf H ((H.length : Int) + 1) = none := by
    unfold openOf
    rw [if_pos (by omega), List.getElem?_eq_none (by omega)]
  have h1b : MapIs (((w1.setCell ⟨w.heap.size, 0, none⟩ (.int .i64 ((H.length : Int) + 1))).setCell ⟨w.heap.size, 7, none⟩ (.int .i64 1)).drew) mo (openOf H) no := by
    refine h1.block ?_
    show ((w1.setCell ⟨w.heap.size, 0, none⟩ (.int .i64 ((H.length : Int) + 1))).setCell ⟨w.heap.size, 7, none⟩ (.int .i64 1)).heap[mo]? = _
    rw [Below.heap_setCell _ _ _ _ (by show mo ≠ w.heap.size; omega), Below.heap_setCell _ _ _ _ (by show mo ≠ w.heap.size; omega)]
  obtain ⟨w2, hrun, hm2, ht2⟩ := h1b.store hNI (by omega) hon (asOpen h ((H.length : Int) + 1))
  have hrun' : (Instr.mapUpdate 98 (.map (some mo)) (.int .i64 ((H.length : Int) + 1)) (.agg #[.int .i64 ((H.length : Int) + 1), .int .i64 (h 1), .int .i64 (h 2), .int .i64 (h 3), .int .i64 (h 4), .int .i64 (h 5), .int .i64 (h 6), .int .i64 1])).run Tryz.prog (((w1.setCell ⟨w.heap.size, 0, none⟩ (.int .i64 ((H.length : Int) + 1))).setCell ⟨w.heap.size, 7, none⟩ (.int .i64 1)).drew) = .ok () w2 := hrun
  clear hrun
  have hg2 := ht2.grown
  have e0 : w2.cell? ⟨w.heap.size, 0, none⟩ = some (.int .i64 ((H.length : Int) + 1)) := by
    refine hg2.cell ?_ (by simp; omega)
    go_simp
  go_wp2
  go_region
  all_goals
    go_wp2
    go_ret
  all_goals
    have oc := open_add H h
    have T2 : Turned (fun b => b = mo) w w2 := (((T1.setCell (p := ⟨w.heap.size, 0, none⟩) (Or.inr (Nat.le_refl _)) _).setCell (p := ⟨w.heap.size, 7, none⟩) (Or.inr (Nat.le_refl _)) _).thenBelow (Below.refl _ _).drew).map ht2 rfl
    have hgs : w1.grownBy (((w1.setCell ⟨w.heap.size, 0, none⟩ (.int .i64 ((H.length : Int) + 1))).setCell ⟨w.heap.size, 7, none⟩ (.int .i64 1)).drew) (some w.heap.size) :=
      (grown_setCell0 w1 ⟨w.heap.size, 0, none⟩ _).trans (grown_setCell _ ⟨w.heap.size, 7, none⟩ _)
    refine ⟨rfl, ⟨?_, ?_, ne, ⟨no + 1, nc, ?_, ?_, by simp; omega⟩, by simp; omega⟩, T2⟩
    · exact hg2.cell (hgs.cell c0 (by simp; omega)) (by simpa using q1)
    · exact hg2.cell (hgs.cell c1 (by simp; omega)) (by simpa using q1)
    · exact hm2.congr (fun j _ => ((oc j).1).symm)
    · refine ((h2.kept hgs ?_).kept hg2 (by simpa using ne.symm)).congr (fun j _ => ((oc j).2).symm)
      simp
      omega

end Go.Proofs.YtdblmheoghhepaaGreatDoor

/- 'Expire'. -/
namespace Go.Proofs.YtdblmheoghhepaaGreatDoor
open Go.RowKit

def expB (now : Int) (h : Nat → Int) : Bool := h 7 == 1 && decide (h 6 ≤ now)
def exp1 (now : Int) (h : Nat → Int) : Nat → Int := if expB now h = true then setSt h 4 else h
def expL (now : Int) (H : List (Nat → Int)) : List (Nat → Int) := H.map (exp1 now)

/-- H', of which those whose numbers are no longer to come are expired if they must be. -/
def ExpTo (now : Int) (H H' : List (Nat → Int)) (left : Int → Bool) : Prop := ∀ k : Nat, H'[k]? = (H[k]?).map fun h => if left ((k : Int) + 1) = true then h else exp1 now h

theorem ExpTo.len {now : Int} {H H' : List (Nat → Int)} {left : Int → Bool} (h : ExpTo now H H' left) : H'.length = H.length := by
  have a := h H.length
  have b := h H'.length
  simp at a
  have c : (H[H'.length]?).map (fun h => if left ((H'.length : Int) + 1) = true then h else exp1 now h) = none := by rw [← b]; simp
  simp at c
  omega
theorem ExpTo.start {now : Int} {H : List (Nat → Int)} {left : Int → Bool} (hl : ∀ k, (openOf H k).isSome = true → left k = true) : ExpTo now H H left := by
  intro k
  cases e : H[k]? with
  | none => rfl
  | some h =>
    simp only [Option.map_some, Option.some.injEq]
    by_cases h7 : h 7 = 1
    · rw [if_pos]
      apply hl
      rw [(at_open (k := (k : Int) + 1) (by omega) (by simpa using e)).1, if_pos h7]
      rfl
    · split
      · rfl
      · simp [exp1, expB, h7]
theorem ExpTo.fin {now : Int} {H H' : List (Nat → Int)} {left : Int → Bool} (h : ExpTo now H H' left) (hn : H.length ≤ 60) (hl : ∀ k, I64 k → left k = false) : H' = expL now H := by
  apply List.ext_getElem?
  intro k
  rw [h k, expL, List.getElem?_map]
  cases e : H[k]? with
  | none => rfl
  | some x =>
    have : k < H.length := (List.getElem?_eq_some_iff.1 e).1
    simp [hl ((k : Int) + 1) (by constructor <;> omega)]

theorem of_open {H : List (Nat → Int)} {x : Int} {c : Nat → Int} (h : openOf H x = some c) : 1 ≤ x ∧ H[(x - 1).toNat]? = some c ∧ c 7 = 1 := by
  unfold openOf at h
  split at h
  · rename_i hx
    split at h
    · rename_i y hy
      split at h
      · rename_i h7
        cases h
        exact ⟨hx, hy, h7⟩
      · cases h
    · cases h
  · cases h

theorem RangeIs.congr {w : World} {b r n cnt : Nat} {M : Int → Option (Nat → Int)} {l l' : Int → Bool} (h : RangeIs w b r M n l cnt) (e : ∀ k, l k = l' k) : RangeIs w b r M n l' cnt := by
  obtain ⟨D, q, a, b, c, d⟩ := h
  exact ⟨D, q, a, b, c, fun k hk => (d k hk).trans (e k)⟩

/-- One hold comes out that must not expire. -/
theorem ExpTo.keep {now : Int} {H H' : List (Nat → Int)} {left : Int → Bool} (h : ExpTo now H H' left) {x : Int} {c : Nat → Int} (hx : 1 ≤ x) (hc : H'[(x - 1).toNat]? = some c) (hl : left x = true) (he : expB now c = false) : ExpTo now H H' (fun z => left z && !(z == x)) := by
  intro k
  rw [h k]
  cases e : H[k]? with
  | none => rfl
  | some y =>
    simp only [Option.map_some, Option.some.injEq]
    by_cases hk : (k : Int) + 1 = x
    · have e1 : (x - 1).toNat = k := by omega
      rw [e1, h k, e, hk, hl] at hc
      simp at hc
      subst hc
      simp [hk, hl, exp1, he]
    · simp [hk]
/-- .. that must. -/
theorem ExpTo.close {now : Int} {H H' : List (Nat → Int)} {left : Int → Bool} (h : ExpTo now H H' left) {x : Int} {c : Nat → Int} (hx : 1 ≤ x) (hc : H'[(x - 1).toNat]? = some c) (hl : left x = true) (he : expB now c = true) : ExpTo now H (closeAt H' (x - 1).toNat 4) (fun z => left z && !(z == x)) := by
  intro k
  unfold closeAt
  rw [List.getElem?_modify, h k]
  cases e : H[k]? with
  | none => rfl
  | some y =>
    by_cases hk : (k : Int) + 1 = x
    · have e1 : (x - 1).toNat = k := by omega
      rw [e1, h k, e, hk, hl] at hc
      simp at hc
      subst hc
      simp [hk, hl, exp1, he, e1]
    · have e1 : (x - 1).toNat ≠ k := by omega
      simp only [Option.map_eq_map, Option.map_some, e1, if_false]
      simp [hk]

set_option maxRecDepth 100000 in
set_option maxHeartbeats 1000000 in
theorem expire_any (w : World) {bk mo mc : Nat} {H : List (Nat → Int)} (hB : BookAt w bk mo mc H) (now : Int) :
    Calls Tryz.prog 102 #[.pointer (some ⟨bk, 0, none⟩), .int .i64 now] w fun e w' => e = .returned (.tuple #[]) ∧ BookAt w' bk mo mc (expL now H) ∧ Turned (fun b => b = mo ∨ b = mc) w w' := by
  have hlen := hB.len
  have hbk := hB.bk_lt
  have hmo := hB.mo_lt
  have hmc := hB.mc_lt
  have hB0 := hB
  obtain ⟨c0, c1, ne, ⟨no, nc, h1, h2, h3⟩, _⟩ := hB0
  go_enter Tryz.func102, Tryz.ntmps102
  go_wp2_with (at_range; refine wp_range _ rfl _ rfl mo no (openOf H) rfl h1 ?_; intro w0 hrg0 hg0 hs0)
  try go_frame
  have hB1 : BookAt w0 bk mo mc H := hB.same (hg0.block _ hbk (by simp)) (hg0.block _ hmo (by simp)) (hg0.block _ hmc (by simp))
  have T0 : Turned (fun b => b = mo ∨ b = mc) w w0 := Turned.ofGrown hg0 (by simp)
  generalize hr : w.heap.size = r at *
  have hrw : Hid (w.heap.size = r) := hr
  clear hr hB h1 h2 c0 c1
  go_loopw [4] (fun _ wr => ∃ H' left m cnt, ExpTo now H H' left ∧ RangeIs wr mo r (openOf H') m left cnt ∧ BookAt wr bk mo mc H' ∧ Turned (fun b => b = mo ∨ b = mc) w wr) (fun _ wr => wr.rangeLeft mo r)
  case atStart => exact ⟨H, _, no, no, ExpTo.start (fun k hk => hk), hrg0, hB1, T0⟩
  case round =>
    obtain ⟨H', left, m, cnt, hE, hrg, hBr, hT⟩ := hrel
    clear hrg0 hB1 T0
    go_wp2_with (at_next; refine wp_next _ rfl _ rfl mo r m (openOf H') left cnt rfl hrg ?_ ?_)
    · intro _ hl0
      have hfin := hE.fin hlen (fun k hk => hl0 k hk.1 hk.2)
      rw [hfin] at hBr
      clear hfin hE hrg
      go_wp2
      go_end0
      exact ⟨rfl, hBr, hT⟩
    · intro x c w1 cnt1 hxa hxb hc hlx hrg1 hlt hg1 hs1 hen
      obtain ⟨x1, xk, x7⟩ := of_open hc
      have hrl := hrw.out
      have hB1 : BookAt w1 bk mo mc H' := hBr.same (hg1.block _ hBr.bk_lt (by simp; omega)) (hg1.block _ hBr.mo_lt (by simp; omega)) (hg1.block _ hBr.mc_lt (by simp; omega))
      have hrr : r < w1.heap.size := by
        obtain ⟨_, _, _, _, hit⟩ := hrg1.iter
        exact (Array.getElem?_eq_some_iff.1 hit).1
      have hle := hrg.left_eq
      have T1 : Turned (fun b => b = mo ∨ b = mc) w w1 := ⟨hg1.os.trans hT.os, hg1.tape.trans hT.tape, hg1.output.trans hT.output, Nat.le_trans hT.size hg1.size, fun k hk hn => (hg1.block k (Nat.lt_of_lt_of_le hk hT.size) (by simp; omega)).trans (hT.block k hk hn)⟩
      have HC : Hid (openOf H' x = some c) := hc
      have HK : Hid (H'[(x - 1).toNat]? = some c) := xk
      have H7 : Hid (c 7 = 1) := x7
      clear hc xk x7 hrg hBr hg1 hT hrl
      by_cases hend : c 6 ≤ now
      · have he : Hid (expB now c = true) := by show _ = _; simp [expB, H7.out, hend]
        go_wp2_with fail
        refine (close_some _ (hB1.alloc _) (x - 1).toNat x 4 (by omega) (by omega) c HK.out H7.out).mono ?_
        rintro e w2 ⟨rfl, hB2, hT2, hR2⟩
        obtain ⟨m', cnt2, hcnt, hrg2⟩ := hR2 r m _ cnt1 (hrg1.kept (World.grownBy_alloc w1 _ none) (by simp) (by simp))
        have hrg3 := hrg2.congr (l' := fun z => left z && !(z == x)) (fun k => by cases left k <;> cases (k == x) <;> rfl)
        have T2 := (T1.alloc (.cells (cmdC c) 57)).trans hT2
        have E2 := hE.close x1 HK.out hlx he.out
        have hle3 := hrg3.left_eq
        clear hB1 hT2 hR2 hrg2 hrg1 T1 hE hen
        go_wp2
        go_roundw
        case rel => exact ⟨_, _, m', cnt2, E2, hrg3, hB2, T2⟩
        case measure => rw [hle3, hle]; omega
      · have he : Hid (expB now c = false) := by show _ = _; simp [expB, hend]
        have E2 := hE.keep x1 HK.out hlx he.out
        have hrg3 := hrg1.kept (World.grownBy_alloc w1 (.cells (cmdC c) 57) none) (by simp) (by simp)
        have B3 := hB1.alloc (.cells (cmdC c) 57)
        have T2 := T1.alloc (.cells (cmdC c) 57)
        have hle3 := hrg3.left_eq
        clear hB1 hrg1 T1 hE
        go_wp2
        go_roundw
        case rel => exact ⟨_, _, m, cnt1, E2, hrg3, B3, T2⟩
        case measure => rw [hle3, hle]; omega

end Go.Proofs.YtdblmheoghhepaaGreatDoor

/- 'band', 'Ages'. -/
namespace Go.Proofs.YtdblmheoghhepaaGreatDoor
open Go.RowKit

def bandOf (a : Int) : Int := if a < 10 then 0 else if a < 100 then 1 else 2
set_option maxRecDepth 100000 in
set_option maxHeartbeats 400000 in
theorem band_any (a : Int) (w : World) : Calls Tryz.prog 92 #[.int .i64 a] w fun e w' => e = .returned (.int .i64 (bandOf a)) ∧ w = w' := by
  go_enter Tryz.func92, Tryz.ntmps92
  go_wp2
  all_goals go_ret
  all_goals refine ⟨ret_int ?_, rfl⟩
  all_goals (unfold bandOf; first | (rw [if_pos (by omega)]; done) | (rw [if_neg (by omega), if_pos (by omega)]; done) | (rw [if_neg (by omega), if_neg (by omega)]; done))
theorem bandOf_cases (a : Int) : bandOf a = 0 ∨ bandOf a = 1 ∨ bandOf a = 2 := by unfold bandOf; split <;> (try split) <;> simp

/-- How many open holds there are of a band. -/
def ageP (now : Int) (b : Int) (h : Nat → Int) : Bool := h 7 == 1 && bandOf (now - h 5) == b
def ages (H : List (Nat → Int)) (now : Int) (b : Int) : Nat := H.countP (ageP now b)
/-- .. whose numbers have come out. -/
def ageK (H : List (Nat → Int)) (now : Int) (left : Int → Bool) (b : Int) (k : Nat) : Bool := ageP now b ((H[k]?).getD zeroH) && !left ((k : Int) + 1)
def agesTo (H : List (Nat → Int)) (now : Int) (left : Int → Bool) (b : Int) : Nat := (List.range H.length).countP (ageK H now left b)

theorem countP_one {p q : Nat → Bool} {k : Nat} (hp : p k = false) (hq : q k = true) (h : ∀ j, j ≠ k → p j = q j) : ∀ l : List Nat, l.Nodup → k ∈ l → l.countP q = l.countP p + 1
  | [], _, hk => by cases hk
  | a :: t, hn, hk => by
    rw [List.nodup_cons] at hn
    rw [List.countP_cons, List.countP_cons]
    by_cases e : a = k
    · subst e
      have : t.countP q = t.countP p := by
        apply List.countP_congr
        intro x hx
        rw [h x (fun e => hn.1 (e ▸ hx))]
      simp [hp, hq, this]
    · have ih := countP_one hp hq h t hn.2 (by
        rcases List.mem_cons.1 hk with h1 | h1
        · exact absurd h1.symm e
        · exact h1)
      rw [ih, h a e]
      omega
theorem list_range (H : List (Nat → Int)) : H = (List.range H.length).map fun k => (H[k]?).getD zeroH := by
  apply List.ext_getElem?
  intro k
  rw [List.getElem?_map]
  by_cases h : k < H.length
  · rw [List.getElem?_range h]; simp [h]
  · rw [List.getElem?_eq_none (l := List.range H.length) (by simpa using h), List.getElem?_eq_none (l := H) (by omega)]; rfl
theorem agesTo_start (H : List (Nat → Int)) (now : Int) (left : Int → Bool) (hl : ∀ k, left k = (openOf H k).isSome) (b : Int) : agesTo H now left b = 0 := by
  unfold agesTo
  rw [List.countP_eq_zero]
  intro k hk
  have hk' : k < H.length := by simpa using hk
  have e : H[k]? = some H[k] := by simp [hk']
  unfold ageK ageP
  rw [e, hl, (at_open (h := H[k]) (k := (k : Int) + 1) (by omega) (by rw [show ((k : Int) + 1 - 1).toNat = k by omega]; exact e)).1]
  simp only [Option.getD_some]
  by_cases h7 : H[k] 7 = 1 <;> simp [h7]
theorem agesTo_fin (H : List (Nat → Int)) (now : Int) (left : Int → Bool) (hn : H.length ≤ 60) (hl : ∀ k, I64 k → left k = false) (b : Int) : agesTo H now left b = ages H now b := by
  have e : ages H now b = (List.range H.length).countP (fun k => ageP now b ((H[k]?).getD zeroH)) := by
    unfold ages
    conv => lhs; rw [list_range H]
    rw [List.countP_map]
    rfl
  rw [e]
  unfold agesTo
  apply List.countP_congr
  intro k hk
  have hk' : k < H.length := by simpa using hk
  unfold ageK
  rw [hl ((k : Int) + 1) (by constructor <;> omega)]
  simp
theorem agesTo_step (H : List (Nat → Int)) (now : Int) (left : Int → Bool) {x : Int} {c : Nat → Int} (hx : 1 ≤ x) (hc : H[(x - 1).toNat]? = some c) (h7 : c 7 = 1) (hl : left x = true) (b : Int) :
    agesTo H now (fun z => left z && !(z == x)) b = agesTo H now left b + (if bandOf (now - c 5) = b then 1 else 0) := by
  have hk : (x - 1).toNat < H.length := (List.getElem?_eq_some_iff.1 hc).1
  have e1 : (((x - 1).toNat : Nat) : Int) + 1 = x := by omega
  have other : ∀ j, j ≠ (x - 1).toNat → ageK H now left b j = ageK H now (fun z => left z && !(z == x)) b j := by
    intro j hj
    unfold ageK
    have : ((j : Int) + 1 == x) = false := by simp; omega
    simp only [this, Bool.not_false, Bool.and_true]
  unfold agesTo
  by_cases e : bandOf (now - c 5) = b
  · rw [if_pos e]
    refine countP_one (k := (x - 1).toNat) ?_ ?_ other _ List.nodup_range (by simpa using hk)
    · unfold ageK; rw [e1, hl]; simp
    · unfold ageK ageP; rw [e1, hc]; simp [h7, e]
  · rw [if_neg e]
    apply List.countP_congr
    intro j _
    by_cases hj : j = (x - 1).toNat
    · subst hj
      unfold ageK ageP
      rw [hc]
      simp [e]
    · rw [other j hj]
theorem agesTo_le (H : List (Nat → Int)) (now : Int) (left : Int → Bool) (b : Int) : agesTo H now left b ≤ H.length := by
  have := List.countP_le_length (p := ageK H now left b) (l := List.range H.length)
  simpa [agesTo] using this

/-- The three numbers at a block. -/
def Ages3 (w : World) (b : Nat) (A : Int → Nat) : Prop := (w.cell? ⟨b, 0, none⟩ = some (.int .i64 (A 0 : Nat)) ∧ w.cell? ⟨b, 1, none⟩ = some (.int .i64 (A 1 : Nat)) ∧ w.cell? ⟨b, 2, none⟩ = some (.int .i64 (A 2 : Nat))) ∧ Free w b

theorem Ages3.same {w w' : World} {b : Nat} {A : Int → Nat} (h : Ages3 w b A) (e : w'.heap[b]? = w.heap[b]?) : Ages3 w' b A := by
  obtain ⟨⟨a0, a1, a2⟩, f⟩ := h
  exact ⟨⟨(World.cell?_of_block (a := ⟨b, 0, none⟩) e).trans a0, (World.cell?_of_block (a := ⟨b, 1, none⟩) e).trans a1, (World.cell?_of_block (a := ⟨b, 2, none⟩) e).trans a2⟩, fun j => (World.frozen?_of_block (a := ⟨b, j, none⟩) e).trans (f j)⟩

set_option maxRecDepth 100000 in
set_option maxHeartbeats 1000000 in
theorem ages_any (w : World) {bk mo mc : Nat} {H : List (Nat → Int)} (hB : BookAt w bk mo mc H) (now : Int) (hn : 0 ≤ now ∧ now ≤ 1000000) (hm : ∀ h ∈ H, 0 ≤ h 5 ∧ h 5 ≤ 1000000) :
    Calls Tryz.prog 62 #[.pointer (some ⟨bk, 0, none⟩), .int .i64 now] w fun e w' => e = .returned (.agg #[.int .i64 (ages H now 0 : Nat), .int .i64 (ages H now 1 : Nat), .int .i64 (ages H now 2 : Nat)]) ∧ Below w.heap.size w w' := by
  have hlen := hB.len
  have hbk := hB.bk_lt
  have hmo := hB.mo_lt
  have hmc := hB.mc_lt
  have hB0 := (hB.alloc (.cells #[.int .i64 0, .int .i64 0, .int .i64 0] 48)).alloc (.cells #[.int .i64 0, .int .i64 0, .int .i64 0] 48)
  obtain ⟨c0, c1, ne, ⟨no, nc, h1, h2, h3⟩, _⟩ := hB0
  go_enter Tryz.func62, Tryz.ntmps62
  go_wp2_with (at_range; refine wp_range _ rfl _ rfl mo no (openOf H) rfl h1 ?_; intro w0 hrg0 hg0 hs0)
  try go_frame
  have G0 : Below w.heap.size w ((w.alloc (.cells #[.int .i64 0, .int .i64 0, .int .i64 0] 48)).alloc (.cells #[.int .i64 0, .int .i64 0, .int .i64 0] 48)) := ((Below.refl _ _).alloc (Nat.le_refl _) _).alloc (by simp) _
  have A0 : Ages3 ((w.alloc (.cells #[.int .i64 0, .int .i64 0, .int .i64 0] 48)).alloc (.cells #[.int .i64 0, .int .i64 0, .int .i64 0] 48)) w.heap.size (fun _ => 0) := by
    refine ⟨⟨?_, ?_, ?_⟩, fun j => ?_⟩
    · rw [World.cell?_alloc_past _ _ _ (by simp), World.cell?_alloc_new]; rfl
    · rw [World.cell?_alloc_past _ _ _ (by simp), World.cell?_alloc_new]; rfl
    · rw [World.cell?_alloc_past _ _ _ (by simp), World.cell?_alloc_new]; rfl
    · exact (World.frozen?_of_block (Below.heap_alloc _ _ _ (by simp))).trans (free_new w _ 48 j)
  have A1 : Ages3 ((w.alloc (.cells #[.int .i64 0, .int .i64 0, .int .i64 0] 48)).alloc (.cells #[.int .i64 0, .int .i64 0, .int .i64 0] 48)) (w.heap.size + 1) (fun _ => 0) := by
    refine ⟨⟨?_, ?_, ?_⟩, fun j => ?_⟩
    · rw [World.cell?_alloc2_new]; rfl
    · rw [World.cell?_alloc2_new]; rfl
    · rw [World.cell?_alloc2_new]; rfl
    · simp
  have A0' := A0.same (hg0.block w.heap.size (by simp; omega) (by simp))
  have A1' := A1.same (hg0.block (w.heap.size + 1) (by simp) (by simp))
  have B0 : Below w.heap.size w w0 := G0.grown hg0 (by simp; omega) (by simp)
  have hs00 : w0.heap.size = w.heap.size + 3 := by simpa using hs0
  have hrg00 : RangeIs w0 mo (w.heap.size + 2) (openOf H) no (fun k => (openOf H k).isSome) no := by simpa using hrg0
  simp only [World.size_alloc]
  clear hg0 hs0 hrg0 G0 A0 A1 c0 c1 h1 h2 hB
  go_loopw [7] (fun _ wr => ∃ left cnt, RangeIs wr mo (w.heap.size + 2) (openOf H) no left cnt ∧ Ages3 wr w.heap.size (fun _ => 0) ∧ Ages3 wr (w.heap.size + 1) (agesTo H now left) ∧ Below w.heap.size w wr ∧ w.heap.size + 3 ≤ wr.heap.size) (fun _ wr => wr.rangeLeft mo (w.heap.size + 2))
  case atStart => 
    refine ⟨_, no, hrg00, A0', ?_, B0, by omega⟩
    obtain ⟨⟨a0, a1, a2⟩, f⟩ := A1'
    have z := agesTo_start H now (fun k => (openOf H k).isSome) (fun _ => rfl)
    exact ⟨⟨by rw [z]; exact a0, by rw [z]; exact a1, by rw [z]; exact a2⟩, f⟩
  case round =>
    obtain ⟨left, cnt, hrg, hA0, hA1, hb, hsz⟩ := hrel
    clear A0' A1' B0 hrg00
    go_wp2_with (at_next; refine wp_next _ rfl _ rfl mo (w.heap.size + 2) no (openOf H) left cnt rfl hrg ?_ ?_)
    · intro _ hl0
      have z := agesTo_fin H now left hlen (fun k hk => hl0 k hk.1 hk.2)
      obtain ⟨⟨a0, a1, a2⟩, f⟩ := hA1
      obtain ⟨⟨r0, r1, r2⟩, fr⟩ := hA0
      have fr0 := fr 0
      have fr1 := fr 1
      have fr2 := fr 2
      rw [z] at a0 a1 a2
      clear hrg z f fr
      go_wp2
      exact bodyPost_ret (v := .agg #[.int .i64 (ages H now 0 : Nat), .int .i64 (ages H now 1 : Nat), .int .i64 (ages H now 2 : Nat)]) (by simp [results, Tryz.results62, go_sem, r0, r1, r2]) rfl ⟨rfl, (((hb.setCell (p := ⟨w.heap.size, 0, none⟩) (Nat.le_refl _) _).setCell (p := ⟨w.heap.size, 1, none⟩) (Nat.le_refl _) _).setCell (p := ⟨w.heap.size, 2, none⟩) (Nat.le_refl _) _)⟩
    · intro x c w1 cnt1 hxa hxb hc hlx hrg1 hlt hg1 hs1 hen
      obtain ⟨x1, xk, x7⟩ := of_open hc
      have hle := hrg.left_eq
      have hcb := hm c (List.mem_of_getElem? xk)
      have st := agesTo_step H now left x1 xk x7 hlx
      have lb := agesTo_le H now left
      have A0 := hA0.same (hg1.block w.heap.size (by omega) (by simp))
      have A1 := hA1.same (hg1.block (w.heap.size + 1) (by omega) (by simp))
      have hb1 : Below w.heap.size w w1 := hb.grown hg1 (by omega) (by simp)
      obtain ⟨⟨a0, a1, a2⟩, f⟩ := A1
      have f0 := f 0
      have f1 := f 1
      have f2 := f 2
      have l0 := lb 0
      have l1 := lb 1
      have l2 := lb 2
      have ST : Hid (∀ b, agesTo H now (fun z => left z && !(z == x)) b = agesTo H now left b + (if bandOf (now - c 5) = b then 1 else 0)) := st
      clear st hA0 hA1 hg1 hrg hb hc xk lb x7
      have z1 : w.heap.size + 1 < w1.heap.size := by omega
      have HS : Hid (w1.heap.size = wr.heap.size) := hs1
      clear hs1
      rcases bandOf_cases (now - c 5) with e | e | e
      · have E : Hid (bandOf (now - c 5) = 0) := e
        clear e
        go_wp2_with (go_at_call 92; refine (band_any _ _).mono ?_; rintro e w' ⟨rfl, rfl⟩; rw [E.out])
        have A12 : Ages3 (w1.setCell ⟨w.heap.size + 1, 0, none⟩ (.int .i64 ((agesTo H now left 0 : Nat) + 1))) (w.heap.size + 1) (agesTo H now (fun z => left z && !(z == x))) := by
          have s0 := ST.out 0
          have s1 := ST.out 1
          have s2 := ST.out 2
          rw [E.out] at s0 s1 s2
          simp at s0 s1 s2
          refine ⟨⟨?_, ?_, ?_⟩, fun j => ?_⟩
          · rw [s0]; simp [go_sem, a0]
          · rw [s1]; simp [go_sem, a1]
          · rw [s2]; simp [go_sem, a2]
          · rw [World.frozen?_setCell]; exact f j
        have R2 := hrg1.kept (grown_setCell0 _ ⟨w.heap.size + 1, 0, none⟩ (.int .i64 ((agesTo H now left 0 : Nat) + 1))) (by simp; omega) (by simp)
        have B2 := hb1.setCell (p := ⟨w.heap.size + 1, 0, none⟩) (Nat.le_succ _) (.int .i64 ((agesTo H now left 0 : Nat) + 1))
        have A03 := A0.same (Below.heap_setCell w1 ⟨w.heap.size + 1, 0, none⟩ (.int .i64 ((agesTo H now left 0 : Nat) + 1)) w.heap.size (by simp))
        clear hrg1 A0 hb1
        go_roundw
        case rel => exact ⟨_, cnt1, R2.kept (World.grownBy_alloc _ _ none) (by simp) (by simp), A03.same (Below.heap_alloc _ _ _ (by simp [World.setCell]; omega)), A12.same (Below.heap_alloc _ _ _ (by simp [World.setCell]; omega)), B2.alloc (by simp [World.setCell]; omega) _, by simp [World.setCell]; omega⟩
        case measure => rw [(R2.kept (World.grownBy_alloc _ _ none) (by simp) (by simp)).left_eq, hle]; omega
      · have E : Hid (bandOf (now - c 5) = 1) := e
        clear e
        go_wp2_with (go_at_call 92; refine (band_any _ _).mono ?_; rintro e w' ⟨rfl, rfl⟩; rw [E.out])
        have A12 : Ages3 (w1.setCell ⟨w.heap.size + 1, 1, none⟩ (.int .i64 ((agesTo H now left 1 : Nat) + 1))) (w.heap.size + 1) (agesTo H now (fun z => left z && !(z == x))) := by
          have s0 := ST.out 0
          have s1 := ST.out 1
          have s2 := ST.out 2
          rw [E.out] at s0 s1 s2
          simp at s0 s1 s2
          refine ⟨⟨?_, ?_, ?_⟩, fun j => ?_⟩
          · rw [s0]; simp [go_sem, a0]
          · rw [s1]; simp [go_sem, a1]
          · rw [s2]; simp [go_sem, a2]
          · rw [World.frozen?_setCell]; exact f j
        have R2 := hrg1.kept (grown_setCell0 _ ⟨w.heap.size + 1, 1, none⟩ (.int .i64 ((agesTo H now left 1 : Nat) + 1))) (by simp; omega) (by simp)
        have B2 := hb1.setCell (p := ⟨w.heap.size + 1, 1, none⟩) (Nat.le_succ _) (.int .i64 ((agesTo H now left 1 : Nat) + 1))
        have A03 := A0.same (Below.heap_setCell w1 ⟨w.heap.size + 1, 1, none⟩ (.int .i64 ((agesTo H now left 1 : Nat) + 1)) w.heap.size (by simp))
        clear hrg1 A0 hb1
        go_roundw
        case rel => exact ⟨_, cnt1, R2.kept (World.grownBy_alloc _ _ none) (by simp) (by simp), A03.same (Below.heap_alloc _ _ _ (by simp [World.setCell]; omega)), A12.same (Below.heap_alloc _ _ _ (by simp [World.setCell]; omega)), B2.alloc (by simp [World.setCell]; omega) _, by simp [World.setCell]; omega⟩
        case measure => rw [(R2.kept (World.grownBy_alloc _ _ none) (by simp) (by simp)).left_eq, hle]; omega
      · have E : Hid (bandOf (now - c 5) = 2) := e
        clear e
        go_wp2_with (go_at_call 92; refine (band_any _ _).mono ?_; rintro e w' ⟨rfl, rfl⟩; rw [E.out])
        have A12 : Ages3 (w1.setCell ⟨w.heap.size + 1, 2, none⟩ (.int .i64 ((agesTo H now left 2 : Nat) + 1))) (w.heap.size + 1) (agesTo H now (fun z => left z && !(z == x))) := by
          have s0 := ST.out 0
          have s1 := ST.out 1
          have s2 := ST.out 2
          rw [E.out] at s0 s1 s2
          simp at s0 s1 s2
          refine ⟨⟨?_, ?_, ?_⟩, fun j => ?_⟩
          · rw [s0]; simp [go_sem, a0]
          · rw [s1]; simp [go_sem, a1]
          · rw [s2]; simp [go_sem, a2]
          · rw [World.frozen?_setCell]; exact f j
        have R2 := hrg1.kept (grown_setCell0 _ ⟨w.heap.size + 1, 2, none⟩ (.int .i64 ((agesTo H now left 2 : Nat) + 1))) (by simp; omega) (by simp)
        have B2 := hb1.setCell (p := ⟨w.heap.size + 1, 2, none⟩) (Nat.le_succ _) (.int .i64 ((agesTo H now left 2 : Nat) + 1))
        have A03 := A0.same (Below.heap_setCell w1 ⟨w.heap.size + 1, 2, none⟩ (.int .i64 ((agesTo H now left 2 : Nat) + 1)) w.heap.size (by simp))
        clear hrg1 A0 hb1
        go_roundw
        case rel => exact ⟨_, cnt1, R2.kept (World.grownBy_alloc _ _ none) (by simp) (by simp), A03.same (Below.heap_alloc _ _ _ (by simp [World.setCell]; omega)), A12.same (Below.heap_alloc _ _ _ (by simp [World.setCell]; omega)), B2.alloc (by simp [World.setCell]; omega) _, by simp [World.setCell]; omega⟩
        case measure => rw [(R2.kept (World.grownBy_alloc _ _ none) (by simp) (by simp)).left_eq, hle]; omega

end Go.Proofs.YtdblmheoghhepaaGreatDoor
