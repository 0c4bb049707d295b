/- The parts of a command, and commands, as plain data; what 'needsOf' answers. -/
import Derived.Test.YtdblmheoghhepaaGreatDoorProg
import Derived.WalkKit
import Derived.WalkSpells
import Derived.WalkLawsBesides
namespace Go.Proofs.YtdblmheoghhepaaGreatDoor
open Go.RowKit

/-- One number of a command: what it may be, and how it stands in a frame. -/
structure Part where
  need : Int
  low : Int
  high : Int
  width : Nat
  lift : Int
abbrev Part.cells (p : Part) : List Value := [.int .u16 p.need, .int .i64 p.low, .int .i64 p.high, .int .i64 (p.width : Int), .int .i64 p.lift]
abbrev Part.val (p : Part) : Value := .agg #[.int .u16 p.need, .int .i64 p.low, .int .i64 p.high, .int .i64 (p.width : Int), .int .i64 p.lift]

def table : List Part := [⟨1, 1, 8, 1, 0⟩, ⟨2, 0, 2147483647, 4, 0⟩, ⟨4, 0, 3, 1, 0⟩, ⟨8, 0, 2, 1, 0⟩, ⟨16, 0, 15, 1, 0⟩, ⟨32, 1, 1000000, 4, 0⟩,
  ⟨64, -1000000, 1000000, 4, 2147483648⟩, ⟨128, 1, 4294967295, 4, 0⟩, ⟨256, 1, 1000, 2, 0⟩]

/-- The place of a part's number among a command's eight. -/
def ix (need : Int) : Nat :=
  if need = 1 then 0 else if need = 2 then 1 else if need = 4 then 2 else if need = 8 then 3 else if need = 16 then 4 else if need = 32 then 5 else if need = 64 then 5 else if need = 128 then 6 else 7

def takesB (p : Part) (n : Int) : Bool := !(p.need == 64 && n == 0) && (decide (p.low ≤ n) && decide (n ≤ p.high))

/-- A command: its eight numbers. -/
abbrev cmdV (f : Nat → Int) : Value := .agg #[.int .i64 (f 0), .int .i64 (f 1), .int .i64 (f 2), .int .i64 (f 3), .int .i64 (f 4), .int .i64 (f 5), .int .i64 (f 6), .int .i64 (f 7)]
abbrev cmdC (f : Nat → Int) : Array Value := #[.int .i64 (f 0), .int .i64 (f 1), .int .i64 (f 2), .int .i64 (f 3), .int .i64 (f 4), .int .i64 (f 5), .int .i64 (f 6), .int .i64 (f 7)]

def needsOf (k : Int) : Int :=
  if k = 4 then 319 else if k = 2 then 55 else if k = 1 then 39 else if k = 3 then 47 else if k = 7 then 71 else if k = 5 then 131 else if k = 6 then 131 else if k = 8 then 259 else 3

theorem bcell {W w1 : World} (hb : Below W.heap.size W w1) : (∀ b o, b < W.heap.size → w1.cell? ⟨b, o, none⟩ = W.cell? ⟨b, o, none⟩) ∧ (∀ b o, b < W.heap.size → w1.frozen? ⟨b, o, none⟩ = W.frozen? ⟨b, o, none⟩) :=
  ⟨fun b o h => hb.cell (p := ⟨b, o, none⟩) h, fun b o h => hb.frozen (p := ⟨b, o, none⟩) h⟩

theorem w64 (n : Int) (h : -9223372036854775808 ≤ n ∧ n ≤ 9223372036854775807) : wrap64 n = n := by unfold wrap64; omega
theorem int_eq {k : IntKind} {a b : Int} (h : a = b) : Value.int k a = .int k b := by rw [h]
theorem ret_int {k : IntKind} {a b : Int} (h : a = b) : Ending.returned (.int k a) = .returned (.int k b) := by rw [h]
theorem ret_bool {a b : Bool} (h : a = b) : Ending.returned (.bool a) = .returned (.bool b) := by rw [h]

set_option maxRecDepth 100000 in
set_option maxHeartbeats 400000 in
theorem needs_any (k : Int) (w : World) :
    Calls Tryz.prog 96 #[.int .i64 k] w fun e w' => e = .returned (.int .u16 (needsOf k)) ∧ w = w' := by
  go_enter Tryz.func96, Tryz.ntmps96
  go_wp2
  all_goals go_ret
  all_goals refine ⟨ret_int ?_, rfl⟩
  all_goals (simp only [beq_iff_eq, beq_eq_false_iff_ne, ne_eq] at *; unfold needsOf; subst_vars; first | (simp [*]; done) | (simp [*]; decide) | decide)

end Go.Proofs.YtdblmheoghhepaaGreatDoor

/- What the methods of a part do: 'takes', 'in', 'width' (the closure). -/
namespace Go.Proofs.YtdblmheoghhepaaGreatDoor
open Go.RowKit

theorem ret_ptr {b o o' : Nat} (h : o = o') : Ending.returned (.pointer (some ⟨b, o, none⟩)) = .returned (.pointer (some ⟨b, o', none⟩)) := by rw [h]

set_option maxRecDepth 100000 in
set_option maxHeartbeats 400000 in
theorem width_any (p : Part) (w : World) :
    Calls Tryz.prog 98 #[p.val] w fun e w' => e = .returned (.int .i64 (p.width : Int)) ∧ Below w.heap.size w w' := by
  go_enter Tryz.func98, Tryz.ntmps98
  go_wp2
  go_ret
  exact ⟨rfl, (Below.refl _ _).alloc (Nat.le_refl _) _⟩

set_option maxRecDepth 100000 in
set_option maxHeartbeats 400000 in
theorem takes_any (p : Part) (n : Int) (w : World) :
    Calls Tryz.prog 70 #[p.val, .int .i64 n] w fun e w' => e = .returned (.bool (takesB p n)) ∧ Below w.heap.size w w' := by
  go_enter Tryz.func70, Tryz.ntmps70
  go_wp2
  all_goals go_ret
  all_goals refine ⟨ret_bool ?_, (Below.refl _ _).alloc (Nat.le_refl _) _⟩
  all_goals (unfold takesB; simp [*] <;> omega)

set_option maxRecDepth 100000 in
set_option maxHeartbeats 400000 in
theorem in_any (p : Part) (b : Nat) (w : World) :
    Calls Tryz.prog 69 #[p.val, .pointer (some ⟨b, 0, none⟩)] w fun e w' => e = .returned (.pointer (some ⟨b, ix p.need, none⟩)) ∧ Below w.heap.size w w' := by
  go_enter Tryz.func69, Tryz.ntmps69
  go_wp2
  all_goals go_ret
  all_goals refine ⟨ret_ptr ?_, (Below.refl _ _).alloc (Nat.le_refl _) _⟩
  all_goals (simp only [beq_iff_eq, beq_eq_false_iff_ne, ne_eq] at *; simp [ix, *])

end Go.Proofs.YtdblmheoghhepaaGreatDoor

/- 'widthOf': the sum of the parts' widths. -/
namespace Go.Proofs.YtdblmheoghhepaaGreatDoor
open Go.RowKit

/-- Block g holds the parts L, five cells each. -/
def PartsAt (w : World) (g : Nat) (L : List Part) : Prop :=
  g < w.heap.size ∧ ∀ k p, L[k]? = some p → w.cell? ⟨g, k * 5, none⟩ = some (.int .u16 p.need) ∧ w.cell? ⟨g, k * 5 + 1, none⟩ = some (.int .i64 p.low) ∧ w.cell? ⟨g, k * 5 + 1 + 1, none⟩ = some (.int .i64 p.high) ∧
    w.cell? ⟨g, k * 5 + 1 + 1 + 1, none⟩ = some (.int .i64 (p.width : Int)) ∧ w.cell? ⟨g, k * 5 + 1 + 1 + 1 + 1, none⟩ = some (.int .i64 p.lift)

theorem PartsAt.below {w w' : World} {g : Nat} {L : List Part} (h : PartsAt w g L) (hb : Below w.heap.size w w') : PartsAt w' g L := by
  obtain ⟨h1, h2⟩ := h
  have hc := (bcell hb).1
  refine ⟨Nat.lt_of_lt_of_le h1 hb.size, fun k p hk => ?_⟩
  obtain ⟨a, b, c, d, e⟩ := h2 k p hk
  exact ⟨by rw [hc _ _ h1, a], by rw [hc _ _ h1, b], by rw [hc _ _ h1, c], by rw [hc _ _ h1, d], by rw [hc _ _ h1, e]⟩

theorem PartsAt.belowB {B : Nat} {w w' : World} {g : Nat} {L : List Part} (h : PartsAt w g L) (hb : Below B w w') (hg : g < B) : PartsAt w' g L := by
  obtain ⟨h1, h2⟩ := h
  have hc : ∀ o, w'.cell? ⟨g, o, none⟩ = w.cell? ⟨g, o, none⟩ := fun o => hb.cell (p := ⟨g, o, none⟩) hg
  refine ⟨Nat.lt_of_lt_of_le h1 hb.size, fun k p hk => ?_⟩
  obtain ⟨a, b, c, d, e⟩ := h2 k p hk
  exact ⟨by rw [hc, a], by rw [hc, b], by rw [hc, c], by rw [hc, d], by rw [hc, e]⟩

def wsum (L : List Part) : Nat := (L.map (·.width)).sum
theorem wsum_snoc (L : List Part) (p : Part) : wsum (L ++ [p]) = wsum L + p.width := by simp [wsum]
theorem wsum_le (L : List Part) (h : ∀ p ∈ L, p.width ≤ 4) : wsum L ≤ 4 * L.length := by
  induction L with
  | nil => simp [wsum]
  | cons a t ih =>
    have h1 := h a (by simp)
    have h2 := ih fun p hp => h p (by simp [hp])
    simp [wsum] at *
    omega

set_option maxRecDepth 100000 in
set_option maxHeartbeats 400000 in
theorem sum_any (L : List Part) (g : Nat) (w : World) (hL : L.length ≤ 9) (hw : ∀ p ∈ L, p.width ≤ 4) (hp : PartsAt w g L) :
    Calls Tryz.prog 97 #[.slice (some ⟨g, 0, none⟩) L.length 9, .func (.func 98) #[] #[]] w fun e w' => e = .returned (.int .i64 (wsum L : Nat)) ∧ Below w.heap.size w w' := by
  go_enter Tryz.func97, Tryz.ntmps97
  go_wp2
  go_loopw [5, 10] (fun s i wr => ∃ k : Nat, k ≤ L.length ∧ i = .int .i64 k ∧ s = .int .i64 (wsum (L.take k) : Nat) ∧ Below w.heap.size w wr) (fun _ i _ => L.length - (intOf i).toNat)
  case atStart => exact ⟨0, Nat.zero_le _, rfl, rfl, Below.refl _ _⟩
  case round =>
    obtain ⟨k, hk, rfl, rfl, hb⟩ := hrel
    have hle := wsum_le (L.take k) (fun p hp => hw p (List.mem_of_mem_take hp))
    have hlen : (L.take k).length ≤ k := List.length_take_le _ _
    by_cases hlt : k < L.length
    · obtain ⟨p, hpk⟩ : ∃ p, L[k]? = some p := ⟨L[k], by simp [hlt]⟩
      have hwp := hw p (List.mem_of_getElem? hpk)
      obtain ⟨c0, c1, c2, c3, c4⟩ := (hp.belowB hb hp.1).2 k p hpk
      have hs : Hid (wsum (L.take (k + 1)) = wsum (L.take k) + p.width) := by
        show _ = _
        rw [List.take_add_one, hpk]; exact wsum_snoc _ _
      clear hpk hp hw
      go_wp2_with (go_at_call 98; refine (width_any p _).mono ?_; rintro e w' ⟨rfl, hb'⟩)
      have hsz := hb.size
      go_roundw
      case rel => exact ⟨k + 1, by omega, by go_num, by rw [hs.out]; go_num, (hb.alloc hsz _).trans (hb'.mono (by simp; omega))⟩
      case measure => simp [intOf]; omega
    · have he : k = L.length := by omega
      subst he
      go_wp2
      go_ret
      exact ⟨by simp, hb⟩

set_option maxRecDepth 100000 in
set_option maxHeartbeats 400000 in
theorem widthOf_any (L : List Part) (g : Nat) (w : World) (hL : L.length ≤ 9) (hw : ∀ p ∈ L, p.width ≤ 4) (hp : PartsAt w g L) :
    Calls Tryz.prog 71 #[.slice (some ⟨g, 0, none⟩) L.length 9] w fun e w' => e = .returned (.int .i64 (wsum L : Nat)) ∧ Below w.heap.size w w' := by
  go_enter Tryz.func71, Tryz.ntmps71
  go_wp2_with (go_at_call 97; refine (sum_any L g _ hL hw hp).mono ?_; rintro e w' ⟨rfl, hb'⟩)
  go_ret
  exact ⟨rfl, hb'⟩

end Go.Proofs.YtdblmheoghhepaaGreatDoor

/- 'partsOf': the parts of the table that a kind needs. -/
namespace Go.Proofs.YtdblmheoghhepaaGreatDoor
open Go.RowKit

def tabC : Array Value := #[.int .u16 1, .int .i64 1, .int .i64 8, .int .i64 1, .int .i64 0, .int .u16 2, .int .i64 0, .int .i64 2147483647, .int .i64 4, .int .i64 0, .int .u16 4, .int .i64 0, .int .i64 3, .int .i64 1, .int .i64 0,
  .int .u16 8, .int .i64 0, .int .i64 2, .int .i64 1, .int .i64 0, .int .u16 16, .int .i64 0, .int .i64 15, .int .i64 1, .int .i64 0, .int .u16 32, .int .i64 1, .int .i64 1000000, .int .i64 4, .int .i64 0,
  .int .u16 64, .int .i64 (-1000000), .int .i64 1000000, .int .i64 4, .int .i64 2147483648, .int .u16 128, .int .i64 1, .int .i64 4294967295, .int .i64 4, .int .i64 0, .int .u16 256, .int .i64 1, .int .i64 1000, .int .i64 2, .int .i64 0]

/-- The table lies in block 0. -/
def TabW (w : World) : Prop := ∃ t fr, w.heap[0]? = some (.cells tabC t fr)
theorem TabW.below {B : Nat} {w w' : World} (h : TabW w) (hb : Below B w w') (hB : 0 < B) : TabW w' := by
  obtain ⟨t, fr, h⟩ := h
  exact ⟨t, fr, by rw [hb.block 0 hB]; exact h⟩
theorem TabW.pos {w : World} (h : TabW w) : 0 < w.heap.size := by
  obtain ⟨t, fr, h⟩ := h
  rcases Nat.eq_zero_or_pos w.heap.size with h0 | h0
  · rw [Array.getElem?_eq_none (by omega)] at h; cases h
  · exact h0

def wants (N : Int) (p : Part) : Bool := bits BinOp.and IntKind.u16 N p.need != 0
def partsL (k : Int) : List Part := table.filter (wants (needsOf k))

theorem info128 : (Tryz.prog.info? 128).map (fun i => (i.zero, i.size, i.bytes)) = some (some (.agg #[.int .u16 0, .int .i64 0, .int .i64 0, .int .i64 0, .int .i64 0]), 5, 40) := by kernel_rfl

theorem tab0 (w : World) : (Instr.index 150 (.agg tabC) (.int .i64 0)).run Tryz.prog w = .ok (.agg #[.int .u16 1, .int .i64 1, .int .i64 8, .int .i64 1, .int .i64 0]) w := by kernel_rfl
theorem tab1 (w : World) : (Instr.index 150 (.agg tabC) (.int .i64 1)).run Tryz.prog w = .ok (.agg #[.int .u16 2, .int .i64 0, .int .i64 2147483647, .int .i64 4, .int .i64 0]) w := by kernel_rfl
theorem tab2 (w : World) : (Instr.index 150 (.agg tabC) (.int .i64 2)).run Tryz.prog w = .ok (.agg #[.int .u16 4, .int .i64 0, .int .i64 3, .int .i64 1, .int .i64 0]) w := by kernel_rfl
theorem tab3 (w : World) : (Instr.index 150 (.agg tabC) (.int .i64 3)).run Tryz.prog w = .ok (.agg #[.int .u16 8, .int .i64 0, .int .i64 2, .int .i64 1, .int .i64 0]) w := by kernel_rfl
theorem tab4 (w : World) : (Instr.index 150 (.agg tabC) (.int .i64 4)).run Tryz.prog w = .ok (.agg #[.int .u16 16, .int .i64 0, .int .i64 15, .int .i64 1, .int .i64 0]) w := by kernel_rfl
theorem tab5 (w : World) : (Instr.index 150 (.agg tabC) (.int .i64 5)).run Tryz.prog w = .ok (.agg #[.int .u16 32, .int .i64 1, .int .i64 1000000, .int .i64 4, .int .i64 0]) w := by kernel_rfl
theorem tab6 (w : World) : (Instr.index 150 (.agg tabC) (.int .i64 6)).run Tryz.prog w = .ok (.agg #[.int .u16 64, .int .i64 (-1000000), .int .i64 1000000, .int .i64 4, .int .i64 2147483648]) w := by kernel_rfl
theorem tab7 (w : World) : (Instr.index 150 (.agg tabC) (.int .i64 7)).run Tryz.prog w = .ok (.agg #[.int .u16 128, .int .i64 1, .int .i64 4294967295, .int .i64 4, .int .i64 0]) w := by kernel_rfl
theorem tab8 (w : World) : (Instr.index 150 (.agg tabC) (.int .i64 8)).run Tryz.prog w = .ok (.agg #[.int .u16 256, .int .i64 1, .int .i64 1000, .int .i64 2, .int .i64 0]) w := by kernel_rfl
/-- The k-th part of the table, by its index. -/
theorem tabAt (k : Nat) (p : Part) (h : table[k]? = some p) (w : World) : (Instr.index 150 (.agg tabC) (.int .i64 (k : Int))).run Tryz.prog w = .ok p.val w := by
  match k, h with
  | 0, h => simp [table] at h; subst h; exact tab0 w
  | 1, h => simp [table] at h; subst h; exact tab1 w
  | 2, h => simp [table] at h; subst h; exact tab2 w
  | 3, h => simp [table] at h; subst h; exact tab3 w
  | 4, h => simp [table] at h; subst h; exact tab4 w
  | 5, h => simp [table] at h; subst h; exact tab5 w
  | 6, h => simp [table] at h; subst h; exact tab6 w
  | 7, h => simp [table] at h; subst h; exact tab7 w
  | 8, h => simp [table] at h; subst h; exact tab8 w
  | k + 9, h => simp [table] at h

def got (N : Int) (k : Nat) : List Part := (table.take k).filter (wants N)
theorem got_yes (N : Int) (k : Nat) (p : Part) (h : table[k]? = some p) (hw : wants N p = true) : got N (k + 1) = got N k ++ [p] := by
  simp [got, List.take_add_one, h, List.filter_append, hw]
theorem got_no (N : Int) (k : Nat) (p : Part) (h : table[k]? = some p) (hw : wants N p = false) : got N (k + 1) = got N k := by
  simp [got, List.take_add_one, h, List.filter_append, hw]
theorem got_le (N : Int) (k : Nat) : (got N k).length ≤ k := by
  have h1 := List.length_filter_le (wants N) (table.take k)
  have h2 := List.length_take_le k table
  unfold got; omega

theorem cells5_new (w : World) (o : Obj) (p : Part) : ∀ j u, p.cells[j]? = some u → ((w.alloc o).alloc (.cells #[.int .u16 p.need, .int .i64 p.low, .int .i64 p.high, .int .i64 (p.width : Int), .int .i64 p.lift] 128)).cell? ((⟨w.heap.size + 1, 0, none⟩ : Addr).add j) = some u := by
  intro j u hj
  have e : (⟨w.heap.size + 1, 0, none⟩ : Addr).add j = ⟨w.heap.size + 1, j, none⟩ := by unfold Addr.add; split <;> simp_all
  rw [e, World.cell?_alloc2_new, ← hj]
  simp [Part.cells]
theorem cells5_one (p : Part) : ∀ u ∈ p.cells, u.oneCell' = true := by
  intro u hu
  simp [Part.cells] at hu
  rcases hu with rfl | rfl | rfl | rfl | rfl <;> rfl

set_option maxRecDepth 100000 in
set_option maxHeartbeats 1000000 in
theorem partsOf_own (kd : Int) (w : World) (hT : TabW w) :
    Calls Tryz.prog 68 #[.int .i64 kd] w fun e w' => e = .returned (.slice (some ⟨w.heap.size, 0, none⟩) (got (needsOf kd) 9).length 9) ∧
      w'.ownsRow w.heap.size 128 5 (.slice (some ⟨w.heap.size, 0, none⟩) (got (needsOf kd) 9).length 9) (got (needsOf kd) 9).length ((got (needsOf kd) 9).flatMap Part.cells) ∧ Below w.heap.size w w' := by
  obtain ⟨tt, fr, hg1⟩ := hT
  obtain ⟨i0, hi, hz0, hz1, hz2⟩ := info_parts info128
  go_enter Tryz.func68, Tryz.ntmps68
  have hpos := TabW.pos ⟨tt, fr, hg1⟩
  generalize hN : needsOf kd = N
  have HN : Hid (needsOf kd = N) := hN
  clear hN
  go_wp2_with (first | (go_at_call 96; refine (needs_any kd _).mono ?_; rintro e w' ⟨rfl, rfl⟩) | (at_make; refine wpList_make_own _ rfl _ _ 117 rfl w.heap.size 128 i0 _ 5 Tryz.underlying117 hi hz0 hz1 _ _ _ 9 rfl rfl rfl (by rw [hz2]; omega) (by unfold maxLen; omega) (Nat.le_refl _) ?_; intro w1 hown1 hgrow1; have hb1 : Below w.heap.size w w1 := (Below.refl _ _).grown hgrow1 (Nat.le_refl _) (by simp); have hg2 : w1.heap[0]? = some (.cells tabC tt fr) := (hb1.block 0 hpos).trans hg1) | (refine wpList_load_row rfl 150 _ rfl 0 rfl tt _ fr _ hg2 Tryz.underlying150 rfl (by kernel_rfl) ?_))
  rw [HN.out]
  clear HN hg1 hg2
  go_loopw [4, 11] (fun v i wr => ∃ k : Nat, k ≤ 9 ∧ i = .int .i64 k ∧ v = .slice (some ⟨w.heap.size, 0, none⟩) (got N k).length 9 ∧ wr.ownsRow w.heap.size 128 5 (.slice (some ⟨w.heap.size, 0, none⟩) (got N k).length 9) (got N k).length ((got N k).flatMap Part.cells) ∧ Below w.heap.size w wr) (fun _ i _ => 9 - (intOf i).toNat)
  case atStart => exact ⟨0, by omega, rfl, rfl, hown1, hb1⟩
  case round =>
    obtain ⟨k, hk, rfl, rfl, hown, hb⟩ := hrel
    by_cases hlt : k < 9
    · obtain ⟨p, hp⟩ : ∃ p, table[k]? = some p := ⟨table[k]'(by simpa [table] using hlt), by simp⟩
      have hix := tabAt k p hp
      have hle := got_le N k
      have hsz := hb.size
      have HP : Hid (table[k]? = some p) := hp
      clear hp
      by_cases hw : (bits BinOp.and IntKind.u16 N p.need != 0) = true
      · go_wp2_with (at_builtin; refine wpList_append_fits _ rfl (.tmp 19) (.tmp 21) 117 rfl w.heap.size 128 i0 5 Tryz.underlying117 hi hz1 w.heap.size _ 9 _ rfl ((hown.alloc _).alloc _) ⟨wr.heap.size + 1, 0, none⟩ 1 1 p.cells rfl rfl (cells5_new _ _ _) (cells5_one p) (by omega) ?_)
        intro w2 hown2 hgrow2
        have R := ((hb.alloc hsz _).alloc (by simp; omega) _).grown hgrow2 (by simp; omega) (by simp)
        clear hown hix
        go_wp2
        go_roundw
        case rel => exact ⟨k + 1, by omega, by go_num, by rw [got_yes N k p HP.out hw]; simp, by rw [got_yes N k p HP.out hw]; simpa using hown2, R⟩
        case measure => simp [intOf]; omega
      · have hw' : (bits BinOp.and IntKind.u16 N p.need != 0) = false := by simpa using hw
        clear hw
        go_wp2
        go_roundw
        case rel => exact ⟨k + 1, by omega, by go_num, by rw [got_no N k p HP.out hw'], by rw [got_no N k p HP.out hw']; exact hown.alloc _, hb.alloc hsz _⟩
        case measure => simp [intOf]; omega
    · have he : k = 9 := by omega
      subst he
      go_wp2
      go_ret
      exact ⟨rfl, hown, hb⟩

theorem flat_at (L : List Part) (k : Nat) (p : Part) (h : L[k]? = some p) (j : Nat) (hj : j < 5) : (L.flatMap Part.cells)[k * 5 + j]? = p.cells[j]? := by
  induction L generalizing k with
  | nil => simp at h
  | cons a t ih =>
    rw [List.flatMap_cons]
    cases k with
    | zero =>
      simp at h; subst h
      rw [List.getElem?_append_left (by simpa [Part.cells] using hj)]
      simp
    | succ k =>
      rw [List.getElem?_append_right (by simp [Part.cells]; omega)]
      rw [show (k + 1) * 5 + j - a.cells.length = k * 5 + j from by simp [Part.cells]; omega]
      exact ih k (by simpa using h)

theorem partsAt_of_own {w : World} {base g cap : Nat} {L : List Part} (h : w.ownsRow base 128 5 (.slice (some ⟨g, 0, none⟩) L.length cap) L.length (L.flatMap Part.cells)) (hg : g < w.heap.size) : PartsAt w g L := by
  refine ⟨hg, fun k p hk => ?_⟩
  have hk' : k < L.length := (List.getElem?_eq_some_iff.1 hk).1
  have c : ∀ j, j < 5 → w.cell? ⟨g, k * 5 + j, none⟩ = p.cells[j]? := fun j hj => (h.cellAt (k * 5 + j) (by omega)).trans (flat_at L k p hk j hj)
  exact ⟨c 0 (by omega), c 1 (by omega), c 2 (by omega), c 3 (by omega), c 4 (by omega)⟩

/-- THE CONTRACT OF 'partsOf'. -/
theorem partsOf_any (kd : Int) (w : World) (hT : TabW w) :
    Calls Tryz.prog 68 #[.int .i64 kd] w fun e w' => e = .returned (.slice (some ⟨w.heap.size, 0, none⟩) (partsL kd).length 9) ∧ PartsAt w' w.heap.size (partsL kd) ∧ Below w.heap.size w w' := by
  have e9 : got (needsOf kd) 9 = partsL kd := rfl
  refine (partsOf_own kd w hT).mono ?_
  rw [e9]
  rintro e w' ⟨rfl, hown, hb⟩
  refine ⟨rfl, partsAt_of_own hown ?_, hb⟩
  rcases hown.2 with ⟨h, _⟩ | ⟨g, cap, cur, hv, _, hcur, _⟩
  · cases h
  · cases hv
    rcases Nat.lt_or_ge w.heap.size w'.heap.size with h | h
    · exact h
    · rw [Array.getElem?_eq_none (by omega)] at hcur; cases hcur

end Go.Proofs.YtdblmheoghhepaaGreatDoor

/- 'Right' of package command. -/
namespace Go.Proofs.YtdblmheoghhepaaGreatDoor
open Go.RowKit

/-- The eight cells of a command at block b. -/
def CmdAt (w : World) (b : Nat) (f : Nat → Int) : Prop := ∀ j, j < 8 → w.cell? ⟨b, j, none⟩ = some (.int .i64 (f j))
theorem CmdAt.below {B : Nat} {w w' : World} {b : Nat} {f : Nat → Int} (h : CmdAt w b f) (hb : Below B w w') (hB : b < B) : CmdAt w' b f := fun j hj => (hb.cell (p := ⟨b, j, none⟩) hB).trans (h j hj)
theorem CmdAt.all {w : World} {b : Nat} {f : Nat → Int} (h : CmdAt w b f) : w.cell? ⟨b, 0, none⟩ = some (.int .i64 (f 0)) ∧ w.cell? ⟨b, 1, none⟩ = some (.int .i64 (f 1)) ∧ w.cell? ⟨b, 2, none⟩ = some (.int .i64 (f 2)) ∧ w.cell? ⟨b, 3, none⟩ = some (.int .i64 (f 3)) ∧
    w.cell? ⟨b, 4, none⟩ = some (.int .i64 (f 4)) ∧ w.cell? ⟨b, 5, none⟩ = some (.int .i64 (f 5)) ∧ w.cell? ⟨b, 6, none⟩ = some (.int .i64 (f 6)) ∧ w.cell? ⟨b, 7, none⟩ = some (.int .i64 (f 7)) :=
  ⟨h 0 (by omega), h 1 (by omega), h 2 (by omega), h 3 (by omega), h 4 (by omega), h 5 (by omega), h 6 (by omega), h 7 (by omega)⟩
theorem CmdAt.new (w : World) (f : Nat → Int) (t : TypeId) : CmdAt (w.alloc (.cells (cmdC f) t)) w.heap.size f := by
  intro j hj
  rw [World.cell?_alloc_new]
  match j, hj with
  | 0, _ | 1, _ | 2, _ | 3, _ | 4, _ | 5, _ | 6, _ | 7, _ => rfl
theorem CmdAt.alloc {w : World} {b : Nat} {f : Nat → Int} (h : CmdAt w b f) (o : Obj) (hb : b < w.heap.size) : CmdAt (w.alloc o) b f := fun j hj => (World.cell?_alloc_past o b j hb).trans (h j hj)

/-- No cell of block b is frozen. -/
def Free (w : World) (b : Nat) : Prop := ∀ j, w.frozen? ⟨b, j, none⟩ = false

/-- What 'needed' holds behind some parts. -/
def nd (M : List Part) (f : Nat → Int) : Nat → Int := fun j => if M.any (fun p => ix p.need == j) then f j else 0
theorem nd_snoc (M : List Part) (p : Part) (f : Nat → Int) (j : Nat) : nd (M ++ [p]) f j = if ix p.need = j then f j else nd M f j := by
  unfold nd
  simp only [List.any_append, List.any_cons, List.any_nil, Bool.or_false, Bool.or_eq_true, beq_iff_eq]
  by_cases h : ix p.need = j <;> simp [h]

/-- The five cells of a boxed part, in a later world. -/
theorem box5 {w wa : World} {p : Part} {B : Nat} (hb : Below B (w.alloc (.cells #[.int .u16 p.need, .int .i64 p.low, .int .i64 p.high, .int .i64 (p.width : Int), .int .i64 p.lift] 128)) wa) (hB : w.heap.size < B) :
    wa.cell? ⟨w.heap.size, 0, none⟩ = some (.int .u16 p.need) ∧ wa.cell? ⟨w.heap.size, 1, none⟩ = some (.int .i64 p.low) ∧ wa.cell? ⟨w.heap.size, 2, none⟩ = some (.int .i64 p.high) ∧ wa.cell? ⟨w.heap.size, 3, none⟩ = some (.int .i64 (p.width : Int)) ∧ wa.cell? ⟨w.heap.size, 4, none⟩ = some (.int .i64 p.lift) := by
  have c : ∀ j, wa.cell? ⟨w.heap.size, j, none⟩ = #[Value.int .u16 p.need, .int .i64 p.low, .int .i64 p.high, .int .i64 (p.width : Int), .int .i64 p.lift][j]? := fun j => (hb.cell (p := ⟨w.heap.size, j, none⟩) hB).trans (World.cell?_alloc_new w _ _ j)
  exact ⟨c 0, c 1, c 2, c 3, c 4⟩

/-- What 'Right' answers. -/
def okAll (L : List Part) (f : Nat → Int) : Bool := L.all fun p => takesB p (f (ix p.need))
def same8 (f g : Nat → Int) : Bool := f 0 == g 0 && (f 1 == g 1 && (f 2 == g 2 && (f 3 == g 3 && (f 4 == g 4 && (f 5 == g 5 && (f 6 == g 6 && f 7 == g 7))))))
def rightB (f : Nat → Int) : Bool := okAll (partsL (f 0)) f && same8 (nd (partsL (f 0)) f) f

def rightE (f : Nat → Int) : Int := if rightB f then 0 else 1
theorem ix_lt (n : Int) : ix n < 8 := by unfold ix; (repeat' split) <;> omega
theorem nd_nil (f : Nat → Int) : nd [] f = fun _ => 0 := by funext j; simp [nd]
theorem okAll_snoc (M : List Part) (p : Part) (f : Nat → Int) : okAll (M ++ [p]) f = (okAll M f && takesB p (f (ix p.need))) := by simp [okAll]

theorem partsL_len (k : Int) : (partsL k).length ≤ 9 := by
  have := List.length_filter_le (wants (needsOf k)) table
  simpa [partsL, table] using this

theorem TabW.alloc {w : World} (h : TabW w) (o : Obj) : TabW (w.alloc o) := h.below ((Below.refl w.heap.size w).alloc (Nat.le_refl _) o) h.pos
theorem free_new (w : World) (C : Array Value) (t : TypeId) : Free (w.alloc (.cells C t)) w.heap.size := fun j => World.frozen?_alloc_at C t _ j rfl
theorem Free.below {B : Nat} {w w' : World} {b : Nat} (h : Free w b) (hb : Below B w w') (hB : b < B) : Free w' b := fun j => (hb.frozen (p := ⟨b, j, none⟩) hB).trans (h j)

/-- What holds at the head of each round of 'Right'. -/
def RInv (w : World) (f : Nat → Int) (L : List Part) (k : Nat) (wr : World) : Prop :=
  CmdAt wr w.heap.size f ∧ CmdAt wr (w.heap.size + 1) (nd (L.take k) f) ∧ Free wr (w.heap.size + 1) ∧ PartsAt wr (w.heap.size + 2) L ∧ Below w.heap.size w wr

theorem okAll_take (L : List Part) (f : Nat → Int) (m : Nat) (h : okAll (L.take m) f = false) : okAll L f = false := by
  have e : okAll L f = (okAll (L.take m) f && okAll (L.drop m) f) := by unfold okAll; rw [← List.all_append, List.take_append_drop]
  rw [e, h, Bool.false_and]

theorem PartsAt.setCell {w : World} {g : Nat} {L : List Part} (h : PartsAt w g L) {a : Addr} (hne : g ≠ a.block) (v : Value) : PartsAt (w.setCell a v) g L := by
  obtain ⟨h1, h2⟩ := h
  have hc : ∀ o, (w.setCell a v).cell? ⟨g, o, none⟩ = w.cell? ⟨g, o, none⟩ := fun o => World.cell?_of_block (w := w) (Below.heap_setCell w a v g hne)
  refine ⟨by have := ((Below.refl 0 w).setCell (p := a) (Nat.zero_le _) v).size; omega, fun k p hk => ?_⟩
  obtain ⟨a, b, c, d, e⟩ := h2 k p hk
  exact ⟨by rw [hc, a], by rw [hc, b], by rw [hc, c], by rw [hc, d], by rw [hc, e]⟩

/-- One round of 'Right' in which the part takes its number. -/
theorem RInv_step {w wr wc : World} {f : Nat → Int} {L : List Part} {k : Nat} {p : Part} {o : Obj} (hC : CmdAt wr w.heap.size f) (hN : CmdAt wr (w.heap.size + 1) (nd (L.take k) f)) (hF : Free wr (w.heap.size + 1)) (hp : PartsAt wr (w.heap.size + 2) L) (hb : Below w.heap.size w wr)
    (h : Below (wr.heap.size + 1) (wr.alloc o) wc) (hT : L.take (k + 1) = L.take k ++ [p]) (hix : ix p.need < 8) :
    RInv w f L (k + 1) (wc.setCell ⟨w.heap.size + 1, ix p.need, none⟩ (.int .i64 (f (ix p.need)))) := by
  have hsz := hp.1
  have h1 : Below wr.heap.size wr wc := ((Below.refl wr.heap.size wr).alloc (Nat.le_refl _) o).trans (h.mono (by omega))
  have hC1 := hC.below h1 (by omega)
  have hN1 := hN.below h1 (by omega)
  have hF1 := hF.below h1 (by omega)
  have hp1 := hp.below h1
  have hs1 := h1.size
  have keep : ∀ b j, b ≠ w.heap.size + 1 → (wc.setCell ⟨w.heap.size + 1, ix p.need, none⟩ (.int .i64 (f (ix p.need)))).cell? ⟨b, j, none⟩ = wc.cell? ⟨b, j, none⟩ := fun b j hne => World.cell?_of_block (w := wc) (Below.heap_setCell wc _ _ b hne)
  refine ⟨fun j hj => (keep _ j (by omega)).trans (hC1 j hj), ?_, ?_, ?_, (hb.trans (h1.mono (by omega))).setCell (by simp) _⟩
  · intro j hj
    rw [hT, nd_snoc]
    by_cases e : ix p.need = j
    · subst e
      rw [if_pos rfl]
      exact World.cell?_setCell_same' wc _ _ (by rw [hN1 _ hix]; rfl)
    · rw [if_neg e, World.cell?_setCell_other _ _ _ _ (by intro h; cases h; exact e rfl)]
      exact hN1 j hj
  · intro j
    rw [World.frozen?_setCell]
    exact hF1 j
  · exact hp1.setCell (by simp) _

set_option maxRecDepth 100000 in
set_option maxHeartbeats 1000000 in
theorem right_any (f : Nat → Int) (w : World) (hT : TabW w) :
    Calls Tryz.prog 44 #[cmdV f] w fun e w' => e = .returned (.int .i64 (rightE f)) ∧ Below w.heap.size w w' := by
  have hl9 := partsL_len (f 0)
  go_enter Tryz.func44, Tryz.ntmps44
  go_wp2_with fail
  refine (partsOf_any (f 0) _ ((hT.alloc _).alloc _)).mono ?_
  rintro e w1 ⟨rfl, hp, hb⟩
  simp only [World.size_alloc] at hp hb ⊢
  have I0 : RInv w f (partsL (f 0)) 0 w1 := by
    refine ⟨((CmdAt.new w f 33).alloc _ (by simp)).below hb (by omega), ?_, ?_, hp, ?_⟩
    · have := (CmdAt.new (w.alloc (.cells (cmdC f) 33)) (fun _ => 0) 33).below hb (by simp)
      rw [List.take_zero, nd_nil]; simpa using this
    · have := (free_new (w.alloc (.cells (cmdC f) 33)) (cmdC fun _ => 0) 33).below hb (by simp)
      simpa using this
    · exact (((Below.refl w.heap.size w).alloc (Nat.le_refl _) _).alloc (by simp) _).trans (hb.mono (by omega))
  clear hp hb
  generalize hL : partsL (f 0) = L at *
  have HL : Hid (partsL (f 0) = L) := hL
  clear hL hT
  go_wp2
  go_loopw [11] (fun i wr => ∃ k : Nat, k ≤ L.length ∧ i = .int .i64 k ∧ okAll (L.take k) f = true ∧ RInv w f L k wr) (fun i _ => L.length - (intOf i).toNat)
  case atStart => exact ⟨0, by omega, rfl, rfl, I0⟩
  case round =>
    obtain ⟨k, hk, rfl, hok, hC, hN, hF, hp, hb⟩ := hrel
    have hsz := hp.1
    by_cases hlt : k < L.length
    · obtain ⟨p, hpk⟩ : ∃ p, L[k]? = some p := ⟨L[k], by simp [hlt]⟩
      obtain ⟨c0, c1, c2, c3, c4⟩ := hp.2 k p hpk
      have hix := ix_lt p.need
      have HT : Hid (L.take (k + 1) = L.take k ++ [p]) := by show _ = _; rw [List.take_add_one, hpk]; rfl
      clear hpk
      cases ht : takesB p (f (ix p.need)) with
      | false =>
        go_wp2_with fail
        refine (in_any p w.heap.size _).mono ?_
        rintro e wa ⟨rfl, ha⟩
        simp only [World.size_alloc] at ha
        have ea := ((hC.alloc (.cells #[.int .u16 p.need, .int .i64 p.low, .int .i64 p.high, .int .i64 (p.width : Int), .int .i64 p.lift] 128) (by omega)).below ha (by omega)) (ix p.need) hix
        obtain ⟨b0, b1, b2, b3, b4⟩ := box5 ha (by omega)
        go_wp2_with fail
        refine (takes_any p (f (ix p.need)) _).mono ?_
        rintro e wb ⟨rfl, hbb⟩
        go_wp2
        go_ret
        refine ⟨ret_int ?_, ((hb.alloc (by omega) _).trans (ha.mono (by omega))).trans (hbb.mono (by have := ha.size; simp at this; omega))⟩
        have hno : okAll L f = false := okAll_take L f (k + 1) (by rw [HT.out, okAll_snoc, ht, Bool.and_false])
        unfold rightE rightB; rw [HL.out, hno]; simp
      | true =>
        go_wp2_with fail
        refine (in_any p w.heap.size _).mono ?_
        rintro e wa ⟨rfl, ha⟩
        simp only [World.size_alloc] at ha
        have sa := ha.size
        simp only [World.size_alloc] at sa
        have ea := ((hC.alloc (.cells #[.int .u16 p.need, .int .i64 p.low, .int .i64 p.high, .int .i64 (p.width : Int), .int .i64 p.lift] 128) (by omega)).below ha (by omega)) (ix p.need) hix
        obtain ⟨b0, b1, b2, b3, b4⟩ := box5 ha (by omega)
        go_wp2_with fail
        refine (takes_any p (f (ix p.need)) _).mono ?_
        rintro e wb ⟨rfl, hbb⟩
        have sb := hbb.size
        have hab := ha.trans (hbb.mono (by omega))
        clear b0 b1 b2 b3 b4 ea
        obtain ⟨b0, b1, b2, b3, b4⟩ := box5 hab (by omega)
        go_wp2_with fail
        refine (in_any p (w.heap.size + 1) _).mono ?_
        rintro e wc ⟨rfl, hcc⟩
        have sc := hcc.size
        have hac := hab.trans (hcc.mono (by omega))
        have nc : wc.cell? ⟨w.heap.size + 1, ix p.need, none⟩ = some (.int .i64 (nd (L.take k) f (ix p.need))) := ((hN.alloc (.cells #[.int .u16 p.need, .int .i64 p.low, .int .i64 p.high, .int .i64 (p.width : Int), .int .i64 p.lift] 128) (by omega)).below hac (by omega)) (ix p.need) hix
        have fc : wc.frozen? ⟨w.heap.size + 1, ix p.need, none⟩ = false := ((hF.below ((Below.refl wr.heap.size wr).alloc (Nat.le_refl _) _) (by omega)).below hac (by omega)) (ix p.need)
        have J := RInv_step hC hN hF hp hb hac HT.out hix
        clear b0 b1 b2 b3 b4 c0 c1 c2 c3 c4 hC hN hF hp hac hab hcc hbb ha
        go_wp2
        go_roundw
        case rel => exact ⟨k + 1, by omega, by go_num, by rw [HT.out, okAll_snoc, hok, ht]; rfl, J⟩
        case measure => simp [intOf]; omega
    · have he : k = L.length := by omega
      subst he
      simp only [List.take_length] at hN hok
      obtain ⟨c0, c1, c2, c3, c4, c5, c6, c7⟩ := hC.all
      obtain ⟨d0, d1, d2, d3, d4, d5, d6, d7⟩ := hN.all
      clear hC hN hF hp
      go_wp2
      all_goals go_ret
      all_goals refine ⟨ret_int ?_, hb⟩
      all_goals (unfold rightE rightB; rw [HL.out]; simp [same8, *])

end Go.Proofs.YtdblmheoghhepaaGreatDoor

/- 'part.write' and the document's 'low': a number as bytes, the low one first. -/
namespace Go.Proofs.YtdblmheoghhepaaGreatDoor
open Go.RowKit

/-- A number in so many bytes, the low one first. -/
def bytesOf (n : Int) : Nat → List Int
  | 0 => []
  | k + 1 => n % 256 :: bytesOf (n / 256) k
theorem bytesOf_length (n : Int) (k : Nat) : (bytesOf n k).length = k := by
  induction k generalizing n with
  | zero => rfl
  | succ k ih => simp [bytesOf, ih]
theorem bytesOf_snoc (n : Int) (k : Nat) : bytesOf n (k + 1) = bytesOf n k ++ [n / 256 ^ k % 256] := by
  induction k generalizing n with
  | zero => simp [bytesOf]
  | succ k ih =>
    rw [bytesOf, ih, bytesOf, List.cons_append, Int.pow_succ', Int.ediv_ediv_of_nonneg (by omega)]

theorem info5 : (Tryz.prog.info? 5).map (fun i => (i.zero, i.size, i.bytes)) = some (some (.int .u8 0), 1, 1) := by kernel_rfl

theorem own_ge {w : World} {base : Nat} {e : TypeId} {size : Nat} {v : Value} {n : Nat} {xs : List Value} (h : w.ownsRow base e size v n xs) : ∀ k, v.ownBlock = some k → base ≤ k := by
  rintro k hk
  rcases h.2 with ⟨rfl, _⟩ | ⟨g, cap, cur, rfl, hg, _⟩
  · simp [Value.ownBlock] at hk
  · simp [Value.ownBlock] at hk; omega

set_option maxRecDepth 100000 in
set_option maxHeartbeats 400000 in
theorem write_any (p : Part) (v : Value) (xs : List Int) (n : Int) (base : Nat) (w : World) (hB : base ≤ w.heap.size) (h1 : p.width ≤ 4) (hx : xs.length ≤ 100)
    (hn : 0 ≤ n + p.lift) (hn2 : n + p.lift ≤ 4294967295)
    (hown : w.ownsRow base 5 1 v xs.length (xs.map (Value.int .u8))) :
    Calls Tryz.prog 72 #[p.val, v, .int .i64 n] w fun e w' => ∃ v', e = .returned v' ∧ w'.ownsRow base 5 1 v' (xs ++ bytesOf (n + p.lift) p.width).length ((xs ++ bytesOf (n + p.lift) p.width).map (Value.int .u8)) ∧ Below base w w' := by
  obtain ⟨i0, hi, hz0, hz1, hz2⟩ := info_parts info5
  go_enter Tryz.func72, Tryz.ntmps72
  go_wp2
  have hbl := bytesOf_length (n + p.lift)
  go_loopw [1, 7, 14] (fun u r i wr => ∃ k : Nat, k ≤ p.width ∧ i = .int .i64 k ∧ r = .int .i64 ((n + p.lift) / 256 ^ k) ∧ wr.ownsRow base 5 1 u (xs ++ bytesOf (n + p.lift) k).length ((xs ++ bytesOf (n + p.lift) k).map (Value.int .u8)) ∧ Below base w wr) (fun _ _ i _ => p.width - (intOf i).toNat)
  case atStart => exact ⟨0, Nat.zero_le _, rfl, by simp, by simpa [bytesOf] using hown.alloc _, (Below.refl _ _).alloc hB _⟩
  case round =>
    obtain ⟨k, hk, rfl, rfl, hown', hb⟩ := hrel
    by_cases hlt : k < p.width
    · have hbk := hbl k
      have hge := own_ge hown'
      have hsz := hb.size
      go_wp2_with (at_builtin; refine wpList_append_own _ rfl (.tmp 16) (.tmp 19) 71 rfl base 5 i0 (.int .u8 0) 1 1 Tryz.underlying71 hi hz0 hz1 hz2 rfl (by decide) _ _ _ rfl (hown'.alloc _) ⟨wr.heap.size, 0, none⟩ 1 1 [.int .u8 ((n + p.lift) / 256 ^ k % 256)] rfl rfl (cell_one_new _ _ _) (by intro u hu; simp at hu; subst hu; rfl) (by simp [hbk]; unfold maxLen; omega) (by simp [hbk]; omega) (by simp; omega) ?_)
      intro v' w1 hown1 hgrow _
      have R := (hb.alloc (by omega) _).grown hgrow (by simp; omega) hge
      have O : w1.ownsRow base 5 1 v' (xs ++ bytesOf (n + p.lift) (k + 1)).length ((xs ++ bytesOf (n + p.lift) (k + 1)).map (Value.int .u8)) := by
        have e1 : (xs ++ bytesOf (n + p.lift) (k + 1)).length = (xs ++ bytesOf (n + p.lift) k).length + 1 := by simp [hbl]; omega
        have e2 : (xs ++ bytesOf (n + p.lift) (k + 1)).map (Value.int .u8) = (xs ++ bytesOf (n + p.lift) k).map (Value.int .u8) ++ [.int .u8 ((n + p.lift) / 256 ^ k % 256)] := by rw [bytesOf_snoc]; simp
        rw [e1, e2]; simp only [List.length_append, hbl, List.map_append, List.append_assoc]; exact hown1
      clear hown1 hgrow hown' hown hbl
      go_wp2
      go_roundw
      case rel => exact ⟨k + 1, by omega, by go_num, int_eq (by rw [Int.pow_succ, ← Int.ediv_ediv_of_nonneg (Int.pow_nonneg (by omega))]), O, R⟩
      case measure => simp [intOf]; omega
    · have he : k = p.width := by omega
      subst he
      go_wp2
      go_ret
      exact ⟨_, rfl, hown', hb⟩

end Go.Proofs.YtdblmheoghhepaaGreatDoor

/- The document's 'low', 'needs', 'fits'. -/
namespace Go.Proofs.YtdblmheoghhepaaGreatDoor
open Go.RowKit

theorem own_string {w : World} {base : Nat} {v : Value} {zs : List Int} (h : w.ownsRow base 5 1 v zs.length (zs.map (Value.int .u8))) : (convert 71 9 v).run Tryz.prog w = .ok (.string (strOfNums zs)) w := by
  rcases h.2 with ⟨rfl, h0⟩ | ⟨g, cap, cur, rfl, _, _⟩
  · have hz : zs = [] := List.eq_nil_of_length_eq_zero h0
    subst hz
    exact run_convert_bytes_nil w 71 5 Tryz.underlying71 Tryz.underlying5 0 0 9 Tryz.underlying9
  · refine run_convert_bytes_arg w 71 5 Tryz.underlying71 Tryz.underlying5 g 0 zs.length cap zs rfl (fun i hi => ?_) 9 Tryz.underlying9
    have := h.cellAt i (by omega)
    rw [Nat.zero_add, this]
    simp [hi]

set_option maxRecDepth 100000 in
set_option maxHeartbeats 400000 in
theorem low_no (n : Int) (m : Nat) (w : World) :
    Calls Tryz.prog 48 #[.bool false, .int .i64 n, .int .i64 (m : Int)] w fun e w' => e = .returned (.string (strOfNums [])) ∧ Below w.heap.size w w' := by
  go_enter Tryz.func48, Tryz.ntmps48
  go_wp2
  refine wp_loop_rounds 1 ?_
  rw [rounds_succ]
  have hcv := fun (w : World) => own_string (zs := []) (World.ownsRow_nil w 0 5 1)
  go_wp2
  all_goals go_ret
  all_goals exact ⟨rfl, Below.refl _ _⟩

set_option maxRecDepth 100000 in
set_option maxHeartbeats 400000 in
theorem low_yes (n : Int) (m : Nat) (w : World) (h0 : 0 ≤ n) (h1 : n ≤ 4294967296) (hm : m ≤ 4) :
    Calls Tryz.prog 48 #[.bool true, .int .i64 n, .int .i64 (m : Int)] w fun e w' => e = .returned (.string (strOfNums (bytesOf n m))) ∧ Below w.heap.size w w' := by
  obtain ⟨i0, hi, hz0, hz1, hz2⟩ := info_parts info5
  have hbl := bytesOf_length n
  go_enter Tryz.func48, Tryz.ntmps48
  go_wp2
  go_loopw [1, 7, 8] (fun r u i wr => ∃ k : Nat, k ≤ m ∧ i = .int .i64 k ∧ r = .int .i64 (n / 256 ^ k) ∧ wr.ownsRow w.heap.size 5 1 u (bytesOf n k).length ((bytesOf n k).map (Value.int .u8)) ∧ Below w.heap.size w wr) (fun _ _ i _ => m - (intOf i).toNat)
  case atStart => exact ⟨0, Nat.zero_le _, rfl, by simp, World.ownsRow_nil _ _ _ _, Below.refl _ _⟩
  case round =>
    obtain ⟨k, hk, rfl, rfl, hown', hb⟩ := hrel
    have hbk := hbl k
    have hge := own_ge hown'
    have hsz := hb.size
    have q0 : 0 ≤ n / 256 ^ k := Int.ediv_nonneg h0 (Int.pow_nonneg (by omega))
    have q1 : n / 256 ^ k ≤ n := Int.ediv_le_self _ h0
    by_cases hlt : k < m
    · go_wp2_with (at_builtin; refine wpList_append_own _ rfl (.tmp 17) (.tmp 21) 71 rfl w.heap.size 5 i0 (.int .u8 0) 1 1 Tryz.underlying71 hi hz0 hz1 hz2 rfl (by decide) _ _ _ rfl (hown'.alloc _) ⟨wr.heap.size, 0, none⟩ 1 1 [.int .u8 (n / 256 ^ k % 256)] rfl rfl (cell_one_new _ _ _) (by intro u hu; simp at hu; subst hu; rfl) (by simp [hbk]; unfold maxLen; omega) (by simp [hbk]; omega) (by simp; omega) ?_)
      intro v' w1 hown1 hgrow _
      have R := (hb.alloc hsz _).grown hgrow (by simp; omega) hge
      have O : w1.ownsRow w.heap.size 5 1 v' (bytesOf n (k + 1)).length ((bytesOf n (k + 1)).map (Value.int .u8)) := by
        rw [bytesOf_snoc]
        simp only [List.length_append, hbl, List.map_append]; exact hown1
      clear hown1 hgrow hown' hbl
      go_wp2
      go_roundw
      case rel => exact ⟨k + 1, by omega, by go_num, int_eq (by rw [Int.pow_succ, ← Int.ediv_ediv_of_nonneg (Int.pow_nonneg (by omega))]), O, R⟩
      case measure => simp [intOf]; omega
    · have he : k = m := by omega
      subst he
      have hcv := own_string hown'
      go_wp2
      go_ret
      exact ⟨rfl, hb⟩

/-- What a kind needs: good, channel, day, quantity, hold, ticks. -/
def needG (k : Int) : Bool := decide (k = 1 ∨ k = 2 ∨ k = 3 ∨ k = 4 ∨ k = 7)
def needC (k : Int) : Bool := decide (k = 3 ∨ k = 4)
def needD (k : Int) : Bool := decide (k = 2 ∨ k = 4)
def needQ (k : Int) : Bool := decide (k = 1 ∨ k = 2 ∨ k = 3 ∨ k = 4 ∨ k = 7)
def needH (k : Int) : Bool := decide (k = 5 ∨ k = 6)
def needT (k : Int) : Bool := !(decide (k = 1 ∨ k = 2 ∨ k = 3 ∨ k = 5 ∨ k = 6 ∨ k = 7))

set_option maxRecDepth 100000 in
set_option maxHeartbeats 400000 in
theorem refNeeds_any (k : Int) (w : World) :
    Calls Tryz.prog 45 #[.int .i64 k] w fun e w' => e = .returned (.tuple #[.bool (needG k), .bool (needC k), .bool (needD k), .bool (needQ k), .bool (needH k), .bool (needT k)]) ∧ w = w' := by
  go_enter Tryz.func45, Tryz.ntmps45
  go_wp2
  all_goals refine bodyPost_ret (v := .tuple #[.bool (needG k), .bool (needC k), .bool (needD k), .bool (needQ k), .bool (needH k), .bool (needT k)]) ?_ rfl ⟨rfl, rfl⟩
  all_goals (simp only [beq_iff_eq, beq_eq_false_iff_ne, ne_eq] at *; subst_vars; simp [results, Tryz.results45, go_sem, needG, needC, needD, needQ, needH, needT, *])

def fitsB (b : Bool) (n lo hi : Int) : Bool := if b then decide (lo ≤ n) && decide (n ≤ hi) else n == 0
set_option maxRecDepth 100000 in
set_option maxHeartbeats 400000 in
theorem fits_any (b : Bool) (n lo hi : Int) (w : World) :
    Calls Tryz.prog 46 #[.bool b, .int .i64 n, .int .i64 lo, .int .i64 hi] w fun e w' => e = .returned (.bool (fitsB b n lo hi)) ∧ w = w' := by
  cases b
  · go_enter Tryz.func46, Tryz.ntmps46
    go_wp2
    go_ret
    exact ⟨ret_bool (by simp [fitsB]), rfl⟩
  · go_enter Tryz.func46, Tryz.ntmps46
    go_wp2
    all_goals go_ret
    all_goals refine ⟨ret_bool ?_, rfl⟩
    all_goals (simp [fitsB]; omega)

end Go.Proofs.YtdblmheoghhepaaGreatDoor
