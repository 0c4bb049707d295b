/- 'partsOf': the parts of the table that a kind needs. -/
import Derived.Test.YtklpbpgjlmpbeaaDoorSum
namespace Go.Proofs.YtklpbpgjlmpbeaaDoor
open Go.RowKit

def tabC : Array Value := #[.int .u16 1, .int .i64 1, .int .i64 8, .int .i64 1, .int .i64 0, .int .u16 2, .int .i64 0, .int .i64 2147483647, .int .i64 4, .int .i64 0, .int .u16 4, .int .i64 0, .int .i64 3, .int .i64 1, .int .i64 0,
  .int .u16 8, .int .i64 0, .int .i64 2, .int .i64 1, .int .i64 0, .int .u16 16, .int .i64 0, .int .i64 15, .int .i64 1, .int .i64 0, .int .u16 32, .int .i64 1, .int .i64 1000000, .int .i64 4, .int .i64 0,
  .int .u16 64, .int .i64 (-1000000), .int .i64 1000000, .int .i64 4, .int .i64 2147483648, .int .u16 128, .int .i64 1, .int .i64 4294967295, .int .i64 4, .int .i64 0, .int .u16 256, .int .i64 1, .int .i64 1000, .int .i64 2, .int .i64 0]

/-- The table lies in block 0. -/
def TabW (w : World) : Prop := ∃ t fr, w.heap[0]? = some (.cells tabC t fr)
theorem TabW.below {B : Nat} {w w' : World} (h : TabW w) (hb : Below B w w') (hB : 0 < B) : TabW w' := by
  obtain ⟨t, fr, h⟩ := h
  exact ⟨t, fr, by rw [hb.block 0 hB]; exact h⟩
theorem TabW.pos {w : World} (h : TabW w) : 0 < w.heap.size := by
  obtain ⟨t, fr, h⟩ := h
  rcases Nat.eq_zero_or_pos w.heap.size with h0 | h0
  · rw [Array.getElem?_eq_none (by omega)] at h; cases h
  · exact h0

def wants (N : Int) (p : Part) : Bool := bits BinOp.and IntKind.u16 N p.need != 0
def partsL (k : Int) : List Part := table.filter (wants (needsOf k))

theorem info112 : (Tryd.prog.info? 112).map (fun i => (i.zero, i.size, i.bytes)) = some (some (.agg #[.int .u16 0, .int .i64 0, .int .i64 0, .int .i64 0, .int .i64 0]), 5, 40) := by kernel_rfl

theorem tab0 (w : World) : (Instr.index 147 (.agg tabC) (.int .i64 0)).run Tryd.prog w = .ok (.agg #[.int .u16 1, .int .i64 1, .int .i64 8, .int .i64 1, .int .i64 0]) w := by kernel_rfl
theorem tab1 (w : World) : (Instr.index 147 (.agg tabC) (.int .i64 1)).run Tryd.prog w = .ok (.agg #[.int .u16 2, .int .i64 0, .int .i64 2147483647, .int .i64 4, .int .i64 0]) w := by kernel_rfl
theorem tab2 (w : World) : (Instr.index 147 (.agg tabC) (.int .i64 2)).run Tryd.prog w = .ok (.agg #[.int .u16 4, .int .i64 0, .int .i64 3, .int .i64 1, .int .i64 0]) w := by kernel_rfl
theorem tab3 (w : World) : (Instr.index 147 (.agg tabC) (.int .i64 3)).run Tryd.prog w = .ok (.agg #[.int .u16 8, .int .i64 0, .int .i64 2, .int .i64 1, .int .i64 0]) w := by kernel_rfl
theorem tab4 (w : World) : (Instr.index 147 (.agg tabC) (.int .i64 4)).run Tryd.prog w = .ok (.agg #[.int .u16 16, .int .i64 0, .int .i64 15, .int .i64 1, .int .i64 0]) w := by kernel_rfl
theorem tab5 (w : World) : (Instr.index 147 (.agg tabC) (.int .i64 5)).run Tryd.prog w = .ok (.agg #[.int .u16 32, .int .i64 1, .int .i64 1000000, .int .i64 4, .int .i64 0]) w := by kernel_rfl
theorem tab6 (w : World) : (Instr.index 147 (.agg tabC) (.int .i64 6)).run Tryd.prog w = .ok (.agg #[.int .u16 64, .int .i64 (-1000000), .int .i64 1000000, .int .i64 4, .int .i64 2147483648]) w := by kernel_rfl
theorem tab7 (w : World) : (Instr.index 147 (.agg tabC) (.int .i64 7)).run Tryd.prog w = .ok (.agg #[.int .u16 128, .int .i64 1, .int .i64 4294967295, .int .i64 4, .int .i64 0]) w := by kernel_rfl
theorem tab8 (w : World) : (Instr.index 147 (.agg tabC) (.int .i64 8)).run Tryd.prog w = .ok (.agg #[.int .u16 256, .int .i64 1, .int .i64 1000, .int .i64 2, .int .i64 0]) w := by kernel_rfl
/-- The k-th part of the table, by its index. -/
theorem tabAt (k : Nat) (p : Part) (h : table[k]? = some p) (w : World) : (Instr.index 147 (.agg tabC) (.int .i64 (k : Int))).run Tryd.prog w = .ok p.val w := by
  match k, h with
  | 0, h => simp [table] at h; subst h; exact tab0 w
  | 1, h => simp [table] at h; subst h; exact tab1 w
  | 2, h => simp [table] at h; subst h; exact tab2 w
  | 3, h => simp [table] at h; subst h; exact tab3 w
  | 4, h => simp [table] at h; subst h; exact tab4 w
  | 5, h => simp [table] at h; subst h; exact tab5 w
  | 6, h => simp [table] at h; subst h; exact tab6 w
  | 7, h => simp [table] at h; subst h; exact tab7 w
  | 8, h => simp [table] at h; subst h; exact tab8 w
  | k + 9, h => simp [table] at h

def got (N : Int) (k : Nat) : List Part := (table.take k).filter (wants N)
theorem got_yes (N : Int) (k : Nat) (p : Part) (h : table[k]? = some p) (hw : wants N p = true) : got N (k + 1) = got N k ++ [p] := by
  simp [got, List.take_add_one, h, List.filter_append, hw]
theorem got_no (N : Int) (k : Nat) (p : Part) (h : table[k]? = some p) (hw : wants N p = false) : got N (k + 1) = got N k := by
  simp [got, List.take_add_one, h, List.filter_append, hw]
theorem got_le (N : Int) (k : Nat) : (got N k).length ≤ k := by
  have h1 := List.length_filter_le (wants N) (table.take k)
  have h2 := List.length_take_le k table
  unfold got; omega

theorem cells5_new (w : World) (o : Obj) (p : Part) : ∀ j u, p.cells[j]? = some u → ((w.alloc o).alloc (.cells #[.int .u16 p.need, .int .i64 p.low, .int .i64 p.high, .int .i64 (p.width : Int), .int .i64 p.lift] 112)).cell? ((⟨w.heap.size + 1, 0, none⟩ : Addr).add j) = some u := by
  intro j u hj
  have e : (⟨w.heap.size + 1, 0, none⟩ : Addr).add j = ⟨w.heap.size + 1, j, none⟩ := by unfold Addr.add; split <;> simp_all
  rw [e, World.cell?_alloc2_new, ← hj]
  simp [Part.cells]
theorem cells5_one (p : Part) : ∀ u ∈ p.cells, u.oneCell' = true := by
  intro u hu
  simp [Part.cells] at hu
  rcases hu with rfl | rfl | rfl | rfl | rfl <;> rfl

set_option maxRecDepth 100000 in
set_option maxHeartbeats 1000000 in
theorem partsOf_own (kd : Int) (w : World) (hT : TabW w) :
    Calls Tryd.prog 55 #[.int .i64 kd] w fun e w' => e = .returned (.slice (some ⟨w.heap.size, 0, none⟩) (got (needsOf kd) 9).length 9) ∧
      w'.ownsRow w.heap.size 112 5 (.slice (some ⟨w.heap.size, 0, none⟩) (got (needsOf kd) 9).length 9) (got (needsOf kd) 9).length ((got (needsOf kd) 9).flatMap Part.cells) ∧ Below w.heap.size w w' := by
  obtain ⟨tt, fr, hg1⟩ := hT
  obtain ⟨i0, hi, hz0, hz1, hz2⟩ := info_parts info112
  go_enter Tryd.func55, Tryd.ntmps55
  have hpos := TabW.pos ⟨tt, fr, hg1⟩
  generalize hN : needsOf kd = N
  have HN : Hid (needsOf kd = N) := hN
  clear hN
  go_wp2_with (first | (go_at_call 84; refine (needs_any kd _).mono ?_; rintro e w' ⟨rfl, rfl⟩) | (at_make; refine wpList_make_own _ rfl _ _ 106 rfl w.heap.size 112 i0 _ 5 Tryd.underlying106 hi hz0 hz1 _ _ _ 9 rfl rfl rfl (by rw [hz2]; omega) (by unfold maxLen; omega) (Nat.le_refl _) ?_; intro w1 hown1 hgrow1; have hb1 : Below w.heap.size w w1 := (Below.refl _ _).grown hgrow1 (Nat.le_refl _) (by simp); have hg2 : w1.heap[0]? = some (.cells tabC tt fr) := (hb1.block 0 hpos).trans hg1) | (refine wpList_load_row rfl 147 _ rfl 0 rfl tt _ fr _ hg2 Tryd.underlying147 rfl (by kernel_rfl) ?_))
  rw [HN.out]
  clear HN hg1 hg2
  go_loopw [4, 11] (fun v i wr => ∃ k : Nat, k ≤ 9 ∧ i = .int .i64 k ∧ v = .slice (some ⟨w.heap.size, 0, none⟩) (got N k).length 9 ∧ wr.ownsRow w.heap.size 112 5 (.slice (some ⟨w.heap.size, 0, none⟩) (got N k).length 9) (got N k).length ((got N k).flatMap Part.cells) ∧ Below w.heap.size w wr) (fun _ i _ => 9 - (intOf i).toNat)
  case atStart => exact ⟨0, by omega, rfl, rfl, hown1, hb1⟩
  case round =>
    obtain ⟨k, hk, rfl, rfl, hown, hb⟩ := hrel
    by_cases hlt : k < 9
    · obtain ⟨p, hp⟩ : ∃ p, table[k]? = some p := ⟨table[k]'(by simpa [table] using hlt), by simp⟩
      have hix := tabAt k p hp
      have hle := got_le N k
      have hsz := hb.size
      have HP : Hid (table[k]? = some p) := hp
      clear hp
      by_cases hw : (bits BinOp.and IntKind.u16 N p.need != 0) = true
      · go_wp2_with (at_builtin; refine wpList_append_fits _ rfl (.tmp 19) (.tmp 21) 106 rfl w.heap.size 112 i0 5 Tryd.underlying106 hi hz1 w.heap.size _ 9 _ rfl ((hown.alloc _).alloc _) ⟨wr.heap.size + 1, 0, none⟩ 1 1 p.cells rfl rfl (cells5_new _ _ _) (cells5_one p) (by omega) ?_)
        intro w2 hown2 hgrow2
        have R := ((hb.alloc hsz _).alloc (by simp; omega) _).grown hgrow2 (by simp; omega) (by simp)
        clear hown hix
        go_wp2
        go_roundw
        case rel => exact ⟨k + 1, by omega, by go_num, by rw [got_yes N k p HP.out hw]; simp, by rw [got_yes N k p HP.out hw]; simpa using hown2, R⟩
        case measure => simp [intOf]; omega
      · have hw' : (bits BinOp.and IntKind.u16 N p.need != 0) = false := by simpa using hw
        clear hw
        go_wp2
        go_roundw
        case rel => exact ⟨k + 1, by omega, by go_num, by rw [got_no N k p HP.out hw'], by rw [got_no N k p HP.out hw']; exact hown.alloc _, hb.alloc hsz _⟩
        case measure => simp [intOf]; omega
    · have he : k = 9 := by omega
      subst he
      go_wp2
      go_ret
      exact ⟨rfl, hown, hb⟩

theorem flat_at (L : List Part) (k : Nat) (p : Part) (h : L[k]? = some p) (j : Nat) (hj : j < 5) : (L.flatMap Part.cells)[k * 5 + j]? = p.cells[j]? := by
  induction L generalizing k with
  | nil => simp at h
  | cons a t ih =>
    rw [List.flatMap_cons]
    cases k with
    | zero =>
      simp at h; subst h
      rw [List.getElem?_append_left (by simpa [Part.cells] using hj)]
      simp
    | succ k =>
      rw [List.getElem?_append_right (by simp [Part.cells]; omega)]
      rw [show (k + 1) * 5 + j - a.cells.length = k * 5 + j from by simp [Part.cells]; omega]
      exact ih k (by simpa using h)

theorem partsAt_of_own {w : World} {base g cap : Nat} {L : List Part} (h : w.ownsRow base 112 5 (.slice (some ⟨g, 0, none⟩) L.length cap) L.length (L.flatMap Part.cells)) (hg : g < w.heap.size) : PartsAt w g L := by
  refine ⟨hg, fun k p hk => ?_⟩
  have hk' : k < L.length := (List.getElem?_eq_some_iff.1 hk).1
  have c : ∀ j, j < 5 → w.cell? ⟨g, k * 5 + j, none⟩ = p.cells[j]? := fun j hj => (h.cellAt (k * 5 + j) (by omega)).trans (flat_at L k p hk j hj)
  exact ⟨c 0 (by omega), c 1 (by omega), c 2 (by omega), c 3 (by omega), c 4 (by omega)⟩

/-- THE CONTRACT OF 'partsOf'. -/
theorem partsOf_any (kd : Int) (w : World) (hT : TabW w) :
    Calls Tryd.prog 55 #[.int .i64 kd] w fun e w' => e = .returned (.slice (some ⟨w.heap.size, 0, none⟩) (partsL kd).length 9) ∧ PartsAt w' w.heap.size (partsL kd) ∧ Below w.heap.size w w' := by
  have e9 : got (needsOf kd) 9 = partsL kd := rfl
  refine (partsOf_own kd w hT).mono ?_
  rw [e9]
  rintro e w' ⟨rfl, hown, hb⟩
  refine ⟨rfl, partsAt_of_own hown ?_, hb⟩
  rcases hown.2 with ⟨h, _⟩ | ⟨g, cap, cur, hv, _, hcur, _⟩
  · cases h
  · cases hv
    rcases Nat.lt_or_ge w.heap.size w'.heap.size with h | h
    · exact h
    · rw [Array.getElem?_eq_none (by omega)] at hcur; cases hcur

end Go.Proofs.YtklpbpgjlmpbeaaDoor
