/- A row of steps that comes in, opened; how much there is. -/
import Derived.Test.YtdblmheoghhepaaGreatDoorCards
import Derived.Test.YtdblmheoghhepaaGreatDoorTie
import Derived.Test.YtdblmheoghhepaaGreatDoorKLaid
import Derived.Test.YtdblmheoghhepaaGreatDoorKLawC
import Derived.Deep.DeepHandedRow
import Derived.Deep.Slices
import Derived.SizedLaws
namespace Go.Proofs.YtdblmheoghhepaaGreatDoor
open Go.ChangeShapes Go.WideShapes Go.ChangeAt Go.RowKit
set_option maxRecDepth 100000

/-- No datum weighs nothing. -/
theorem bulk_pos {H : Type} (d : DataW H) : 0 < Rows.uptoBulk d := by
  cases d <;> first | (unfold Rows.uptoBulk; omega) | skip
  rename_i l
  cases l <;> (unfold Rows.uptoBulk; omega)
theorem bulk_len {H : Type} : ∀ l : List (DataW H), l.length ≤ Rows.uptoBulkAll l
  | [] => Nat.zero_le _
  | d :: r => by
    have h1 := bulk_pos d
    have h2 := bulk_len r
    unfold Rows.uptoBulkAll
    simp only [List.length_cons]
    omega
theorem bulk_row {H : Type} (l r : List (DataW H)) : l.length + 1 ≤ Rows.uptoBulk (.slice l r) := by
  have := bulk_len l
  unfold Rows.uptoBulk
  omega
theorem bulk_cons {H : Type} (d : DataW H) (l : List (DataW H)) : Rows.uptoBulkAll (d :: l) = Rows.uptoBulk d + Rows.uptoBulkAll l := by
  conv => lhs; unfold Rows.uptoBulkAll
theorem bulk_small {H : Type} {l : List (DataW H)} (h : Rows.uptoSmall H l = true) : Rows.uptoBulkAll l ≤ 1048576 := of_decide_eq_true h
theorem bulk_mem {H : Type} {d : DataW H} : ∀ {l : List (DataW H)}, d ∈ l → Rows.uptoBulk d ≤ Rows.uptoBulkAll l
  | [], h => by cases h
  | x :: r, h => by
    rw [bulk_cons]
    rcases List.mem_cons.1 h with rfl | h
    · omega
    · have := bulk_mem h; omega
theorem bulk_slice {H : Type} (l r : List (DataW H)) : Rows.uptoBulkAll l ≤ Rows.uptoBulk (.slice l r) := by
  unfold Rows.uptoBulk
  omega
theorem bulk_agg {H : Type} (l : List (DataW H)) : Rows.uptoBulkAll l ≤ Rows.uptoBulk (.agg l) := by
  cases l <;> (conv => rhs; unfold Rows.uptoBulk) <;> omega
theorem bulk_string {H : Type} (s : ByteArray) : s.size ≤ Rows.uptoBulk (H := H) (.lit (.string s.data.toList)) := by
  unfold Rows.uptoBulk
  rw [Array.length_toList]
  show s.data.size ≤ _
  omega

theorem cells9 : Tryz.prog.cellsOf 9 = 1 := by kernel_rfl
theorem cells35 : Tryz.prog.cellsOf 35 = 13 := by kernel_rfl
section
variable {H : Type} {enc : TypeId × Value → H} {w : World} {base : Nat} {spare : Nat → Bool} {held : Bool}
theorem cmd_cells {n : Nat} {l : List Value} {x : DataW H × List MemPlace} (hlen : l.length = 8) (h : DataW.trod enc Tryz.prog w base spare held n 33 l = some x) :
    ∃ f : Nat → Int, ∀ j, j < 8 → l[j]? = some (.int .i64 (f j)) := by
  obtain ⟨xs, n, _, hx, hl, hxl, hf⟩ := DataW.trod_struct Tryz.underlying33 h
  match xs, hxl with
  | [y0, y1, y2, y3, y4, y5, y6, y7], _ =>
    have t0 : DataW.trod enc Tryz.prog w base spare held n 3 ((l.drop 0).take (Tryz.prog.cellsOf 3)) = some y0 := hf 0 _ rfl
    have t1 : DataW.trod enc Tryz.prog w base spare held n 3 ((l.drop 1).take (Tryz.prog.cellsOf 3)) = some y1 := hf 1 _ rfl
    have t2 : DataW.trod enc Tryz.prog w base spare held n 3 ((l.drop 2).take (Tryz.prog.cellsOf 3)) = some y2 := hf 2 _ rfl
    have t3 : DataW.trod enc Tryz.prog w base spare held n 3 ((l.drop 3).take (Tryz.prog.cellsOf 3)) = some y3 := hf 3 _ rfl
    have t4 : DataW.trod enc Tryz.prog w base spare held n 3 ((l.drop 4).take (Tryz.prog.cellsOf 3)) = some y4 := hf 4 _ rfl
    have t5 : DataW.trod enc Tryz.prog w base spare held n 3 ((l.drop 5).take (Tryz.prog.cellsOf 3)) = some y5 := hf 5 _ rfl
    have t6 : DataW.trod enc Tryz.prog w base spare held n 3 ((l.drop 6).take (Tryz.prog.cellsOf 3)) = some y6 := hf 6 _ rfl
    have t7 : DataW.trod enc Tryz.prog w base spare held n 3 ((l.drop 7).take (Tryz.prog.cellsOf 3)) = some y7 := hf 7 _ rfl
    rw [cells3] at t0 t1 t2 t3 t4 t5 t6 t7
    obtain ⟨n0, e0, _, _⟩ := DataW.trod_int Tryz.underlying3 t0
    obtain ⟨n1, e1, _, _⟩ := DataW.trod_int Tryz.underlying3 t1
    obtain ⟨n2, e2, _, _⟩ := DataW.trod_int Tryz.underlying3 t2
    obtain ⟨n3, e3, _, _⟩ := DataW.trod_int Tryz.underlying3 t3
    obtain ⟨n4, e4, _, _⟩ := DataW.trod_int Tryz.underlying3 t4
    obtain ⟨n5, e5, _, _⟩ := DataW.trod_int Tryz.underlying3 t5
    obtain ⟨n6, e6, _, _⟩ := DataW.trod_int Tryz.underlying3 t6
    obtain ⟨n7, e7, _, _⟩ := DataW.trod_int Tryz.underlying3 t7
    clear hf hx hl t0 t1 t2 t3 t4 t5 t6 t7
    match l, hlen with
    | [c0, c1, c2, c3, c4, c5, c6, c7], _ =>
      simp at e0 e1 e2 e3 e4 e5 e6 e7
      subst e0 e1 e2 e3 e4 e5 e6 e7
      refine ⟨eight n0 n1 n2 n3 n4 n5 n6 n7, fun j hj => ?_⟩
      match j, hj with
      | 0, _ | 1, _ | 2, _ | 3, _ | 4, _ | 5, _ | 6, _ | 7, _ => rfl

/-- Thirteen cells that read as a step. -/
theorem op_cells {n : Nat} {l : List Value} {x : DataW H × List MemPlace} (hlen : l.length = 13) (h : DataW.trod enc Tryz.prog w base spare held n 35 l = some x) :
    ∃ o : OpR, l = (opC o).toList ∧ I64 o.on ∧ I64 o.a ∧ I64 o.b ∧ o.s.size ≤ Rows.uptoBulk x.1 := by
  obtain ⟨xs, n, _, hx, hl, hxl, hf⟩ := DataW.trod_struct Tryz.underlying35 h
  match xs, hxl with
  | [y0, y1, y2, y3, y4, y5], _ =>
    have t0 : DataW.trod enc Tryz.prog w base spare held n 3 ((l.drop 0).take (Tryz.prog.cellsOf 3)) = some y0 := hf 0 _ rfl
    have t1 : DataW.trod enc Tryz.prog w base spare held n 3 ((l.drop 1).take (Tryz.prog.cellsOf 3)) = some y1 := hf 1 _ rfl
    have t2 : DataW.trod enc Tryz.prog w base spare held n 3 ((l.drop 2).take (Tryz.prog.cellsOf 3)) = some y2 := hf 2 _ rfl
    have t3 : DataW.trod enc Tryz.prog w base spare held n 3 ((l.drop 3).take (Tryz.prog.cellsOf 3)) = some y3 := hf 3 _ rfl
    have t4 : DataW.trod enc Tryz.prog w base spare held n 9 ((l.drop 4).take (Tryz.prog.cellsOf 9)) = some y4 := hf 4 _ rfl
    have t5 : DataW.trod enc Tryz.prog w base spare held n 33 ((l.drop 5).take (Tryz.prog.cellsOf 33)) = some y5 := hf 5 _ rfl
    rw [cells3] at t0 t1 t2 t3
    rw [cells9] at t4
    rw [cells33] at t5
    obtain ⟨n0, e0, _, _⟩ := DataW.trod_int Tryz.underlying3 t0
    obtain ⟨n1, e1, _, w1⟩ := DataW.trod_int Tryz.underlying3 t1
    obtain ⟨n2, e2, _, w2⟩ := DataW.trod_int Tryz.underlying3 t2
    obtain ⟨n3, e3, _, w3⟩ := DataW.trod_int Tryz.underlying3 t3
    obtain ⟨s, e4, es, _⟩ := DataW.trod_string Tryz.underlying9 t4
    obtain ⟨f, e5⟩ := cmd_cells (by simp [hlen]) t5
    have hbk : s.size ≤ Rows.uptoBulk x.1 := by
      rw [hx]
      refine Nat.le_trans (Nat.le_trans (bulk_string (H := H) s) ?_) (bulk_agg _)
      refine bulk_mem ?_
      rw [es]
      simp
    clear hf hx hl t0 t1 t2 t3 t4 t5 es
    match l, hlen with
    | [c0, c1, c2, c3, c4, c5, c6, c7, c8, c9, c10, c11, c12], _ =>
      have g0 := e5 0 (by omega)
      have g1 := e5 1 (by omega)
      have g2 := e5 2 (by omega)
      have g3 := e5 3 (by omega)
      have g4 := e5 4 (by omega)
      have g5 := e5 5 (by omega)
      have g6 := e5 6 (by omega)
      have g7 := e5 7 (by omega)
      simp at e0 e1 e2 e3 e4 g0 g1 g2 g3 g4 g5 g6 g7
      subst e0 e1 e2 e3 e4 g0 g1 g2 g3 g4 g5 g6 g7
      exact ⟨⟨n0, n1, n2, n3, s, f⟩, rfl, bounds_i64 w1, bounds_i64 w2, bounds_i64 w3, hbk⟩

theorem open_ops {r : Reach} {b0 : Nat} {v : Value} {d : DataW H} {p : List MemPlace} (hv : Value.okWide Tryz.prog w r b0 22 v) (h : DataW.Trod enc Tryz.prog w base spare held 22 v d p) (hd : Rows.uptoBulk d ≤ 1048576) :
    ∃ (x : Option Addr) (L : List OpR) (c : Nat), v = .slice x L.length c ∧ OpsIs w x L ∧ L.length ≤ 1048576 := by
  obtain ⟨a, len, cap, rfl⟩ := okWide_slice Tryz.underlying22 hv
  obtain ⟨fuel, hf0⟩ := h
  have hf1 : DataW.trod enc Tryz.prog w base spare held fuel 22 [.slice a len cap] = some (d, p) := hf0
  rcases Deep.open_slice Tryz.underlying22 hf1 with ⟨h1, h2⟩ | ⟨a', len', cap', m, n, D, Pl, h1, hb, hl, hm, hmm, hx, hall⟩
  · simp only [List.cons.injEq, Value.slice.injEq, and_true] at h1
    obtain ⟨rfl, rfl, rfl⟩ := h1
    exact ⟨none, [], 0, rfl, ⟨fun _ h => (by cases h), Or.inl rfl⟩, by simp⟩
  · simp only [List.cons.injEq, Value.slice.injEq, and_true] at h1
    obtain ⟨rfl, rfl, rfl⟩ := h1
    simp only [Prod.mk.injEq] at hx
    obtain ⟨rfl, rfl⟩ := hx
    have hle : len ≤ m := by rw [hmm]; split <;> omega
    have hel := bulk_slice ((List.range len).map D) ((List.range (m - len)).map fun j => D (len + j))
    have hrow := bulk_row ((List.range len).map D) ((List.range (m - len)).map fun j => D (len + j))
    have each : ∀ i, i < len → ∃ o : OpR, (∀ (j : Nat) v, (opC o)[j]? = some v → w.cell? (a'.add (i * 13 + j)) = some v) ∧ I64 o.on ∧ I64 o.a ∧ I64 o.b ∧ o.s.size ≤ 1048576 := fun i hi => by
      obtain ⟨cs', h1, h2⟩ := hall i (by omega)
      rw [cells35] at h1
      obtain ⟨_, hlen, hcell⟩ := World.cells?_some h1
      obtain ⟨o, ho, b1, b2, b3, hs⟩ := op_cells hlen h2
      have hDi : Rows.uptoBulk (D i) ≤ Rows.uptoBulkAll ((List.range len).map D) := bulk_mem (List.mem_map.2 ⟨i, List.mem_range.2 hi, rfl⟩)
      refine ⟨o, fun j v hv => ?_, b1, b2, b3, by simp only at hs; omega⟩
      have hj : j < 13 := by
        rcases Nat.lt_or_ge j 13 with x | x
        · exact x
        · rw [Array.getElem?_eq_none (by simpa using x)] at hv; cases hv
      have := hcell j hj
      rw [Deep.add_add, ho, Array.getElem?_toList, hv] at this
      exact this
    have inh : Inhabited OpR := ⟨⟨0, 0, 0, 0, ByteArray.empty, fun _ => 0⟩⟩
    obtain ⟨F, hF⟩ := Deep.choose_lt (α := OpR) each
    refine ⟨some a', (List.range len).map F, cap, by simp, ⟨fun f hf => ?_, ?_⟩, ?_⟩
    · obtain ⟨i, hi, rfl⟩ := List.mem_map.1 hf
      exact (hF i (List.mem_range.1 hi)).2
    · rcases Nat.eq_zero_or_pos len with h0 | h0
      · left; simp [h0]
      · right
        have hz := (hF 0 h0).1 0 _ rfl
        have hspot : a'.spot = none := by simpa [Addr.add] using World.cell?_spot hz
        obtain ⟨g, o, spot⟩ := a'
        simp only at hspot
        subst hspot
        refine ⟨g, o, rfl, ?_, fun k f hk j v hv => ?_⟩
        · exact World.block_lt_of_cell? w ⟨g, o, none⟩ (by simpa [Addr.add] using hz)
        · rw [List.getElem?_map] at hk
          rcases Nat.lt_or_ge k len with hkl | hkl
          · rw [List.getElem?_range hkl] at hk
            simp at hk
            subst hk
            have := (hF k hkl).1 j v hv
            rw [show o + k * 13 + j = o + (k * 13 + j) by omega]
            unfold Addr.add at this
            split at this
            · rename_i h0
              rw [h0, Nat.add_zero]
              exact this
            · exact this
          · rw [List.getElem?_eq_none (by simpa using hkl)] at hk
            cases hk
    · simp at hrow ⊢
      omega
end

set_option maxRecDepth 100000 in
set_option maxHeartbeats 1000000 in
theorem books_any (x : Option Addr) (cp : Nat) (L : List OpR) (w : World) (hT : TabW w) (hr : OpsIs w x L) (hl : L.length ≤ 1048576) :
    Calls Tryz.prog 3 #[.slice x L.length cp] w fun e w' => e = .returned (.bool true) ∧ Below w.heap.size w w' := by
  have HC := hid (plays_any x cp L 8 w hT hr hl)
  clear hr hT
  go_enter Tryz.func3, Tryz.ntmps3
  go_wp2_with fail
  refine HC.out.mono ?_
  rintro ex w1 ⟨rfl, hb⟩
  go_wp2
  go_ret
  exact ⟨rfl, hb⟩

set_option maxRecDepth 100000 in
set_option maxHeartbeats 1000000 in
theorem opens_any (x : Option Addr) (cp : Nat) (L : List OpR) (w : World) (hT : TabW w) (hr : OpsIs w x L) (hl : L.length ≤ 1048576) :
    Calls Tryz.prog 4 #[.slice x L.length cp] w fun e w' => e = .returned (.bool true) ∧ Below w.heap.size w w' := by
  have HC := hid (plays_any x cp L 11 w hT hr hl)
  clear hr hT
  go_enter Tryz.func4, Tryz.ntmps4
  go_wp2_with fail
  refine HC.out.mono ?_
  rintro ex w1 ⟨rfl, hb⟩
  go_wp2
  go_ret
  exact ⟨rfl, hb⟩

set_option maxRecDepth 100000 in
set_option maxHeartbeats 1000000 in
theorem all_any (x : Option Addr) (cp : Nat) (L : List OpR) (w : World) (hT : TabW w) (hr : OpsIs w x L) (hl : L.length ≤ 1048576) :
    Calls Tryz.prog 5 #[.slice x L.length cp] w fun e w' => e = .returned (.bool true) ∧ Below w.heap.size w w' := by
  have HC := hid (plays_any x cp L 13 w hT hr hl)
  clear hr hT
  go_enter Tryz.func5, Tryz.ntmps5
  go_wp2_with fail
  refine HC.out.mono ?_
  rintro ex w1 ⟨rfl, hb⟩
  go_wp2
  go_ret
  exact ⟨rfl, hb⟩

end Go.Proofs.YtdblmheoghhepaaGreatDoor
