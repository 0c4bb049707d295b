/- A row of commands that comes in, opened; how many there are. -/
import Derived.Test.YtdblmheoghhepaaDoorCards
import Derived.Test.YtdblmheoghhepaaDoorTie
import Derived.Test.YtdblmheoghhepaaDoorKLaid
import Derived.Test.YtdblmheoghhepaaDoorKCmdsAt
import Derived.Deep.DeepHandedRow
import Derived.Deep.Slices
import Derived.SizedLaws
namespace Go.Proofs.YtdblmheoghhepaaDoor
open Go.ChangeShapes Go.WideShapes Go.ChangeAt Go.RowKit
set_option maxRecDepth 100000

/-- No datum weighs nothing. -/
theorem bulk_pos {H : Type} (d : DataW H) : 0 < Rows.uptoBulk d := by
  cases d <;> first | (unfold Rows.uptoBulk; omega) | skip
  rename_i l
  cases l <;> (unfold Rows.uptoBulk; omega)
theorem bulk_len {H : Type} : ∀ l : List (DataW H), l.length ≤ Rows.uptoBulkAll l
  | [] => Nat.zero_le _
  | d :: r => by
    have h1 := bulk_pos d
    have h2 := bulk_len r
    unfold Rows.uptoBulkAll
    simp only [List.length_cons]
    omega
theorem bulk_row {H : Type} (l r : List (DataW H)) : l.length + 1 ≤ Rows.uptoBulk (.slice l r) := by
  have := bulk_len l
  unfold Rows.uptoBulk
  omega
theorem bulk_cons {H : Type} (d : DataW H) (l : List (DataW H)) : Rows.uptoBulkAll (d :: l) = Rows.uptoBulk d + Rows.uptoBulkAll l := by
  conv => lhs; unfold Rows.uptoBulkAll
theorem bulk_small {H : Type} {l : List (DataW H)} (h : Rows.uptoSmall H l = true) : Rows.uptoBulkAll l ≤ 1048576 := of_decide_eq_true h

section
variable {H : Type} {enc : TypeId × Value → H} {w : World} {base : Nat} {spare : Nat → Bool} {held : Bool}
theorem cmd_cells {n : Nat} {l : List Value} {x : DataW H × List MemPlace} (hlen : l.length = 8) (h : DataW.trod enc Tryd.prog w base spare held n 23 l = some x) :
    ∃ f : Nat → Int, (∀ j, j < 8 → l[j]? = some (.int .i64 (f j))) ∧ Bd f := by
  obtain ⟨xs, n, _, hx, hl, hxl, hf⟩ := DataW.trod_struct Tryd.underlying23 h
  match xs, hxl with
  | [y0, y1, y2, y3, y4, y5, y6, y7], _ =>
    have t0 : DataW.trod enc Tryd.prog w base spare held n 3 ((l.drop 0).take (Tryd.prog.cellsOf 3)) = some y0 := hf 0 _ rfl
    have t1 : DataW.trod enc Tryd.prog w base spare held n 3 ((l.drop 1).take (Tryd.prog.cellsOf 3)) = some y1 := hf 1 _ rfl
    have t2 : DataW.trod enc Tryd.prog w base spare held n 3 ((l.drop 2).take (Tryd.prog.cellsOf 3)) = some y2 := hf 2 _ rfl
    have t3 : DataW.trod enc Tryd.prog w base spare held n 3 ((l.drop 3).take (Tryd.prog.cellsOf 3)) = some y3 := hf 3 _ rfl
    have t4 : DataW.trod enc Tryd.prog w base spare held n 3 ((l.drop 4).take (Tryd.prog.cellsOf 3)) = some y4 := hf 4 _ rfl
    have t5 : DataW.trod enc Tryd.prog w base spare held n 3 ((l.drop 5).take (Tryd.prog.cellsOf 3)) = some y5 := hf 5 _ rfl
    have t6 : DataW.trod enc Tryd.prog w base spare held n 3 ((l.drop 6).take (Tryd.prog.cellsOf 3)) = some y6 := hf 6 _ rfl
    have t7 : DataW.trod enc Tryd.prog w base spare held n 3 ((l.drop 7).take (Tryd.prog.cellsOf 3)) = some y7 := hf 7 _ rfl
    rw [cells3] at t0 t1 t2 t3 t4 t5 t6 t7
    obtain ⟨n0, e0, _, w0⟩ := DataW.trod_int Tryd.underlying3 t0
    obtain ⟨n1, e1, _, _⟩ := DataW.trod_int Tryd.underlying3 t1
    obtain ⟨n2, e2, _, w2⟩ := DataW.trod_int Tryd.underlying3 t2
    obtain ⟨n3, e3, _, w3⟩ := DataW.trod_int Tryd.underlying3 t3
    obtain ⟨n4, e4, _, w4⟩ := DataW.trod_int Tryd.underlying3 t4
    obtain ⟨n5, e5, _, w5⟩ := DataW.trod_int Tryd.underlying3 t5
    obtain ⟨n6, e6, _, w6⟩ := DataW.trod_int Tryd.underlying3 t6
    obtain ⟨n7, e7, _, w7⟩ := DataW.trod_int Tryd.underlying3 t7
    clear hf hx hl t0 t1 t2 t3 t4 t5 t6 t7
    match l, hlen with
    | [c0, c1, c2, c3, c4, c5, c6, c7], _ =>
      simp at e0 e1 e2 e3 e4 e5 e6 e7
      subst e0 e1 e2 e3 e4 e5 e6 e7
      refine ⟨mkF n0 n1 n2 n3 n4 n5 n6 n7, fun j hj => ?_, bounds_i64 w0, bounds_i64 w2, bounds_i64 w3, bounds_i64 w4, bounds_i64 w5, bounds_i64 w6, bounds_i64 w7⟩
      match j, hj with
      | 0, _ | 1, _ | 2, _ | 3, _ | 4, _ | 5, _ | 6, _ | 7, _ => rfl

theorem open_cmd1 {r : Reach} {b0 : Nat} {v : Value} {d : DataW H} {p : List MemPlace} (hv : Value.okWide Tryd.prog w r b0 23 v) (h : DataW.Trod enc Tryd.prog w base spare held 23 v d p) : ∃ f : Nat → Int, v = cmdV f ∧ Bd f := by
  obtain ⟨cs, rfl, hsz⟩ := okWide_struct Tryd.underlying23 hv
  rw [cells23] at hsz
  obtain ⟨fuel, hf0⟩ := h
  obtain ⟨l⟩ := cs
  obtain ⟨f, hf, hbd⟩ := cmd_cells (l := l) hsz hf0
  refine ⟨f, ?_, hbd⟩
  match l, hsz with
  | [c0, c1, c2, c3, c4, c5, c6, c7], _ =>
    have e0 := hf 0 (by omega)
    have e1 := hf 1 (by omega)
    have e2 := hf 2 (by omega)
    have e3 := hf 3 (by omega)
    have e4 := hf 4 (by omega)
    have e5 := hf 5 (by omega)
    have e6 := hf 6 (by omega)
    have e7 := hf 7 (by omega)
    simp at e0 e1 e2 e3 e4 e5 e6 e7
    subst e0 e1 e2 e3 e4 e5 e6 e7
    rfl

theorem open_cmds {r : Reach} {b0 : Nat} {v : Value} {d : DataW H} {p : List MemPlace} (hv : Value.okWide Tryd.prog w r b0 35 v) (h : DataW.Trod enc Tryd.prog w base spare held 35 v d p) :
    ∃ (x : Option Addr) (L : List (Nat → Int)) (c : Nat), v = .slice x L.length c ∧ RawIs w x L ∧ L.length + 1 ≤ Rows.uptoBulk d := by
  obtain ⟨a, len, cap, rfl⟩ := okWide_slice Tryd.underlying35 hv
  obtain ⟨fuel, hf0⟩ := h
  have hf1 : DataW.trod enc Tryd.prog w base spare held fuel 35 [.slice a len cap] = some (d, p) := hf0
  rcases Deep.open_slice Tryd.underlying35 hf1 with ⟨h1, h2⟩ | ⟨a', len', cap', m, n, D, Pl, h1, hb, hl, hm, hmm, hx, hall⟩
  · simp only [List.cons.injEq, Value.slice.injEq, and_true] at h1
    obtain ⟨rfl, rfl, rfl⟩ := h1
    simp only [Prod.mk.injEq] at h2
    obtain ⟨rfl, rfl⟩ := h2
    exact ⟨none, [], 0, rfl, ⟨fun _ h => (by cases h), Or.inl rfl⟩, by unfold Rows.uptoBulk; simp⟩
  · simp only [List.cons.injEq, Value.slice.injEq, and_true] at h1
    obtain ⟨rfl, rfl, rfl⟩ := h1
    simp only [Prod.mk.injEq] at hx
    obtain ⟨rfl, rfl⟩ := hx
    have hle : len ≤ m := by rw [hmm]; split <;> omega
    have each : ∀ i, i < len → ∃ f : Nat → Int, (∀ j, j < 8 → w.cell? (a'.add (i * 8 + j)) = some (.int .i64 (f j))) ∧ Bd f := fun i hi => by
      obtain ⟨cs', h1, h2⟩ := hall i (by omega)
      rw [cells23] at h1
      obtain ⟨_, hlen, hcell⟩ := World.cells?_some h1
      obtain ⟨f, hf, hbd⟩ := cmd_cells hlen h2
      refine ⟨f, fun j hj => ?_, hbd⟩
      have := hcell j hj
      rw [Deep.add_add, hf j hj] at this
      exact this
    obtain ⟨F, hF⟩ := Deep.choose_lt (α := Nat → Int) each
    refine ⟨some a', (List.range len).map F, cap, by simp, ⟨fun f hf => ?_, ?_⟩, ?_⟩
    · obtain ⟨i, hi, rfl⟩ := List.mem_map.1 hf
      exact (hF i (List.mem_range.1 hi)).2
    · rcases Nat.eq_zero_or_pos len with h0 | h0
      · left; simp [h0]
      · right
        have hz := (hF 0 h0).1 0 (by omega)
        have hspot : a'.spot = none := by simpa [Addr.add] using World.cell?_spot hz
        obtain ⟨g, o, spot⟩ := a'
        simp only at hspot
        subst hspot
        refine ⟨g, o, rfl, ?_, fun k f hk j hj => ?_⟩
        · exact World.block_lt_of_cell? w ⟨g, o, none⟩ (by simpa [Addr.add] using hz)
        · rw [List.getElem?_map] at hk
          rcases Nat.lt_or_ge k len with hkl | hkl
          · rw [List.getElem?_range hkl] at hk
            simp at hk
            subst hk
            have := (hF k hkl).1 j hj
            rw [show o + k * 8 + j = o + (k * 8 + j) by omega]
            unfold Addr.add at this
            split at this
            · rename_i h0
              rw [h0, Nat.add_zero]
              exact this
            · exact this
          · rw [List.getElem?_eq_none (by simpa using hkl)] at hk
            cases hk
    · have := bulk_row ((List.range len).map D) ((List.range (m - len)).map fun j => D (len + j))
      simpa using this
end

end Go.Proofs.YtdblmheoghhepaaDoor
