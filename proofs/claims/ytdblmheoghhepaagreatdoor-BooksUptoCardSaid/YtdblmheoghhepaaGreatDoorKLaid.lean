/- From the row's condition to the table; from the argument to the command's eight numbers. -/
import Derived.Test.YtdblmheoghhepaaGreatDoorRows
import Derived.Test.YtdblmheoghhepaaGreatDoorKBase
import Derived.WalkKit
import Derived.ProofKit
import Derived.OpenShut
namespace Go.Proofs.YtdblmheoghhepaaGreatDoor
open Go.ChangeShapes Go.WideShapes Go.ChangeAt Go.RowKit
set_option maxRecDepth 100000

theorem gTab : Tryz.prog.globalNamed "larder/command.table" = some 0 := by kernel_rfl
theorem gTabType : (Tryz.prog.globals[0]?).map (·.type) = some 150 := by kernel_rfl
theorem cells128 : Tryz.prog.cellsOf 128 = 5 := by kernel_rfl
theorem cells126 : Tryz.prog.cellsOf 126 = 1 := by kernel_rfl
theorem cells3 : Tryz.prog.cellsOf 3 = 1 := by kernel_rfl
theorem cells33 : Tryz.prog.cellsOf 33 = 8 := by kernel_rfl

section
variable {H : Type} {enc : TypeId × Value → H} {w : World} {base : Nat} {spare : Nat → Bool} {held : Bool}

/-- Five cells that read as a part. -/
theorem part_cells {fuel : Nat} {cs : List Value} {a b c d e : Int} {p : List MemPlace}
    (h : DataW.trod enc Tryz.prog w base spare held fuel 128 cs = some (.agg [.lit (.int .u16 a), .lit (.int .i64 b), .lit (.int .i64 c), .lit (.int .i64 d), .lit (.int .i64 e)], p)) :
    cs = [.int .u16 a, .int .i64 b, .int .i64 c, .int .i64 d, .int .i64 e] := by
  obtain ⟨xs, n, _, hx, hl, hlen, hf⟩ := DataW.trod_struct Tryz.underlying128 h
  rw [cells128] at hl
  match xs, hlen with
  | [y0, y1, y2, y3, y4], _ =>
    have t0 : DataW.trod enc Tryz.prog w base spare held n 126 ((cs.drop 0).take (Tryz.prog.cellsOf 126)) = some y0 := hf 0 _ rfl
    have t1 : DataW.trod enc Tryz.prog w base spare held n 3 ((cs.drop 1).take (Tryz.prog.cellsOf 3)) = some y1 := hf 1 _ rfl
    have t2 : DataW.trod enc Tryz.prog w base spare held n 3 ((cs.drop 2).take (Tryz.prog.cellsOf 3)) = some y2 := hf 2 _ rfl
    have t3 : DataW.trod enc Tryz.prog w base spare held n 3 ((cs.drop 3).take (Tryz.prog.cellsOf 3)) = some y3 := hf 3 _ rfl
    have t4 : DataW.trod enc Tryz.prog w base spare held n 3 ((cs.drop 4).take (Tryz.prog.cellsOf 3)) = some y4 := hf 4 _ rfl
    rw [cells126] at t0
    rw [cells3] at t1 t2 t3 t4
    obtain ⟨n0, e0, rfl, _⟩ := DataW.trod_int Tryz.underlying126 t0
    obtain ⟨n1, e1, rfl, _⟩ := DataW.trod_int Tryz.underlying3 t1
    obtain ⟨n2, e2, rfl, _⟩ := DataW.trod_int Tryz.underlying3 t2
    obtain ⟨n3, e3, rfl, _⟩ := DataW.trod_int Tryz.underlying3 t3
    obtain ⟨n4, e4, rfl, _⟩ := DataW.trod_int Tryz.underlying3 t4
    simp at hx
    obtain ⟨⟨rfl, rfl, rfl, rfl, rfl⟩, _⟩ := hx
    match cs, hl with
    | [c0, c1, c2, c3, c4], _ =>
      simp at e0 e1 e2 e3 e4
      simp [e0, e1, e2, e3, e4]

/-- A command that comes in is eight numbers. -/
theorem open_cmd {r : Reach} {b0 : Nat} {v : Value} {d : DataW H} {p : List MemPlace} (hv : Value.okWide Tryz.prog w r b0 33 v) (h : DataW.Trod enc Tryz.prog w base spare held 33 v d p) :
    ∃ a0 a1 a2 a3 a4 a5 a6 a7 : Int, v = .agg #[.int .i64 a0, .int .i64 a1, .int .i64 a2, .int .i64 a3, .int .i64 a4, .int .i64 a5, .int .i64 a6, .int .i64 a7] := by
  obtain ⟨cs, rfl, hsz⟩ := okWide_struct Tryz.underlying33 hv
  rw [cells33] at hsz
  obtain ⟨fuel, hf0⟩ := h
  obtain ⟨xs, n, _, hx, hl, hlen, hf⟩ := DataW.trod_struct Tryz.underlying33 hf0
  obtain ⟨l⟩ := cs
  match xs, hlen with
  | [y0, y1, y2, y3, y4, y5, y6, y7], _ =>
    have t0 : DataW.trod enc Tryz.prog w base spare held n 3 ((l.drop 0).take (Tryz.prog.cellsOf 3)) = some y0 := hf 0 _ rfl
    have t1 : DataW.trod enc Tryz.prog w base spare held n 3 ((l.drop 1).take (Tryz.prog.cellsOf 3)) = some y1 := hf 1 _ rfl
    have t2 : DataW.trod enc Tryz.prog w base spare held n 3 ((l.drop 2).take (Tryz.prog.cellsOf 3)) = some y2 := hf 2 _ rfl
    have t3 : DataW.trod enc Tryz.prog w base spare held n 3 ((l.drop 3).take (Tryz.prog.cellsOf 3)) = some y3 := hf 3 _ rfl
    have t4 : DataW.trod enc Tryz.prog w base spare held n 3 ((l.drop 4).take (Tryz.prog.cellsOf 3)) = some y4 := hf 4 _ rfl
    have t5 : DataW.trod enc Tryz.prog w base spare held n 3 ((l.drop 5).take (Tryz.prog.cellsOf 3)) = some y5 := hf 5 _ rfl
    have t6 : DataW.trod enc Tryz.prog w base spare held n 3 ((l.drop 6).take (Tryz.prog.cellsOf 3)) = some y6 := hf 6 _ rfl
    have t7 : DataW.trod enc Tryz.prog w base spare held n 3 ((l.drop 7).take (Tryz.prog.cellsOf 3)) = some y7 := hf 7 _ rfl
    rw [cells3] at t0 t1 t2 t3 t4 t5 t6 t7
    obtain ⟨n0, e0, _, _⟩ := DataW.trod_int Tryz.underlying3 t0
    obtain ⟨n1, e1, _, _⟩ := DataW.trod_int Tryz.underlying3 t1
    obtain ⟨n2, e2, _, _⟩ := DataW.trod_int Tryz.underlying3 t2
    obtain ⟨n3, e3, _, _⟩ := DataW.trod_int Tryz.underlying3 t3
    obtain ⟨n4, e4, _, _⟩ := DataW.trod_int Tryz.underlying3 t4
    obtain ⟨n5, e5, _, _⟩ := DataW.trod_int Tryz.underlying3 t5
    obtain ⟨n6, e6, _, _⟩ := DataW.trod_int Tryz.underlying3 t6
    obtain ⟨n7, e7, _, _⟩ := DataW.trod_int Tryz.underlying3 t7
    clear hf hx hl hf0 t0 t1 t2 t3 t4 t5 t6 t7 hv
    match l, hsz with
    | [c0, c1, c2, c3, c4, c5, c6, c7], _ =>
      simp at e0 e1 e2 e3 e4 e5 e6 e7
      exact ⟨n0, n1, n2, n3, n4, n5, n6, n7, by simp [e0, e1, e2, e3, e4, e5, e6, e7]⟩
end

theorem nine (cs : List Value) (h : cs.length = 45) : cs = (cs.drop (0 * 5)).take 5 ++ ((cs.drop (1 * 5)).take 5 ++ ((cs.drop (2 * 5)).take 5 ++ ((cs.drop (3 * 5)).take 5 ++ ((cs.drop (4 * 5)).take 5 ++ ((cs.drop (5 * 5)).take 5 ++ ((cs.drop (6 * 5)).take 5 ++ ((cs.drop (7 * 5)).take 5 ++ (cs.drop (8 * 5)).take 5))))))) := by
  have step : ∀ k, cs.drop (k * 5) = (cs.drop (k * 5)).take 5 ++ cs.drop ((k + 1) * 5) := fun k => by
    rw [Nat.add_mul, Nat.one_mul, ← List.drop_drop]; exact (List.take_append_drop 5 _).symm
  have e9 : cs.drop ((8 + 1) * 5) = [] := List.drop_eq_nil_of_le (by omega)
  have h8 := step 8
  rw [e9, List.append_nil] at h8
  rw [← h8, ← step 7, ← step 6, ← step 5, ← step 4, ← step 3, ← step 2, ← step 1, ← step 0, Nat.zero_mul, List.drop_zero]

/-- WHAT THE ROW's LIST GIVES: the table lies in block 0. -/
theorem tab_of_laid {W : World} (h : laidMetH Tryz.prog [("larder/command.table", Rows.laid_larder_command_table)] W) : TabW W := by
  have h' : laidMet Tryz.prog [("larder/command.table", Rows.laid_larder_command_table)] W := h
  obtain ⟨ps, ⟨g', t', cs, fuel, p, q, hg', ht', hvar, hd, _, _⟩, _⟩ := h'
  obtain rfl := Option.some.inj (gTab.symm.trans hg')
  obtain rfl := Option.some.inj (gTabType.symm.trans ht')
  obtain ⟨xs, m, _, hx, hl, hlen, hf⟩ := DataW.trod_array Tryz.underlying150 hd
  have hl' : cs.toList.length = 45 := hl.trans (by kernel_rfl)
  match xs, hlen with
  | [y0, y1, y2, y3, y4, y5, y6, y7, y8], _ =>
    have t0 := hf 0 (by omega)
    have t1 := hf 1 (by omega)
    have t2 := hf 2 (by omega)
    have t3 := hf 3 (by omega)
    have t4 := hf 4 (by omega)
    have t5 := hf 5 (by omega)
    have t6 := hf 6 (by omega)
    have t7 := hf 7 (by omega)
    have t8 := hf 8 (by omega)
    rw [cells128] at t0 t1 t2 t3 t4 t5 t6 t7 t8
    simp only [List.getElem?_cons_zero, List.getElem?_cons_succ] at t0 t1 t2 t3 t4 t5 t6 t7 t8
    simp only [Rows.laid_larder_command_table, Prod.mk.injEq, DataW.agg.injEq, List.map_cons, List.map_nil, List.cons.injEq, and_true] at hx
    obtain ⟨⟨x0, x1, x2, x3, x4, x5, x6, x7, x8⟩, _⟩ := hx
    have c0 := part_cells (p := y0.2) (t0.trans (by rw [x0]))
    have c1 := part_cells (p := y1.2) (t1.trans (by rw [x1]))
    have c2 := part_cells (p := y2.2) (t2.trans (by rw [x2]))
    have c3 := part_cells (p := y3.2) (t3.trans (by rw [x3]))
    have c4 := part_cells (p := y4.2) (t4.trans (by rw [x4]))
    have c5 := part_cells (p := y5.2) (t5.trans (by rw [x5]))
    have c6 := part_cells (p := y6.2) (t6.trans (by rw [x6]))
    have c7 := part_cells (p := y7.2) (t7.trans (by rw [x7]))
    have c8 := part_cells (p := y8.2) (t8.trans (by rw [x8]))
    have hall : cs = tabC := by
      apply Array.toList_inj.1
      rw [nine cs.toList hl', c0, c1, c2, c3, c4, c5, c6, c7, c8]
      rfl
    unfold World.var? at hvar
    rw [gTab] at hvar
    simp only [Option.bind_some] at hvar
    split at hvar
    · rename_i c' t' fr' hh
      cases hvar
      exact ⟨t', fr', by rw [hh, hall]⟩
    · cases hvar

/-- A world whose block 0 holds the table as its initialiser lays it. -/
def layTab : Obj → Obj
  | .cells _ t frozen => .cells tabC t frozen
  | o => o
def withTab (w : World) : World := { w with heap := w.heap.modify 0 layTab }

end Go.Proofs.YtdblmheoghhepaaGreatDoor
