/- The last answers: 'of', 'add'. -/
import Derived.Test.YtdblmheoghhepaaGreatDoorKStock
import Derived.Test.YtdblmheoghhepaaGreatDoorKCloseAll
import Derived.Laws.IdiomCopy
namespace Go.Proofs.YtdblmheoghhepaaGreatDoor
open Go.RowKit

abbrev tenV (R : Nat → Int) : Value := .agg #[.int .i64 (R 0), .int .i64 (R 1), .int .i64 (R 2), .int .i64 (R 3), .int .i64 (R 4), .int .i64 (R 5), .int .i64 (R 6), .int .i64 (R 7), .int .i64 (R 8), .int .i64 (R 9)]
abbrev tenC (R : Nat → Int) : Array Value := #[.int .i64 (R 0), .int .i64 (R 1), .int .i64 (R 2), .int .i64 (R 3), .int .i64 (R 4), .int .i64 (R 5), .int .i64 (R 6), .int .i64 (R 7), .int .i64 (R 8), .int .i64 (R 9)]
/-- Row i of the last answers. -/
def rowA (A : Nat → Int) (i : Nat) : Nat → Int := fun j => A (i * 10 + j)
def hitA (A : Nat → Int) (id : Int) (i : Nat) : Bool := A (i * 10) != 0 && A (i * 10 + 1) == id
/-- What is not taken yet is zero; what is has a kind. -/
def Rows8 (A : Nat → Int) : Prop := ∀ i, i < 8 → (∀ j, j < 10 → A (i * 10 + j) = 0) ∨ A (i * 10) ≠ 0

theorem nums10 {w : World} {b o n : Nat} {A : Nat → Int} (h : NumsAt w b o n A) {k : Nat} (hk : k * 10 + 10 ≤ n) :
    w.cell? ⟨b, o + k * 10, none⟩ = some (.int .i64 (A (k * 10))) ∧ w.cell? ⟨b, o + k * 10 + 1, none⟩ = some (.int .i64 (A (k * 10 + 1))) ∧ w.cell? ⟨b, o + k * 10 + 1 + 1, none⟩ = some (.int .i64 (A (k * 10 + 2))) ∧ w.cell? ⟨b, o + k * 10 + 1 + 1 + 1, none⟩ = some (.int .i64 (A (k * 10 + 3))) ∧ w.cell? ⟨b, o + k * 10 + 1 + 1 + 1 + 1, none⟩ = some (.int .i64 (A (k * 10 + 4))) ∧
    w.cell? ⟨b, o + k * 10 + 1 + 1 + 1 + 1 + 1, none⟩ = some (.int .i64 (A (k * 10 + 5))) ∧ w.cell? ⟨b, o + k * 10 + 1 + 1 + 1 + 1 + 1 + 1, none⟩ = some (.int .i64 (A (k * 10 + 6))) ∧ w.cell? ⟨b, o + k * 10 + 1 + 1 + 1 + 1 + 1 + 1 + 1, none⟩ = some (.int .i64 (A (k * 10 + 7))) ∧ w.cell? ⟨b, o + k * 10 + 1 + 1 + 1 + 1 + 1 + 1 + 1 + 1, none⟩ = some (.int .i64 (A (k * 10 + 8))) ∧
    w.cell? ⟨b, o + k * 10 + 1 + 1 + 1 + 1 + 1 + 1 + 1 + 1 + 1, none⟩ = some (.int .i64 (A (k * 10 + 9))) := by
  have c : ∀ j, j < 10 → w.cell? ⟨b, o + k * 10 + j, none⟩ = some (.int .i64 (A (k * 10 + j))) := fun j hj => by
    have := h (k * 10 + j) (by omega)
    rwa [← Nat.add_assoc] at this
  exact ⟨c 0 (by omega), c 1 (by omega), c 2 (by omega), c 3 (by omega), c 4 (by omega), c 5 (by omega), c 6 (by omega), c 7 (by omega), c 8 (by omega), c 9 (by omega)⟩

theorem nums_new10 (w : World) (R : Nat → Int) (t : TypeId) : NumsAt (w.alloc (.cells (tenC R) t)) w.heap.size 0 10 R := by
  intro k hk
  rw [Nat.zero_add, World.cell?_alloc_new]
  match k, hk with
  | 0, _ | 1, _ | 2, _ | 3, _ | 4, _ | 5, _ | 6, _ | 7, _ | 8, _ | 9, _ => rfl
  | m + 10, hm => omega

theorem below10 {B b : Nat} {w w' : World} (h : Below B w w') (hb : B ≤ b) (v0 v1 v2 v3 v4 v5 v6 v7 v8 v9 : Value) :
    Below B w ((((((((((w'.setCell ⟨b, 0, none⟩ v0).setCell ⟨b, 1, none⟩ v1).setCell ⟨b, 2, none⟩ v2).setCell ⟨b, 3, none⟩ v3).setCell ⟨b, 4, none⟩ v4).setCell ⟨b, 5, none⟩ v5).setCell ⟨b, 6, none⟩ v6).setCell ⟨b, 7, none⟩ v7).setCell ⟨b, 8, none⟩ v8).setCell ⟨b, 9, none⟩ v9) :=
  (((((((((h.setCell (p := ⟨b, 0, none⟩) hb _).setCell (p := ⟨b, 1, none⟩) hb _).setCell (p := ⟨b, 2, none⟩) hb _).setCell (p := ⟨b, 3, none⟩) hb _).setCell (p := ⟨b, 4, none⟩) hb _).setCell (p := ⟨b, 5, none⟩) hb _).setCell (p := ⟨b, 6, none⟩) hb _).setCell (p := ⟨b, 7, none⟩) hb _).setCell (p := ⟨b, 8, none⟩) hb _).setCell (p := ⟨b, 9, none⟩) hb _

set_option maxRecDepth 100000 in
set_option maxHeartbeats 2000000 in
theorem of_any (b o : Nat) (A : Nat → Int) (id : Int) (w : World) (h : NumsAt w b o 80 A) (hR : Rows8 A) :
    Calls Tryz.prog 50 #[.pointer (some ⟨b, o, none⟩), .int .i64 id] w fun e w' => ((∃ i, i < 8 ∧ hitA A id i = true ∧ (∀ j, j < i → hitA A id j = false) ∧ e = .returned (.tuple #[tenV (rowA A i), .bool true])) ∨ ((∀ j, j < 8 → hitA A id j = false) ∧ e = .returned (.tuple #[tenV zeroH, .bool false]))) ∧ Below w.heap.size w w' := by
  have hlt : b < w.heap.size := World.block_lt_of_cell? w ⟨b, o + 0, none⟩ (h 0 (by omega))
  go_enter Tryz.func50, Tryz.ntmps50
  go_wp2
  go_loopw [7, 10] (fun _ i wr => ∃ k : Nat, k ≤ 8 ∧ i = .int .i64 k ∧ (∀ j, j < k → hitA A id j = false) ∧ NumsAt wr w.heap.size 0 10 zeroH ∧ Free wr w.heap.size ∧ Below w.heap.size w wr ∧ w.heap.size < wr.heap.size) (fun _ i _ => 8 - (intOf i).toNat)
  case atStart => exact ⟨0, by omega, rfl, fun j hj => by omega, nums_new10 w zeroH 68, free_new w _ 68, (Below.refl _ _).alloc (Nat.le_refl _) _, by simp⟩
  case round =>
    obtain ⟨k, hk, rfl, hno, hZ, hF, hb, hsz⟩ := hrel
    by_cases hlt2 : k < 8
    · have hkI : (k : Int) < 8 := by omega
      have hN : NumsAt wr b o 80 A := h.same (hb.block b hlt)
      obtain ⟨c0, c1, c2, c3, c4, c5, c6, c7, c8, c9⟩ := nums10 hN (k := k) (by omega)
      have HNO : Hid (∀ j, j < k → hitA A id j = false) := hno
      clear hno h
      rcases hR k hlt2 with hz | hnz
      · have q0 := hz 0 (by omega)
        have q1 := hz 1 (by omega)
        have q2 := hz 2 (by omega)
        have q3 := hz 3 (by omega)
        have q4 := hz 4 (by omega)
        have q5 := hz 5 (by omega)
        have q6 := hz 6 (by omega)
        have q7 := hz 7 (by omega)
        have q8 := hz 8 (by omega)
        have q9 := hz 9 (by omega)
        rw [Nat.add_zero] at q0
        have HK : Hid (hitA A id k = false) := by show _ = _; simp [hitA, q0]
        rw [q0] at c0
        rw [q1] at c1
        rw [q2] at c2
        rw [q3] at c3
        rw [q4] at c4
        rw [q5] at c5
        rw [q6] at c6
        rw [q7] at c7
        rw [q8] at c8
        rw [q9] at c9
        clear hz hN hR q0 q1 q2 q3 q4 q5 q6 q7 q8 q9
        go_wp2
        go_roundw
        case rel => exact ⟨k + 1, by omega, by go_num, fun j hj => (by rcases Nat.lt_succ_iff_lt_or_eq.1 hj with h1 | h1; exact HNO.out j h1; rw [h1]; exact HK.out), hZ.same (Below.heap_alloc _ _ _ hsz), fun j => (World.frozen?_of_block (Below.heap_alloc _ _ _ hsz)).trans (hF j), hb.alloc (by omega) _, by simp; omega⟩
        case measure => simp [intOf]; omega
      · have hne0 : (A (k * 10) == 0) = false := by simpa using hnz
        by_cases hid : (A (k * 10 + 1) == id) = true
        · have HK : Hid (hitA A id k = true) := by show _ = _; simp [hitA, hnz, hid]
          obtain ⟨z0, z1, z2, z3, z4, z5, z6, z7, z8, z9⟩ := nums10 hZ (k := 0) (by omega)
          simp only [Nat.zero_mul, Nat.add_zero, Nat.zero_add] at z0 z1 z2 z3 z4 z5 z6 z7 z8 z9
          have f0 := hF 0
          have f1 := hF 1
          have f2 := hF 2
          have f3 := hF 3
          have f4 := hF 4
          have f5 := hF 5
          have f6 := hF 6
          have f7 := hF 7
          have f8 := hF 8
          have f9 := hF 9
          clear hN hR hZ hF hnz
          go_wp2
          refine bodyPost_ret (v := .tuple #[tenV (rowA A k), .bool true]) (by simp [results, Tryz.results50, go_sem, z0, z1, z2, z3, z4, z5, z6, z7, z8, z9, rowA, hsz]) rfl ⟨Or.inl ⟨k, by omega, HK.out, HNO.out, rfl⟩, ?_⟩
          exact (below10 hb (Nat.le_refl _) _ _ _ _ _ _ _ _ _ _).alloc (by simp [World.setCell]; omega) _
        · have hid' : (A (k * 10 + 1) == id) = false := by simpa using hid
          have HK : Hid (hitA A id k = false) := by show _ = _; simp [hitA, hid']
          clear hN hR hid hnz
          go_wp2
          go_roundw
          case rel => exact ⟨k + 1, by omega, by go_num, fun j hj => (by rcases Nat.lt_succ_iff_lt_or_eq.1 hj with h1 | h1; exact HNO.out j h1; rw [h1]; exact HK.out), hZ.same (Below.heap_alloc _ _ _ hsz), fun j => (World.frozen?_of_block (Below.heap_alloc _ _ _ hsz)).trans (hF j), hb.alloc (by omega) _, by simp; omega⟩
          case measure => simp [intOf]; omega
    · have he : k = 8 := by omega
      subst he
      obtain ⟨z0, z1, z2, z3, z4, z5, z6, z7, z8, z9⟩ := nums10 hZ (k := 0) (by omega)
      simp only [Nat.zero_mul, Nat.add_zero, Nat.zero_add] at z0 z1 z2 z3 z4 z5 z6 z7 z8 z9
      have f0 := hF 0
      have f1 := hF 1
      have f2 := hF 2
      have f3 := hF 3
      have f4 := hF 4
      have f5 := hF 5
      have f6 := hF 6
      have f7 := hF 7
      have f8 := hF 8
      have f9 := hF 9
      have HNO : Hid (∀ j, j < 8 → hitA A id j = false) := hno
      clear hno h hZ hF
      go_wp2
      refine bodyPost_ret (v := .tuple #[tenV zeroH, .bool false]) (by simp [results, Tryz.results50, go_sem, z0, z1, z2, z3, z4, z5, z6, z7, z8, z9]) rfl ⟨Or.inr ⟨HNO.out, rfl⟩, ?_⟩
      exact below10 hb (Nat.le_refl _) _ _ _ _ _ _ _ _ _ _

end Go.Proofs.YtdblmheoghhepaaGreatDoor

/- The last answers: 'add'. -/
namespace Go.Proofs.YtdblmheoghhepaaGreatDoor
open Go.RowKit

def pushA (A R : Nat → Int) : Nat → Int := fun j => if j < 10 then R j else A (j - 10)
def cellsTo (A : Nat → Int) (n : Nat) : List Value := (List.range n).map fun j => .int .i64 (A j)
theorem cellsTo_length (A : Nat → Int) (n : Nat) : (cellsTo A n).length = n := by simp [cellsTo]
theorem cellsTo_at (A : Nat → Int) (n j : Nat) (hj : j < n) : (cellsTo A n)[j]? = some (.int .i64 (A j)) := by
  unfold cellsTo
  rw [List.getElem?_map, List.getElem?_range hj]
  rfl

theorem run_copy10 (w : World) (ty : TypeId) (b o : Nat) (A : Nat → Int) (h : NumsAt w b o 80 A) (hf : Free w b) :
    (Builtin.copy_ #[140, 140] ty #[.slice (some ⟨b, o + 10, none⟩) 7 7, .slice (some ⟨b, o, none⟩) 8 8]).run Tryz.prog w = .ok (.int .i64 7) (w.setCells b (o + 10) (cellsTo A 70)) := by
  have hl := run_loadCells_list (P := Tryz.prog) w ⟨b, o, none⟩ (cellsTo A 70) (fun j v hj => by
    have hj' : j < 70 := by
      have := (List.getElem?_eq_some_iff.1 hj).1
      simpa [cellsTo] using this
    rw [cellsTo_at A 70 j hj'] at hj
    cases hj
    have e : (⟨b, o, none⟩ : Addr).add j = ⟨b, o + j, none⟩ := by unfold Addr.add; split <;> simp_all
    rw [e]
    exact h j (by omega))
  have hst := run_storeCells_cells (P := Tryz.prog) b (o + 10) (cellsTo A 70) 0 w (fun j hj => by
    have hj' : j < 70 := by simpa [cellsTo] using hj
    have := h (10 + j) (by omega)
    rw [← Nat.add_assoc] at this
    rw [Nat.add_zero, this]; rfl) (fun j _ => hf _) (fun v hv => by
    simp [cellsTo] at hv
    obtain ⟨x, _, rfl⟩ := hv
    rfl)
  rw [cellsTo_length] at hl
  obtain ⟨i, hi, hs⟩ : ∃ i, Tryz.prog.info? 68 = some i ∧ i.size = 10 := by
    have : (Tryz.prog.info? 68).map (·.size) = some 10 := by kernel_rfl
    cases hq : Tryz.prog.info? 68 with
    | none => simp [hq] at this
    | some i => exact ⟨i, rfl, by simpa [hq] using this⟩
  simp [Builtin.copy_, run_underlying Tryz.underlying140, Builtin.lenOf, Builtin.firstCells, sizeOf, typeInfo, hi, hs, hl]
  rw [hst]
  rfl

theorem setCells_grown (w : World) (b o : Nat) (vs : List Value) : w.grownBy (w.setCells b o vs) (some b) := by
  induction vs generalizing w o with
  | nil => exact ⟨rfl, rfl, rfl, Nat.le_refl _, fun _ _ _ => rfl⟩
  | cons v r ih => exact (grown_setCell0 w ⟨b, o, none⟩ v).trans (ih _ _)

/-- What 'add' leaves of a block: the first ten numbers are new, the others have moved on. -/
structure Pushed (w w' : World) (b o : Nat) (A R : Nat → Int) : Prop where
  nums : NumsAt w' b o 80 (pushA A R)
  cells : ∀ j, j < o ∨ o + 80 ≤ j → w'.cell? ⟨b, j, none⟩ = w.cell? ⟨b, j, none⟩
  free : Free w' b
  turned : Turned (fun k => k = b) w w'

theorem Turned.drew {F : Nat → Prop} {a w : World} (h : Turned F a w) : Turned F a w.drew := ⟨h.os, h.tape, h.output, h.size, h.block⟩

/-- A list of so many numbers. -/
structure NumList (C : List Value) (n : Nat) (A : Nat → Int) : Prop where
  len : C.length = n
  val : ∀ j, j < n → C[j]? = some (.int .i64 (A j))
theorem NumList.get {C : List Value} {n : Nat} {A : Nat → Int} (h : NumList C n A) {j : Nat} (hj : j < C.length) : C[j] = .int .i64 (A j) := by
  have h1 := h.len
  have := h.val j (by omega)
  rw [List.getElem?_eq_getElem hj] at this
  exact Option.some.inj this
theorem numList_to (A : Nat → Int) (n : Nat) : NumList (cellsTo A n) n A := ⟨cellsTo_length A n, fun j hj => cellsTo_at A n j hj⟩

theorem pushed_of {w w1 w2 : World} {b o : Nat} {A R : Nat → Int} {C D : List Value} (hC : NumList C 70 A) (hD : NumList D 10 R) (hT : Turned (fun k => k = b) w w1) (hs : ∀ j, w1.cell? ⟨b, j, none⟩ = w.cell? ⟨b, j, none⟩) (hN : NumsAt w1 b o 80 A) (hF : Free w1 b) (h2 : w1.setCells b (o + 10) C = w2) :
    Pushed w ((w2.setCells b o D).drew) b o A R := by
  have lC := hC.len
  have lD := hD.len
  have out2 : ∀ j, j < o + 10 ∨ o + 80 ≤ j → w2.cell? ⟨b, j, none⟩ = w1.cell? ⟨b, j, none⟩ := fun j hj => by
    rw [← h2]
    exact World.cell?_setCells_out b _ _ _ _ (fun _ _ => by rw [lC]; show j < o + 10 ∨ o + 10 + 70 ≤ j; omega)
  have in2 : ∀ j, j < 70 → w2.cell? ⟨b, o + 10 + j, none⟩ = some (.int .i64 (A j)) := fun j hj => by
    rw [← h2, World.cell?_setCells_in b C (o + 10) w1 (fun i hi => by
      have := hN (10 + i) (by omega)
      rw [← Nat.add_assoc] at this
      rw [this]; rfl) j (by omega), hC.get]
  have T2 : Turned (fun k => k = b) w w2 := by
    rw [← h2]
    exact hT.trans (Turned.ofGrown (setCells_grown w1 b (o + 10) C) (fun k e => by cases e; exact Or.inl rfl))
  have F2 : Free w2 b := fun j => by rw [← h2, World.frozen?_setCells]; exact hF j
  clear h2
  have out3 : ∀ j, j < o ∨ o + 10 ≤ j → (w2.setCells b o D).cell? ⟨b, j, none⟩ = w2.cell? ⟨b, j, none⟩ := fun j hj => World.cell?_setCells_out b _ _ _ _ (fun _ _ => by rw [lD]; exact hj)
  have in3 : ∀ j, j < 10 → (w2.setCells b o D).cell? ⟨b, o + j, none⟩ = some (.int .i64 (R j)) := fun j hj => by
    rw [World.cell?_setCells_in b D o w2 (fun i hi => by
      rw [out2 (o + i) (by omega), hN i (by omega)]; rfl) j (by omega), hD.get]
  have T3 : Turned (fun k => k = b) w (w2.setCells b o D) := T2.trans (Turned.ofGrown (setCells_grown w2 b o D) (fun k e => by cases e; exact Or.inl rfl))
  have F3 : Free (w2.setCells b o D) b := fun j => by rw [World.frozen?_setCells]; exact F2 j
  refine ⟨fun k hk => ?_, fun j hj => ?_, F3, T3.drew⟩
  · show (w2.setCells b o D).cell? _ = _
    unfold pushA
    by_cases h10 : k < 10
    · rw [if_pos h10]; exact in3 k h10
    · rw [if_neg h10, out3 (o + k) (by omega)]
      have := in2 (k - 10) (by omega)
      rwa [show o + 10 + (k - 10) = o + k by omega] at this
  · show (w2.setCells b o D).cell? _ = _
    rw [out3 j (by omega), out2 j (by omega)]
    exact hs j

abbrev tenL (R : Nat → Int) : List Value := [.int .i64 (R 0), .int .i64 (R 1), .int .i64 (R 2), .int .i64 (R 3), .int .i64 (R 4), .int .i64 (R 5), .int .i64 (R 6), .int .i64 (R 7), .int .i64 (R 8), .int .i64 (R 9)]
theorem numList_ten (R : Nat → Int) : NumList (tenL R) 10 R := by
  refine ⟨rfl, fun j hj => ?_⟩
  match j, hj with
  | 0, _ | 1, _ | 2, _ | 3, _ | 4, _ | 5, _ | 6, _ | 7, _ | 8, _ | 9, _ => rfl
  | m + 10, hm => omega

set_option maxRecDepth 100000 in
set_option maxHeartbeats 2000000 in
theorem push_any (b o : Nat) (A R : Nat → Int) (w : World) (h : NumsAt w b o 80 A) (hf : Free w b) :
    Calls Tryz.prog 52 #[.pointer (some ⟨b, o, none⟩), tenV R] w fun e w' => e = .returned (.tuple #[]) ∧ Pushed w w' b o A R := by
  have hlt : b < w.heap.size := World.block_lt_of_cell? w ⟨b, o + 0, none⟩ (h 0 (by omega))
  have hN1 : NumsAt ((w.alloc (.cells (tenC R) 68)).drew) b o 80 A := h.same (Below.heap_alloc _ _ _ hlt)
  have hF1 : Free ((w.alloc (.cells (tenC R) 68)).drew) b := fun j => (World.frozen?_of_block (Below.heap_alloc w (.cells (tenC R) 68) b hlt)).trans (hf j)
  have hcp := fun ty => run_copy10 _ ty b o A hN1 hF1
  obtain ⟨w2, hw2⟩ : ∃ w2, ((w.alloc (.cells (tenC R) 68)).drew).setCells b (o + 10) (cellsTo A 70) = w2 := ⟨_, rfl⟩
  rw [hw2] at hcp
  have HW : Hid (((w.alloc (.cells (tenC R) 68)).drew).setCells b (o + 10) (cellsTo A 70) = w2) := hw2
  have hg := setCells_grown ((w.alloc (.cells (tenC R) 68)).drew) b (o + 10) (cellsTo A 70)
  rw [hw2] at hg
  have hX : NumsAt w2 w.heap.size 0 10 R := by
    have n1 : NumsAt ((w.alloc (.cells (tenC R) 68)).drew) w.heap.size 0 10 R := nums_new10 w R 68
    exact n1.same (hg.block w.heap.size (by simp) (by simp; omega))
  obtain ⟨x0, x1, x2, x3, x4, x5, x6, x7, x8, x9⟩ := nums10 hX (k := 0) (by omega)
  simp only [Nat.zero_mul, Nat.add_zero, Nat.zero_add] at x0 x1 x2 x3 x4 x5 x6 x7 x8 x9
  have hold : ∀ j, j < 10 → w2.cell? ⟨b, o + j, none⟩ = some (.int .i64 (A j)) := fun j hj => by
    rw [← hw2, World.cell?_setCells_out b _ _ _ _ (fun _ _ => Or.inl (by show o + j < o + 10; omega))]
    exact hN1 j (by omega)
  have hO : NumsAt w2 b o 10 A := hold
  obtain ⟨a0, a1, a2, a3, a4, a5, a6, a7, a8, a9⟩ := nums10 hO (k := 0) (by omega)
  simp only [Nat.zero_mul, Nat.add_zero, Nat.zero_add] at a0 a1 a2 a3 a4 a5 a6 a7 a8 a9
  have hF2 : Free w2 b := fun j => by rw [← hw2, World.frozen?_setCells]; exact hF1 j
  have f0 := hF2 o
  have f1 := hF2 (o + 1)
  have f2 := hF2 (o + 1 + 1)
  have f3 := hF2 (o + 1 + 1 + 1)
  have f4 := hF2 (o + 1 + 1 + 1 + 1)
  have f5 := hF2 (o + 1 + 1 + 1 + 1 + 1)
  have f6 := hF2 (o + 1 + 1 + 1 + 1 + 1 + 1)
  have f7 := hF2 (o + 1 + 1 + 1 + 1 + 1 + 1 + 1)
  have f8 := hF2 (o + 1 + 1 + 1 + 1 + 1 + 1 + 1 + 1)
  have f9 := hF2 (o + 1 + 1 + 1 + 1 + 1 + 1 + 1 + 1 + 1)
  clear hw2 hX hO
  go_enter Tryz.func52, Tryz.ntmps52
  go_wp2
  go_region
  go_wp2
  go_region
  all_goals
    go_wp2
    go_end0
  all_goals exact ⟨rfl, pushed_of (D := tenL R) (numList_to A 70) (numList_ten R) ((Turned.refl _ w).alloc _).drew (fun j => World.cell?_of_block (Below.heap_alloc w _ b hlt)) hN1 hF1 HW.out⟩

end Go.Proofs.YtdblmheoghhepaaGreatDoor
