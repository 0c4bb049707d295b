/- The document's 'low', 'needs', 'fits'. -/
import Derived.Test.YtklpbpgjlmpbeaaDoorWrite
namespace Go.Proofs.YtklpbpgjlmpbeaaDoor
open Go.RowKit

theorem own_string {w : World} {base : Nat} {v : Value} {zs : List Int} (h : w.ownsRow base 5 1 v zs.length (zs.map (Value.int .u8))) : (convert 92 9 v).run Tryd.prog w = .ok (.string (strOfNums zs)) w := by
  rcases h.2 with ⟨rfl, h0⟩ | ⟨g, cap, cur, rfl, _, _⟩
  · have hz : zs = [] := List.eq_nil_of_length_eq_zero h0
    subst hz
    exact run_convert_bytes_nil w 92 5 Tryd.underlying92 Tryd.underlying5 0 0 9 Tryd.underlying9
  · refine run_convert_bytes_arg w 92 5 Tryd.underlying92 Tryd.underlying5 g 0 zs.length cap zs rfl (fun i hi => ?_) 9 Tryd.underlying9
    have := h.cellAt i (by omega)
    rw [Nat.zero_add, this]
    simp [hi]

set_option maxRecDepth 100000 in
set_option maxHeartbeats 400000 in
theorem low_no (n : Int) (m : Nat) (w : World) :
    Calls Tryd.prog 53 #[.bool false, .int .i64 n, .int .i64 (m : Int)] w fun e w' => e = .returned (.string (strOfNums [])) ∧ Below w.heap.size w w' := by
  go_enter Tryd.func53, Tryd.ntmps53
  go_wp2
  refine wp_loop_rounds 1 ?_
  rw [rounds_succ]
  have hcv := fun (w : World) => own_string (zs := []) (World.ownsRow_nil w 0 5 1)
  go_wp2
  all_goals go_ret
  all_goals exact ⟨rfl, Below.refl _ _⟩

set_option maxRecDepth 100000 in
set_option maxHeartbeats 400000 in
theorem low_yes (n : Int) (m : Nat) (w : World) (h0 : 0 ≤ n) (h1 : n ≤ 4294967296) (hm : m ≤ 4) :
    Calls Tryd.prog 53 #[.bool true, .int .i64 n, .int .i64 (m : Int)] w fun e w' => e = .returned (.string (strOfNums (bytesOf n m))) ∧ Below w.heap.size w w' := by
  obtain ⟨i0, hi, hz0, hz1, hz2⟩ := info_parts info5
  have hbl := bytesOf_length n
  go_enter Tryd.func53, Tryd.ntmps53
  go_wp2
  go_loopw [1, 7, 8] (fun r u i wr => ∃ k : Nat, k ≤ m ∧ i = .int .i64 k ∧ r = .int .i64 (n / 256 ^ k) ∧ wr.ownsRow w.heap.size 5 1 u (bytesOf n k).length ((bytesOf n k).map (Value.int .u8)) ∧ Below w.heap.size w wr) (fun _ _ i _ => m - (intOf i).toNat)
  case atStart => exact ⟨0, Nat.zero_le _, rfl, by simp, World.ownsRow_nil _ _ _ _, Below.refl _ _⟩
  case round =>
    obtain ⟨k, hk, rfl, rfl, hown', hb⟩ := hrel
    have hbk := hbl k
    have hge := own_ge hown'
    have hsz := hb.size
    have q0 : 0 ≤ n / 256 ^ k := Int.ediv_nonneg h0 (Int.pow_nonneg (by omega))
    have q1 : n / 256 ^ k ≤ n := Int.ediv_le_self _ h0
    by_cases hlt : k < m
    · go_wp2_with (at_builtin; refine wpList_append_own _ rfl (.tmp 17) (.tmp 21) 92 rfl w.heap.size 5 i0 (.int .u8 0) 1 1 Tryd.underlying92 hi hz0 hz1 hz2 rfl (by decide) _ _ _ rfl (hown'.alloc _) ⟨wr.heap.size, 0, none⟩ 1 1 [.int .u8 (n / 256 ^ k % 256)] rfl rfl (cell_one_new _ _ _) (by intro u hu; simp at hu; subst hu; rfl) (by simp [hbk]; unfold maxLen; omega) (by simp [hbk]; omega) (by simp; omega) ?_)
      intro v' w1 hown1 hgrow _
      have R := (hb.alloc hsz _).grown hgrow (by simp; omega) hge
      have O : w1.ownsRow w.heap.size 5 1 v' (bytesOf n (k + 1)).length ((bytesOf n (k + 1)).map (Value.int .u8)) := by
        rw [bytesOf_snoc]
        simp only [List.length_append, hbl, List.map_append]; exact hown1
      clear hown1 hgrow hown' hbl
      go_wp2
      go_roundw
      case rel => exact ⟨k + 1, by omega, by go_num, int_eq (by rw [Int.pow_succ, ← Int.ediv_ediv_of_nonneg (Int.pow_nonneg (by omega))]), O, R⟩
      case measure => simp [intOf]; omega
    · have he : k = m := by omega
      subst he
      have hcv := own_string hown'
      go_wp2
      go_ret
      exact ⟨rfl, hb⟩

/-- What a kind needs: good, channel, day, quantity, hold, ticks. -/
def needG (k : Int) : Bool := decide (k = 1 ∨ k = 2 ∨ k = 3 ∨ k = 4 ∨ k = 7)
def needC (k : Int) : Bool := decide (k = 3 ∨ k = 4)
def needD (k : Int) : Bool := decide (k = 2 ∨ k = 4)
def needQ (k : Int) : Bool := decide (k = 1 ∨ k = 2 ∨ k = 3 ∨ k = 4 ∨ k = 7)
def needH (k : Int) : Bool := decide (k = 5 ∨ k = 6)
def needT (k : Int) : Bool := !(decide (k = 1 ∨ k = 2 ∨ k = 3 ∨ k = 5 ∨ k = 6 ∨ k = 7))

set_option maxRecDepth 100000 in
set_option maxHeartbeats 400000 in
theorem refNeeds_any (k : Int) (w : World) :
    Calls Tryd.prog 51 #[.int .i64 k] w fun e w' => e = .returned (.tuple #[.bool (needG k), .bool (needC k), .bool (needD k), .bool (needQ k), .bool (needH k), .bool (needT k)]) ∧ w = w' := by
  go_enter Tryd.func51, Tryd.ntmps51
  go_wp2
  all_goals refine bodyPost_ret (v := .tuple #[.bool (needG k), .bool (needC k), .bool (needD k), .bool (needQ k), .bool (needH k), .bool (needT k)]) ?_ rfl ⟨rfl, rfl⟩
  all_goals (simp only [beq_iff_eq, beq_eq_false_iff_ne, ne_eq] at *; subst_vars; simp [results, Tryd.results51, go_sem, needG, needC, needD, needQ, needH, needT, *])

def fitsB (b : Bool) (n lo hi : Int) : Bool := if b then decide (lo ≤ n) && decide (n ≤ hi) else n == 0
set_option maxRecDepth 100000 in
set_option maxHeartbeats 400000 in
theorem fits_any (b : Bool) (n lo hi : Int) (w : World) :
    Calls Tryd.prog 52 #[.bool b, .int .i64 n, .int .i64 lo, .int .i64 hi] w fun e w' => e = .returned (.bool (fitsB b n lo hi)) ∧ w = w' := by
  cases b
  · go_enter Tryd.func52, Tryd.ntmps52
    go_wp2
    go_ret
    exact ⟨ret_bool (by simp [fitsB]), rfl⟩
  · go_enter Tryd.func52, Tryd.ntmps52
    go_wp2
    all_goals go_ret
    all_goals refine ⟨ret_bool ?_, rfl⟩
    all_goals (simp [fitsB]; omega)

end Go.Proofs.YtklpbpgjlmpbeaaDoor
