/- 'part.read' and the document's 'cut': a number off the front of some bytes. -/
import Derived.Test.YtdblmheoghhepaaGreatDoorKBase
import Derived.Deep.QuietTactic
import Derived.BigQuiet
import Derived.Deep.RegionHeld3
namespace Go.Proofs.YtdblmheoghhepaaGreatDoor
open Go.RowKit

/-- The number that some bytes tell, the low one first. -/
def num : List UInt8 → Int
  | [] => 0
  | b :: t => (b.toNat : Int) + 256 * num t
theorem num_bd (l : List UInt8) : 0 ≤ num l ∧ num l < (256 : Int) ^ l.length := by
  induction l with
  | nil => simp [num]
  | cons b t ih =>
    have := b.toNat_lt
    simp only [num, List.length_cons, Int.pow_succ]
    omega

/-- Of the bytes from place k on (up to the n-th). -/
def numFrom (s : ByteArray) (k n : Nat) : Int := num ((s.data.toList.drop k).take (n - k))
theorem numFrom_step (s : ByteArray) (k n : Nat) (hk : k < n) (hn : n ≤ s.size) : numFrom s k n = ((s[k]'(by omega)).toNat : Int) + 256 * numFrom s (k + 1) n := by
  unfold numFrom
  have h : k < s.data.toList.length := by simpa using (by omega : k < s.size)
  rw [List.drop_eq_getElem_cons h]
  obtain ⟨m, hm⟩ : ∃ m, n - k = m + 1 := ⟨n - k - 1, by omega⟩
  rw [hm, show n - (k + 1) = m from by omega, List.take_succ_cons]
  rfl
theorem numFrom_end (s : ByteArray) (n : Nat) : numFrom s n n = 0 := by simp [numFrom, num]
theorem numFrom_bd (s : ByteArray) (k n : Nat) (hn : n ≤ k + 4) : 0 ≤ numFrom s k n ∧ numFrom s k n < 4294967296 := by
  have h := num_bd ((s.data.toList.drop k).take (n - k))
  have hl : ((s.data.toList.drop k).take (n - k)).length ≤ 4 := by
    have := List.length_take_le (n - k) (s.data.toList.drop k); omega
  unfold numFrom
  generalize ((s.data.toList.drop k).take (n - k)).length = m at *
  have hm : m = 0 ∨ m = 1 ∨ m = 2 ∨ m = 3 ∨ m = 4 := by omega
  rcases hm with rfl | rfl | rfl | rfl | rfl <;> omega

theorem numFrom_cut (s : ByteArray) (n : Nat) : numFrom (s.extract 0 n) 0 (s.extract 0 n).size = numFrom s 0 n := by
  unfold numFrom
  rw [List.drop_zero, List.drop_zero, Nat.sub_zero, Nat.sub_zero]
  have e : (s.extract 0 n).data.toList = s.data.toList.take n := by
    simp [ByteArray.data_extract, Array.toList_extract, List.extract_eq_take_drop]
  have e2 : (s.extract 0 n).size = (s.data.toList.take n).length := by rw [← e]; simp
  rw [e, e2, List.take_length]

set_option maxRecDepth 100000 in
set_option maxHeartbeats 400000 in
theorem lowFirst_any (s : ByteArray) (w : World) (h2 : s.size ≤ 4) :
    Calls Tryz.prog 106 #[.string s] w fun e w' => e = .returned (.int .i64 (numFrom s 0 s.size)) ∧ w = w' := by
  go_enter Tryz.func106, Tryz.ntmps106
  go_wp2
  go_loop [3, 4] (fun n i => ∃ k : Nat, k ≤ s.size ∧ i = .int .i64 ((k : Int) - 1) ∧ n = .int .i64 (numFrom s k s.size)) (fun _ i => (intOf i + 1).toNat)
  case atStart => exact ⟨s.size, by omega, by go_num, by rw [numFrom_end]⟩
  case round =>
    obtain ⟨k, hk, rfl, rfl⟩ := hrel
    have hbd := numFrom_bd s k s.size (by omega)
    by_cases hlt : 0 < k
    · obtain ⟨j, rfl⟩ : ∃ j, k = j + 1 := ⟨k - 1, by omega⟩
      have hst : Hid (numFrom s j s.size = ((s[j]'(by omega)).toNat : Int) + 256 * numFrom s (j + 1) s.size) := numFrom_step s j s.size (by omega) (Nat.le_refl _)
      have hj : j < s.size := by omega
      go_wp2
      go_roundw
      case rel => exact ⟨j, by omega, rfl, int_eq (by rw [hst.out]; have hx := (s[j]'hj).toNat_lt; rw [w64 ((s[j]'hj).toNat : Int) (by omega), w64 _ (by omega)]; omega)⟩
      case measure => simp [intOf]
    · have he : k = 0 := by omega
      subst he
      go_wp2
      go_ret
      exact ⟨rfl, rfl⟩

set_option maxRecDepth 100000 in
set_option maxHeartbeats 400000 in
theorem read_any (p : Part) (s : ByteArray) (w : World) (_hs : s.size ≤ maxLen) (h1 : p.width ≤ 4) (h2 : p.width ≤ s.size) (h3 : 0 ≤ p.lift) (h4 : p.lift ≤ 4294967296) :
    Calls Tryz.prog 94 #[p.val, .string s] w fun e w' => e = .returned (.int .i64 (numFrom s 0 p.width - p.lift)) ∧ Below w.heap.size w w' := by
  have hx : (s.extract 0 p.width).size ≤ 4 := by simp [ByteArray.size_extract]; omega
  have hbd := numFrom_bd s 0 p.width (by omega)
  have HC : Hid (numFrom (s.extract 0 p.width) 0 (s.extract 0 p.width).size = numFrom s 0 p.width) := numFrom_cut s p.width
  go_enter Tryz.func94, Tryz.ntmps94
  go_wp2
  go_region_held3 (fun w' => w'.cell? ⟨w.heap.size, 3, none⟩ = some (.int .i64 (p.width : Int)) ∧ w'.cell? ⟨w.heap.size, 4, none⟩ = some (.int .i64 p.lift)) (first | (go_keep; done) | (simp; done)) (first | (go_at_call 106; refine (lowFirst_any (s.extract 0 p.width) _ hx).mono ?_; rw [HC.out]; rintro e wa ⟨rfl, rfl⟩))
  go_wp2
  go_ret
  exact ⟨ret_int (by rw [IntKind.wrap_i64]; omega), ((Below.refl _ _).alloc (Nat.le_refl _) _).drew⟩

/-- The document's 'cut': not needed, or too short. -/
theorem cut_no (b : Bool) (s : ByteArray) (n : Nat) (w : World) (h : b = false ∨ s.size < n) :
    Calls Tryz.prog 73 #[.bool b, .string s, .int .i64 (n : Int)] w fun e w' => e = .returned (.tuple #[.int .i64 0, .string s]) ∧ ∃ n, w' = w.drewN n := by
  cases b with
  | false =>
    go_enter Tryz.func73, Tryz.ntmps73
    go_wp2
    go_ret2
    exact ⟨rfl, 0, rfl⟩
  | true =>
    have h2 : s.size < n := by rcases h with h | h; cases h; exact h
    go_enter Tryz.func73, Tryz.ntmps73
    go_wp2
    go_ret2
    exact ⟨rfl, 0, rfl⟩

set_option maxRecDepth 100000 in
set_option maxHeartbeats 400000 in
/-- .. needed and there. -/
theorem cut_yes (s : ByteArray) (n : Nat) (w : World) (hs : s.size ≤ maxLen) (h1 : n ≤ 4) (h2 : n ≤ s.size) :
    Calls Tryz.prog 73 #[.bool true, .string s, .int .i64 (n : Int)] w fun e w' => e = .returned (.tuple #[.int .i64 (numFrom s 0 n), .string (s.extract n s.size)]) ∧ ∃ n, w' = w.drewN n := by
  unfold maxLen at hs
  go_enter Tryz.func73, Tryz.ntmps73
  go_wp2
  go_loop [8, 9] (fun v i => ∃ k : Nat, k ≤ n ∧ i = .int .i64 ((k : Int) - 1) ∧ v = .int .i64 (numFrom s k n)) (fun _ i => (intOf i + 1).toNat)
  case atStart => exact ⟨n, by omega, rfl, by rw [numFrom_end]⟩
  case round =>
    obtain ⟨k, hk, rfl, rfl⟩ := hrel
    have hbd := numFrom_bd s k n (by omega)
    by_cases hlt : 0 < k
    · obtain ⟨j, rfl⟩ : ∃ j, k = j + 1 := ⟨k - 1, by omega⟩
      have hst : Hid (numFrom s j n = ((s[j]'(by omega)).toNat : Int) + 256 * numFrom s (j + 1) n) := numFrom_step s j n (by omega) h2
      have hj : j < s.size := by omega
      go_wp2
      go_roundw
      case rel => exact ⟨j, by omega, rfl, int_eq (by rw [hst.out]; have hx := (s[j]'hj).toNat_lt; rw [w64 ((s[j]'hj).toNat : Int) (by omega), w64 _ (by omega)]; omega)⟩
      case measure => simp [intOf]
    · have he : k = 0 := by omega
      subst he
      go_wp2
      go_quiet (fail)
      go_wp2
      go_ret2
      exact ⟨rfl, _, rfl⟩

/-- What 'cut' cuts off, and what it leaves. -/
def cutB (b : Bool) (s : ByteArray) (n : Nat) : Bool := b && decide (n ≤ s.size)
def cutN (b : Bool) (s : ByteArray) (n : Nat) : Int := if cutB b s n then numFrom s 0 n else 0
def cutS (b : Bool) (s : ByteArray) (n : Nat) : ByteArray := if cutB b s n then s.extract n s.size else s
theorem cutS_size (b : Bool) (s : ByteArray) (n : Nat) : (cutS b s n).size ≤ s.size := by
  unfold cutS; split
  · simp [ByteArray.size_extract]
  · exact Nat.le_refl _
theorem cut_any (b : Bool) (s : ByteArray) (n : Nat) (w : World) (hs : s.size ≤ maxLen) (h1 : n ≤ 4) :
    Calls Tryz.prog 73 #[.bool b, .string s, .int .i64 (n : Int)] w fun e w' => e = .returned (.tuple #[.int .i64 (cutN b s n), .string (cutS b s n)]) ∧ ∃ n, w' = w.drewN n := by
  cases hb : cutB b s n with
  | true =>
    simp only [cutN, cutS, hb, if_pos]
    simp only [cutB, Bool.and_eq_true, decide_eq_true_eq] at hb
    rw [hb.1]
    exact cut_yes s n w hs h1 hb.2
  | false =>
    have e1 : cutN b s n = 0 := by simp [cutN, hb]
    have e2 : cutS b s n = s := by simp [cutS, hb]
    rw [e1, e2]
    refine cut_no b s n w ?_
    cases b
    · exact Or.inl rfl
    · right; simpa [cutB] using hb
theorem cut1 (b : Bool) (s : ByteArray) (w : World) (hs : s.size ≤ maxLen) :
    Calls Tryz.prog 73 #[.bool b, .string s, .int .i64 1] w fun e w' => e = .returned (.tuple #[.int .i64 (cutN b s 1), .string (cutS b s 1)]) ∧ ∃ n, w' = w.drewN n := cut_any b s 1 w hs (by omega)
theorem cut2 (b : Bool) (s : ByteArray) (w : World) (hs : s.size ≤ maxLen) :
    Calls Tryz.prog 73 #[.bool b, .string s, .int .i64 2] w fun e w' => e = .returned (.tuple #[.int .i64 (cutN b s 2), .string (cutS b s 2)]) ∧ ∃ n, w' = w.drewN n := cut_any b s 2 w hs (by omega)
theorem cut4 (b : Bool) (s : ByteArray) (w : World) (hs : s.size ≤ maxLen) :
    Calls Tryz.prog 73 #[.bool b, .string s, .int .i64 4] w fun e w' => e = .returned (.tuple #[.int .i64 (cutN b s 4), .string (cutS b s 4)]) ∧ ∃ n, w' = w.drewN n := cut_any b s 4 w hs (by omega)

end Go.Proofs.YtdblmheoghhepaaGreatDoor
