/- 'part.write' and the document's 'low': a number as bytes, the low one first. -/
import Derived.Test.YtklpbpgjlmpbeaaDoorParts
namespace Go.Proofs.YtklpbpgjlmpbeaaDoor
open Go.RowKit

/-- A number in so many bytes, the low one first. -/
def bytesOf (n : Int) : Nat → List Int
  | 0 => []
  | k + 1 => n % 256 :: bytesOf (n / 256) k
theorem bytesOf_length (n : Int) (k : Nat) : (bytesOf n k).length = k := by
  induction k generalizing n with
  | zero => rfl
  | succ k ih => simp [bytesOf, ih]
theorem bytesOf_snoc (n : Int) (k : Nat) : bytesOf n (k + 1) = bytesOf n k ++ [n / 256 ^ k % 256] := by
  induction k generalizing n with
  | zero => simp [bytesOf]
  | succ k ih =>
    rw [bytesOf, ih, bytesOf, List.cons_append, Int.pow_succ', Int.ediv_ediv_of_nonneg (by omega)]

theorem info5 : (Tryd.prog.info? 5).map (fun i => (i.zero, i.size, i.bytes)) = some (some (.int .u8 0), 1, 1) := by kernel_rfl

theorem own_ge {w : World} {base : Nat} {e : TypeId} {size : Nat} {v : Value} {n : Nat} {xs : List Value} (h : w.ownsRow base e size v n xs) : ∀ k, v.ownBlock = some k → base ≤ k := by
  rintro k hk
  rcases h.2 with ⟨rfl, _⟩ | ⟨g, cap, cur, rfl, hg, _⟩
  · simp [Value.ownBlock] at hk
  · simp [Value.ownBlock] at hk; omega

set_option maxRecDepth 100000 in
set_option maxHeartbeats 400000 in
theorem write_any (p : Part) (v : Value) (xs : List Int) (n : Int) (base : Nat) (w : World) (hB : base ≤ w.heap.size) (h1 : p.width ≤ 4) (hx : xs.length ≤ 100)
    (hn : 0 ≤ n + p.lift) (hn2 : n + p.lift ≤ 4294967295)
    (hown : w.ownsRow base 5 1 v xs.length (xs.map (Value.int .u8))) :
    Calls Tryd.prog 57 #[p.val, v, .int .i64 n] w fun e w' => ∃ v', e = .returned v' ∧ w'.ownsRow base 5 1 v' (xs ++ bytesOf (n + p.lift) p.width).length ((xs ++ bytesOf (n + p.lift) p.width).map (Value.int .u8)) ∧ Below base w w' := by
  obtain ⟨i0, hi, hz0, hz1, hz2⟩ := info_parts info5
  go_enter Tryd.func57, Tryd.ntmps57
  go_wp2
  have hbl := bytesOf_length (n + p.lift)
  go_loopw [1, 7, 14] (fun u r i wr => ∃ k : Nat, k ≤ p.width ∧ i = .int .i64 k ∧ r = .int .i64 ((n + p.lift) / 256 ^ k) ∧ wr.ownsRow base 5 1 u (xs ++ bytesOf (n + p.lift) k).length ((xs ++ bytesOf (n + p.lift) k).map (Value.int .u8)) ∧ Below base w wr) (fun _ _ i _ => p.width - (intOf i).toNat)
  case atStart => exact ⟨0, Nat.zero_le _, rfl, by simp, by simpa [bytesOf] using hown.alloc _, (Below.refl _ _).alloc hB _⟩
  case round =>
    obtain ⟨k, hk, rfl, rfl, hown', hb⟩ := hrel
    by_cases hlt : k < p.width
    · have hbk := hbl k
      have hge := own_ge hown'
      have hsz := hb.size
      go_wp2_with (at_builtin; refine wpList_append_own _ rfl (.tmp 16) (.tmp 19) 92 rfl base 5 i0 (.int .u8 0) 1 1 Tryd.underlying92 hi hz0 hz1 hz2 rfl (by decide) _ _ _ rfl (hown'.alloc _) ⟨wr.heap.size, 0, none⟩ 1 1 [.int .u8 ((n + p.lift) / 256 ^ k % 256)] rfl rfl (cell_one_new _ _ _) (by intro u hu; simp at hu; subst hu; rfl) (by simp [hbk]; unfold maxLen; omega) (by simp [hbk]; omega) (by simp; omega) ?_)
      intro v' w1 hown1 hgrow _
      have R := (hb.alloc (by omega) _).grown hgrow (by simp; omega) hge
      have O : w1.ownsRow base 5 1 v' (xs ++ bytesOf (n + p.lift) (k + 1)).length ((xs ++ bytesOf (n + p.lift) (k + 1)).map (Value.int .u8)) := by
        have e1 : (xs ++ bytesOf (n + p.lift) (k + 1)).length = (xs ++ bytesOf (n + p.lift) k).length + 1 := by simp [hbl]; omega
        have e2 : (xs ++ bytesOf (n + p.lift) (k + 1)).map (Value.int .u8) = (xs ++ bytesOf (n + p.lift) k).map (Value.int .u8) ++ [.int .u8 ((n + p.lift) / 256 ^ k % 256)] := by rw [bytesOf_snoc]; simp
        rw [e1, e2]; simp only [List.length_append, hbl, List.map_append, List.append_assoc]; exact hown1
      clear hown1 hgrow hown' hown hbl
      go_wp2
      go_roundw
      case rel => exact ⟨k + 1, by omega, by go_num, int_eq (by rw [Int.pow_succ, ← Int.ediv_ediv_of_nonneg (Int.pow_nonneg (by omega))]), O, R⟩
      case measure => simp [intOf]; omega
    · have he : k = p.width := by omega
      subst he
      go_wp2
      go_ret
      exact ⟨_, rfl, hown', hb⟩

end Go.Proofs.YtklpbpgjlmpbeaaDoor
