/- 'New'. -/
import Derived.Test.YtdblmheoghhepaaGreatDoorKLedgerAll
namespace Go.Proofs.YtdblmheoghhepaaGreatDoor
open Go.RowKit

set_option maxRecDepth 100000 in
set_option maxHeartbeats 1000000 in
theorem bookNew_any (w : World) : Calls Tryz.prog 19 #[] w fun e w' => e = .returned (.pointer (some ⟨w.heap.size + 2, 0, none⟩)) ∧ BookAt w' (w.heap.size + 2) w.heap.size (w.heap.size + 1) [] ∧ Below w.heap.size w w' ∧ w'.heap.size = w.heap.size + 3 := by
  have hmm := @run_makeMap Tryz.prog
  go_enter Tryz.func19, Tryz.ntmps19
  go_wp2
  go_ret
  refine ⟨rfl, ?_, (((Below.refl _ _).alloc (Nat.le_refl _) _).alloc (by simp) _).alloc (by simp; omega) _, by simp⟩
  have m1 : MapIs (((w.alloc (.map #[] 0)).alloc (.map #[] 0)).alloc (.cells #[.map (some w.heap.size), .map (some (w.heap.size + 1))] 100)) w.heap.size (openOf []) 0 := by
    refine (((MapIs.made w).kept (World.grownBy_alloc _ _ none) (by simp)).kept (World.grownBy_alloc _ _ none) (by simp)).congr (fun k _ => ?_)
    simp [openOf]
  have m2 : MapIs (((w.alloc (.map #[] 0)).alloc (.map #[] 0)).alloc (.cells #[.map (some w.heap.size), .map (some (w.heap.size + 1))] 100)) (w.heap.size + 1) (closedOf []) 0 := by
    have := (MapIs.made (w.alloc (.map #[] 0))).kept (World.grownBy_alloc _ (.cells #[.map (some w.heap.size), .map (some (w.heap.size + 1))] 100) none) (by simp)
    simp only [World.size_alloc] at this
    exact this.congr (fun k _ => by simp [closedOf])
  refine ⟨?_, ?_, by omega, ⟨0, 0, m1, m2, rfl⟩, by simp⟩
  · have := World.cell?_alloc_new ((w.alloc (.map #[] 0)).alloc (.map #[] 0)) #[.map (some w.heap.size), .map (some (w.heap.size + 1))] 100 0
    simpa using this
  · have := World.cell?_alloc_new ((w.alloc (.map #[] 0)).alloc (.map #[] 0)) #[.map (some w.heap.size), .map (some (w.heap.size + 1))] 100 1
    simpa using this

/-- A ledger on which nothing was done. -/
def S0 : Led := ⟨0, fun _ => 0, [], fun _ => 0, []⟩

theorem zc_low : Tryz.zeroCells73.toList.take 81 = List.replicate 81 (.int .i64 0) := by kernel_rfl
theorem zc_mid : (Tryz.zeroCells73.toList.drop 82).take 80 = List.replicate 80 (.int .i64 0) := by kernel_rfl
theorem zc_end : Tryz.zeroCells73.toList[162]? = some (.slice none 0 0) := by kernel_rfl
theorem zc_len : Tryz.zeroCells73.size = 163 := by kernel_rfl
theorem zc_at (i : Nat) (hi : i < 81 ∨ (82 ≤ i ∧ i < 162)) : Tryz.zeroCells73[i]? = some (.int .i64 0) := by
  rw [← Array.getElem?_toList]
  rcases hi with h | ⟨h1, h2⟩
  · have : (Tryz.zeroCells73.toList.take 81)[i]? = some (.int .i64 0) := by rw [zc_low, List.getElem?_replicate]; simp [h]
    rwa [List.getElem?_take_of_lt h] at this
  · have : ((Tryz.zeroCells73.toList.drop 82).take 80)[i - 82]? = some (.int .i64 0) := by rw [zc_mid, List.getElem?_replicate]; simp; omega
    rw [List.getElem?_take_of_lt (by omega), List.getElem?_drop] at this
    rwa [show 82 + (i - 82) = i by omega] at this
theorem zcs_at (v : Value) (i : Nat) (hi : i < 81 ∨ (82 ≤ i ∧ i < 162)) : (Tryz.zeroCells73.setIfInBounds 81 v)[i]? = some (.int .i64 0) := by
  rw [Array.getElem?_setIfInBounds_ne (by omega)]
  exact zc_at i hi

set_option maxRecDepth 100000 in
set_option maxHeartbeats 2000000 in
theorem new_any (w : World) : Calls Tryz.prog 10 #[] w fun e w' => ∃ p : Adr, e = .returned (.pointer (some ⟨p.a, 0, none⟩)) ∧ LedAt w' p S0 ∧ (∀ k, p.foot k → w.heap.size ≤ k) ∧ Below w.heap.size w w' := by
  go_enter Tryz.func10, Tryz.ntmps10
  go_wp2_with fail
  refine (bookNew_any w).mono ?_
  rintro e w1 ⟨rfl, hB, hb1, hs1⟩
  go_wp2
  go_ret
  refine ⟨⟨w.heap.size + 3, w.heap.size + 2, w.heap.size, w.heap.size + 1, .slice none 0 0⟩, rfl, ?_, ?_, hb1.alloc (by omega) _⟩
  · have cell : ∀ i, (w1.alloc (.cells (Tryz.zeroCells73.setIfInBounds 81 (.pointer (some ⟨w.heap.size + 2, 0, none⟩))) 73)).cell? ⟨w.heap.size + 3, i, none⟩ = (Tryz.zeroCells73.setIfInBounds 81 (.pointer (some ⟨w.heap.size + 2, 0, none⟩)))[i]? := fun i => by
      have := World.cell?_alloc_new w1 (Tryz.zeroCells73.setIfInBounds 81 (.pointer (some ⟨w.heap.size + 2, 0, none⟩))) 73 i
      rwa [hs1] at this
    refine ⟨?_, fun k hk => ?_, ?_, fun k hk => ?_, ?_, fun j => ?_, ?_, World.ownsRow_nil _ 0 5 1, fun k hk => by cases hk⟩
    · rw [cell, zcs_at _ 0 (by omega)]; rfl
    · rw [cell, zcs_at _ (1 + k) (by omega)]; rfl
    · rw [cell, Array.getElem?_setIfInBounds_self_of_lt (by rw [zc_len]; omega)]
    · rw [cell, zcs_at _ (82 + k) (by omega)]; rfl
    · rw [cell, Array.getElem?_setIfInBounds_ne (by omega), ← Array.getElem?_toList, zc_end]
    · have := free_new w1 (Tryz.zeroCells73.setIfInBounds 81 (.pointer (some ⟨w.heap.size + 2, 0, none⟩))) 73 j
      rwa [hs1] at this
    · exact hB.alloc _
  · rintro k (e | e | e | e | e)
    · have : k = w.heap.size + 3 := e
      omega
    · have : k = w.heap.size + 2 := e
      omega
    · have : k = w.heap.size := e
      omega
    · have : k = w.heap.size + 1 := e
      omega
    · cases e

end Go.Proofs.YtdblmheoghhepaaGreatDoor
