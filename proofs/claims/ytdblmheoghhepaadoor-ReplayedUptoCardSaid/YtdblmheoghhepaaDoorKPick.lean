/- 'pick' and 'command' of the law's package: a right command of a raw one. -/
import Derived.Test.YtdblmheoghhepaaDoorKPureAll
namespace Go.Proofs.YtdblmheoghhepaaDoor
open Go.RowKit
set_option maxRecDepth 100000

def pk (c n : Int) : Int := (if c < 0 then -(c + 1) else c) % n
theorem pk_bd (c n : Int) (hn : 0 < n) : 0 ≤ pk c n ∧ pk c n < n := ⟨Int.emod_nonneg _ (by omega), Int.emod_lt_of_pos _ hn⟩

theorem pick_any (c n : Int) (w : World) (h1 : -9223372036854775808 ≤ c) (h2 : c ≤ 9223372036854775807) (hn : 0 < n) (hn2 : n ≤ 4294967296) :
    Calls Tryd.prog 15 #[.int .i64 c, .int .i64 n] w fun e w' => e = .returned (.int .i64 (pk c n)) ∧ w = w' := by
  by_cases hc : c < 0
  · go_enter Tryd.func15, Tryd.ntmps15
    go_wp2
    go_ret
    refine ⟨ret_int ?_, rfl⟩
    unfold pk
    rw [if_pos hc]
    rw [← Int.neg_tmod]
    exact Int.tmod_eq_emod_of_nonneg (by omega)
  · go_enter Tryd.func15, Tryd.ntmps15
    go_wp2
    go_ret
    refine ⟨ret_int ?_, rfl⟩
    unfold pk
    rw [if_neg (by omega)]

/-- What 'command' makes: a right command. -/
def Made (id : Int) (w : World) (e : Ending) (w' : World) : Prop := ∃ F, e = .returned (cmdV F) ∧ refOk F = true ∧ Below w.heap.size w w' ∧ F 1 = pk id 2147483647
abbrev Bd (f : Nat → Int) : Prop := (-9223372036854775808 ≤ f 0 ∧ f 0 ≤ 9223372036854775807) ∧ (-9223372036854775808 ≤ f 2 ∧ f 2 ≤ 9223372036854775807) ∧ (-9223372036854775808 ≤ f 3 ∧ f 3 ≤ 9223372036854775807) ∧ (-9223372036854775808 ≤ f 4 ∧ f 4 ≤ 9223372036854775807) ∧
  (-9223372036854775808 ≤ f 5 ∧ f 5 ≤ 9223372036854775807) ∧ (-9223372036854775808 ≤ f 6 ∧ f 6 ≤ 9223372036854775807) ∧ (-9223372036854775808 ≤ f 7 ∧ f 7 ≤ 9223372036854775807)

set_option maxRecDepth 100000 in
set_option maxHeartbeats 1000000 in
theorem command1 (f : Nat → Int) (id : Int) (w : World) (hf : Bd f) (hi : -9223372036854775808 ≤ id ∧ id ≤ 9223372036854775807) (hk : pk (f 0) 8 = 0) : Calls Tryd.prog 12 #[cmdV f, .int .i64 id] w (Made id w) := by
  obtain ⟨b0, b2, b3, b4, b5, b6, b7⟩ := hf
  have p1 := pk_bd id 2147483647 (by omega)
  have p2 := pk_bd (f 2) 4 (by omega)
  have p5 := pk_bd (f 5) 1000000 (by omega)
  go_enter Tryd.func12, Tryd.ntmps12
  go_wp2_with (go_at_call 15; refine (pick_any _ _ _ (by omega) (by omega) (by omega) (by omega)).mono ?_; rintro e w' ⟨rfl, rfl⟩)
  refine bodyPost_ret (v := cmdV (mkF 1 (pk id 2147483647) (pk (f 2) 4) 0 0 (1 + pk (f 5) 1000000) 0 0)) (by simp [results, Tryd.results12, go_sem, mkF]) rfl ⟨_, rfl, ?_, ?_, rfl⟩
  · simp [refOk, mkF, fitsB, needG, needC, needD, needQ, needH, needT]
    omega
  · exact (((Below.refl _ _).alloc (Nat.le_refl _) _).alloc (by simp) _).alloc (by simp; omega) _

set_option maxRecDepth 100000 in
set_option maxHeartbeats 1000000 in
theorem command2 (f : Nat → Int) (id : Int) (w : World) (hf : Bd f) (hi : -9223372036854775808 ≤ id ∧ id ≤ 9223372036854775807) (hk : pk (f 0) 8 = 1) : Calls Tryd.prog 12 #[cmdV f, .int .i64 id] w (Made id w) := by
  obtain ⟨b0, b2, b3, b4, b5, b6, b7⟩ := hf
  have p1 := pk_bd id 2147483647 (by omega)
  have p2 := pk_bd (f 2) 4 (by omega)
  have p4 := pk_bd (f 4) 16 (by omega)
  have p5 := pk_bd (f 5) 1000000 (by omega)
  go_enter Tryd.func12, Tryd.ntmps12
  go_wp2_with (go_at_call 15; refine (pick_any _ _ _ (by omega) (by omega) (by omega) (by omega)).mono ?_; rintro e w' ⟨rfl, rfl⟩)
  refine bodyPost_ret (v := cmdV (mkF 2 (pk id 2147483647) (pk (f 2) 4) 0 (pk (f 4) 16) (1 + pk (f 5) 1000000) 0 0)) (by simp [results, Tryd.results12, go_sem, mkF]) rfl ⟨_, rfl, ?_, ?_, rfl⟩
  · simp [refOk, mkF, fitsB, needG, needC, needD, needQ, needH, needT]
    omega
  · exact (((Below.refl _ _).alloc (Nat.le_refl _) _).alloc (by simp) _).alloc (by simp; omega) _

set_option maxRecDepth 100000 in
set_option maxHeartbeats 1000000 in
theorem command3 (f : Nat → Int) (id : Int) (w : World) (hf : Bd f) (hi : -9223372036854775808 ≤ id ∧ id ≤ 9223372036854775807) (hk : pk (f 0) 8 = 2) : Calls Tryd.prog 12 #[cmdV f, .int .i64 id] w (Made id w) := by
  obtain ⟨b0, b2, b3, b4, b5, b6, b7⟩ := hf
  have p1 := pk_bd id 2147483647 (by omega)
  have p2 := pk_bd (f 2) 4 (by omega)
  have p3 := pk_bd (f 3) 3 (by omega)
  have p5 := pk_bd (f 5) 1000000 (by omega)
  go_enter Tryd.func12, Tryd.ntmps12
  go_wp2_with (go_at_call 15; refine (pick_any _ _ _ (by omega) (by omega) (by omega) (by omega)).mono ?_; rintro e w' ⟨rfl, rfl⟩)
  refine bodyPost_ret (v := cmdV (mkF 3 (pk id 2147483647) (pk (f 2) 4) (pk (f 3) 3) 0 (1 + pk (f 5) 1000000) 0 0)) (by simp [results, Tryd.results12, go_sem, mkF]) rfl ⟨_, rfl, ?_, ?_, rfl⟩
  · simp [refOk, mkF, fitsB, needG, needC, needD, needQ, needH, needT]
    omega
  · exact (((Below.refl _ _).alloc (Nat.le_refl _) _).alloc (by simp) _).alloc (by simp; omega) _

set_option maxRecDepth 100000 in
set_option maxHeartbeats 1000000 in
theorem command4 (f : Nat → Int) (id : Int) (w : World) (hf : Bd f) (hi : -9223372036854775808 ≤ id ∧ id ≤ 9223372036854775807) (hk : pk (f 0) 8 = 3) : Calls Tryd.prog 12 #[cmdV f, .int .i64 id] w (Made id w) := by
  obtain ⟨b0, b2, b3, b4, b5, b6, b7⟩ := hf
  have p1 := pk_bd id 2147483647 (by omega)
  have p2 := pk_bd (f 2) 4 (by omega)
  have p3 := pk_bd (f 3) 3 (by omega)
  have p4 := pk_bd (f 4) 16 (by omega)
  have p5 := pk_bd (f 5) 1000000 (by omega)
  have p7 := pk_bd (f 7) 1000 (by omega)
  go_enter Tryd.func12, Tryd.ntmps12
  go_wp2_with (go_at_call 15; refine (pick_any _ _ _ (by omega) (by omega) (by omega) (by omega)).mono ?_; rintro e w' ⟨rfl, rfl⟩)
  refine bodyPost_ret (v := cmdV (mkF 4 (pk id 2147483647) (pk (f 2) 4) (pk (f 3) 3) (pk (f 4) 16) (1 + pk (f 5) 1000000) 0 (1 + pk (f 7) 1000))) (by simp [results, Tryd.results12, go_sem, mkF]) rfl ⟨_, rfl, ?_, ?_, rfl⟩
  · simp [refOk, mkF, fitsB, needG, needC, needD, needQ, needH, needT]
    omega
  · exact (((Below.refl _ _).alloc (Nat.le_refl _) _).alloc (by simp) _).alloc (by simp; omega) _

set_option maxRecDepth 100000 in
set_option maxHeartbeats 1000000 in
theorem command5 (f : Nat → Int) (id : Int) (w : World) (hf : Bd f) (hi : -9223372036854775808 ≤ id ∧ id ≤ 9223372036854775807) (hk : pk (f 0) 8 = 4) : Calls Tryd.prog 12 #[cmdV f, .int .i64 id] w (Made id w) := by
  obtain ⟨b0, b2, b3, b4, b5, b6, b7⟩ := hf
  have p1 := pk_bd id 2147483647 (by omega)
  have p6 := pk_bd (f 6) 60 (by omega)
  go_enter Tryd.func12, Tryd.ntmps12
  go_wp2_with (go_at_call 15; refine (pick_any _ _ _ (by omega) (by omega) (by omega) (by omega)).mono ?_; rintro e w' ⟨rfl, rfl⟩)
  refine bodyPost_ret (v := cmdV (mkF 5 (pk id 2147483647) 0 0 0 0 (1 + pk (f 6) 60) 0)) (by simp [results, Tryd.results12, go_sem, mkF]) rfl ⟨_, rfl, ?_, ?_, rfl⟩
  · simp [refOk, mkF, fitsB, needG, needC, needD, needQ, needH, needT]
    omega
  · exact (((Below.refl _ _).alloc (Nat.le_refl _) _).alloc (by simp) _).alloc (by simp; omega) _

set_option maxRecDepth 100000 in
set_option maxHeartbeats 1000000 in
theorem command6 (f : Nat → Int) (id : Int) (w : World) (hf : Bd f) (hi : -9223372036854775808 ≤ id ∧ id ≤ 9223372036854775807) (hk : pk (f 0) 8 = 5) : Calls Tryd.prog 12 #[cmdV f, .int .i64 id] w (Made id w) := by
  obtain ⟨b0, b2, b3, b4, b5, b6, b7⟩ := hf
  have p1 := pk_bd id 2147483647 (by omega)
  have p6 := pk_bd (f 6) 60 (by omega)
  go_enter Tryd.func12, Tryd.ntmps12
  go_wp2_with (go_at_call 15; refine (pick_any _ _ _ (by omega) (by omega) (by omega) (by omega)).mono ?_; rintro e w' ⟨rfl, rfl⟩)
  refine bodyPost_ret (v := cmdV (mkF 6 (pk id 2147483647) 0 0 0 0 (1 + pk (f 6) 60) 0)) (by simp [results, Tryd.results12, go_sem, mkF]) rfl ⟨_, rfl, ?_, ?_, rfl⟩
  · simp [refOk, mkF, fitsB, needG, needC, needD, needQ, needH, needT]
    omega
  · exact (((Below.refl _ _).alloc (Nat.le_refl _) _).alloc (by simp) _).alloc (by simp; omega) _

set_option maxRecDepth 100000 in
set_option maxHeartbeats 1000000 in
theorem command7n (f : Nat → Int) (id : Int) (w : World) (hf : Bd f) (hi : -9223372036854775808 ≤ id ∧ id ≤ 9223372036854775807) (hk : pk (f 0) 8 = 6) (h5 : f 5 < 0) : Calls Tryd.prog 12 #[cmdV f, .int .i64 id] w (Made id w) := by
  obtain ⟨b0, b2, b3, b4, b5, b6, b7⟩ := hf
  have p1 := pk_bd id 2147483647 (by omega)
  have p2 := pk_bd (f 2) 4 (by omega)
  have p5 := pk_bd (f 5) 1000000 (by omega)
  go_enter Tryd.func12, Tryd.ntmps12
  go_wp2_with (go_at_call 15; refine (pick_any _ _ _ (by omega) (by omega) (by omega) (by omega)).mono ?_; rintro e w' ⟨rfl, rfl⟩)
  refine bodyPost_ret (v := cmdV (mkF 7 (pk id 2147483647) (pk (f 2) 4) 0 0 (-(1 + pk (f 5) 1000000)) 0 0)) (by simp [results, Tryd.results12, go_sem, mkF]) rfl ⟨_, rfl, ?_, ?_, rfl⟩
  · simp [refOk, mkF, fitsB, needG, needC, needD, needQ, needH, needT]
    omega
  · exact (((Below.refl _ _).alloc (Nat.le_refl _) _).alloc (by simp) _).alloc (by simp; omega) _

set_option maxRecDepth 100000 in
set_option maxHeartbeats 1000000 in
theorem command7p (f : Nat → Int) (id : Int) (w : World) (hf : Bd f) (hi : -9223372036854775808 ≤ id ∧ id ≤ 9223372036854775807) (hk : pk (f 0) 8 = 6) (h5 : 0 ≤ f 5) : Calls Tryd.prog 12 #[cmdV f, .int .i64 id] w (Made id w) := by
  obtain ⟨b0, b2, b3, b4, b5, b6, b7⟩ := hf
  have p1 := pk_bd id 2147483647 (by omega)
  have p2 := pk_bd (f 2) 4 (by omega)
  have p5 := pk_bd (f 5) 1000000 (by omega)
  go_enter Tryd.func12, Tryd.ntmps12
  go_wp2_with (go_at_call 15; refine (pick_any _ _ _ (by omega) (by omega) (by omega) (by omega)).mono ?_; rintro e w' ⟨rfl, rfl⟩)
  refine bodyPost_ret (v := cmdV (mkF 7 (pk id 2147483647) (pk (f 2) 4) 0 0 (1 + pk (f 5) 1000000) 0 0)) (by simp [results, Tryd.results12, go_sem, mkF]) rfl ⟨_, rfl, ?_, ?_, rfl⟩
  · simp [refOk, mkF, fitsB, needG, needC, needD, needQ, needH, needT]
    omega
  · exact (((Below.refl _ _).alloc (Nat.le_refl _) _).alloc (by simp) _).alloc (by simp; omega) _

set_option maxRecDepth 100000 in
set_option maxHeartbeats 1000000 in
theorem command8 (f : Nat → Int) (id : Int) (w : World) (hf : Bd f) (hi : -9223372036854775808 ≤ id ∧ id ≤ 9223372036854775807) (hk : pk (f 0) 8 = 7) : Calls Tryd.prog 12 #[cmdV f, .int .i64 id] w (Made id w) := by
  obtain ⟨b0, b2, b3, b4, b5, b6, b7⟩ := hf
  have p1 := pk_bd id 2147483647 (by omega)
  have p7 := pk_bd (f 7) 1000 (by omega)
  go_enter Tryd.func12, Tryd.ntmps12
  go_wp2_with (go_at_call 15; refine (pick_any _ _ _ (by omega) (by omega) (by omega) (by omega)).mono ?_; rintro e w' ⟨rfl, rfl⟩)
  refine bodyPost_ret (v := cmdV (mkF 8 (pk id 2147483647) 0 0 0 0 0 (1 + pk (f 7) 1000))) (by simp [results, Tryd.results12, go_sem, mkF]) rfl ⟨_, rfl, ?_, ?_, rfl⟩
  · simp [refOk, mkF, fitsB, needG, needC, needD, needQ, needH, needT]
    omega
  · exact (((Below.refl _ _).alloc (Nat.le_refl _) _).alloc (by simp) _).alloc (by simp; omega) _

/-- 'command' makes a right command, whatever comes in. -/
theorem command_any (f : Nat → Int) (id : Int) (w : World) (hf : Bd f) (hi : -9223372036854775808 ≤ id ∧ id ≤ 9223372036854775807) : Calls Tryd.prog 12 #[cmdV f, .int .i64 id] w (Made id w) := by
  have h := pk_bd (f 0) 8 (by omega)
  have hk : pk (f 0) 8 = 0 ∨ pk (f 0) 8 = 1 ∨ pk (f 0) 8 = 2 ∨ pk (f 0) 8 = 3 ∨ pk (f 0) 8 = 4 ∨ pk (f 0) 8 = 5 ∨ pk (f 0) 8 = 6 ∨ pk (f 0) 8 = 7 := by omega
  rcases hk with hk | hk | hk | hk | hk | hk | hk | hk
  · exact command1 f id w hf hi hk
  · exact command2 f id w hf hi hk
  · exact command3 f id w hf hi hk
  · exact command4 f id w hf hi hk
  · exact command5 f id w hf hi hk
  · exact command6 f id w hf hi hk
  · by_cases h5 : f 5 < 0
    · exact command7n f id w hf hi hk h5
    · exact command7p f id w hf hi hk (by omega)
  · exact command8 f id w hf hi hk

end Go.Proofs.YtdblmheoghhepaaDoor
