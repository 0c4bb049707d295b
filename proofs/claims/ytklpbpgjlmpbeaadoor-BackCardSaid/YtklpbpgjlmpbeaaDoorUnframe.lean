/- 'Unframe' of package command. -/
import Derived.Test.YtklpbpgjlmpbeaaDoorReadAll
namespace Go.Proofs.YtklpbpgjlmpbeaaDoor
open Go.RowKit

theorem table_ok : ∀ p ∈ table, p.width ≤ 4 ∧ 0 ≤ p.lift ∧ p.lift ≤ 4294967296 := by
  intro p hp
  simp [table] at hp
  rcases hp with rfl | rfl | rfl | rfl | rfl | rfl | rfl | rfl | rfl <;> simp
theorem partsL_ok (k : Int) : ∀ p ∈ partsL k, p.width ≤ 4 ∧ 0 ≤ p.lift ∧ p.lift ≤ 4294967296 := fun p hp => table_ok p (List.mem_filter.1 hp).1

abbrev none3 : Value := .tuple #[cmdV fun _ => 0, .int .i64 0, .int .i64 8]

theorem unframe_short (s : ByteArray) (w : World) (h : s.size < 2) :
    Calls Tryd.prog 35 #[.string s] w fun e w' => e = .returned none3 ∧ Below w.heap.size w w' := by
  go_enter Tryd.func35, Tryd.ntmps35
  go_wp2
  refine bodyPost_ret (v := none3) (by simp [results, Tryd.results35, go_sem]) rfl ⟨rfl, ?_⟩
  exact (Below.refl _ _).alloc (Nat.le_refl _) _

/-- Up to the test on the length. -/
theorem zero_new (w : World) {B : Nat} {w1 : World} (hb : Below B (w.alloc (.cells (cmdC fun _ => 0) 23)) w1) (hB : w.heap.size < B) : CmdAt w1 w.heap.size (fun _ => 0) ∧ Free w1 w.heap.size :=
  ⟨(CmdAt.new w _ 23).below hb hB, (free_new w _ 23).below hb hB⟩

set_option maxRecDepth 100000 in
set_option maxHeartbeats 1000000 in
theorem unframe_wrong (s : ByteArray) (w : World) (hT : TabW w) (hs : s.size ≤ maxLen) (h : 2 ≤ s.size) (L : List Part) (hL : partsL ((s[1]'(by omega)).toNat : Int) = L)
    (hm : (((s[0]'(by omega)).toNat : Int) != ((wsum L : Nat) : Int)) = true ∨ ((((s[0]'(by omega)).toNat : Int) != ((wsum L : Nat) : Int)) = false ∧ s.size < 1 + wsum L)) :
    Calls Tryd.prog 35 #[.string s] w fun e w' => e = .returned none3 ∧ Below w.heap.size w w' := by
  unfold maxLen at hs
  have hk1 : wrap64 (((s[1]'(by omega)).toNat : Nat) : Int) = (((s[1]'(by omega)).toNat : Nat) : Int) := w64 _ (by have := (s[1]'(by omega)).toNat_lt; omega)
  have hk0 : wrap64 (((s[0]'(by omega)).toNat : Nat) : Int) = (((s[0]'(by omega)).toNat : Nat) : Int) := w64 _ (by have := (s[0]'(by omega)).toNat_lt; omega)
  have hl9 := partsL_len ((s[1]'(by omega)).toNat : Int)
  have hok := partsL_ok ((s[1]'(by omega)).toNat : Int)
  rw [hL] at hl9 hok
  have hw := wsum_le L fun p hp => (hok p hp).1
  have HL : Hid (partsL ((s[1]'(by omega)).toNat : Int) = L) := hL
  clear hL
  rcases hm with hm | ⟨hm, hlen⟩
  all_goals
    go_enter Tryd.func35, Tryd.ntmps35
    go_wp2_with fail
    refine (partsOf_any _ _ (hT.alloc _)).mono ?_
    rw [HL.out]
    rintro e w1 ⟨rfl, hp1, hb1⟩
    simp only [World.size_alloc] at hp1 hb1 ⊢
    go_wp2_with fail
    refine (widthOf_any L _ _ hl9 (fun p hp => (hok p hp).1) hp1).mono ?_
    rintro e w2 ⟨rfl, hb2⟩
    have hz2 := hp1.1
    have hb12 := hb1.trans (hb2.mono (by omega))
    obtain ⟨hZ, hF⟩ := zero_new w hb12 (by omega)
    obtain ⟨c0, c1, c2, c3, c4, c5, c6, c7⟩ := hZ.all
    have f0 := hF 0
    have f1 := hF 1
    have f2 := hF 2
    have f3 := hF 3
    have f4 := hF 4
    have f5 := hF 5
    have f6 := hF 6
    have f7 := hF 7
    have hB : Below w.heap.size w w2 := ((Below.refl _ _).alloc (Nat.le_refl _) _).trans (hb12.mono (by omega))
    clear hZ hF hp1 hb1 hb2 hb12 hT hok
    go_wp2
    refine bodyPost_ret (v := none3) (by simp [results, Tryd.results35, go_sem, *]) rfl ⟨rfl, ?_⟩
    exact below8 hB _ (Nat.le_refl _) _ _ _ _ _ _ _ _

end Go.Proofs.YtklpbpgjlmpbeaaDoor
