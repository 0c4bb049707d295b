/- 'widthOf': the sum of the parts' widths. -/
import Derived.Test.YtklpbpgjlmpbeaaDoorParts
namespace Go.Proofs.YtklpbpgjlmpbeaaDoor
open Go.RowKit

/-- Block g holds the parts L, five cells each. -/
def PartsAt (w : World) (g : Nat) (L : List Part) : Prop :=
  g < w.heap.size ∧ ∀ k p, L[k]? = some p → w.cell? ⟨g, k * 5, none⟩ = some (.int .u16 p.need) ∧ w.cell? ⟨g, k * 5 + 1, none⟩ = some (.int .i64 p.low) ∧ w.cell? ⟨g, k * 5 + 1 + 1, none⟩ = some (.int .i64 p.high) ∧
    w.cell? ⟨g, k * 5 + 1 + 1 + 1, none⟩ = some (.int .i64 (p.width : Int)) ∧ w.cell? ⟨g, k * 5 + 1 + 1 + 1 + 1, none⟩ = some (.int .i64 p.lift)

theorem PartsAt.below {w w' : World} {g : Nat} {L : List Part} (h : PartsAt w g L) (hb : Below w.heap.size w w') : PartsAt w' g L := by
  obtain ⟨h1, h2⟩ := h
  have hc := (bcell hb).1
  refine ⟨Nat.lt_of_lt_of_le h1 hb.size, fun k p hk => ?_⟩
  obtain ⟨a, b, c, d, e⟩ := h2 k p hk
  exact ⟨by rw [hc _ _ h1, a], by rw [hc _ _ h1, b], by rw [hc _ _ h1, c], by rw [hc _ _ h1, d], by rw [hc _ _ h1, e]⟩

theorem PartsAt.belowB {B : Nat} {w w' : World} {g : Nat} {L : List Part} (h : PartsAt w g L) (hb : Below B w w') (hg : g < B) : PartsAt w' g L := by
  obtain ⟨h1, h2⟩ := h
  have hc : ∀ o, w'.cell? ⟨g, o, none⟩ = w.cell? ⟨g, o, none⟩ := fun o => hb.cell (p := ⟨g, o, none⟩) hg
  refine ⟨Nat.lt_of_lt_of_le h1 hb.size, fun k p hk => ?_⟩
  obtain ⟨a, b, c, d, e⟩ := h2 k p hk
  exact ⟨by rw [hc, a], by rw [hc, b], by rw [hc, c], by rw [hc, d], by rw [hc, e]⟩

def wsum (L : List Part) : Nat := (L.map (·.width)).sum
theorem wsum_snoc (L : List Part) (p : Part) : wsum (L ++ [p]) = wsum L + p.width := by simp [wsum]
theorem wsum_le (L : List Part) (h : ∀ p ∈ L, p.width ≤ 4) : wsum L ≤ 4 * L.length := by
  induction L with
  | nil => simp [wsum]
  | cons a t ih =>
    have h1 := h a (by simp)
    have h2 := ih fun p hp => h p (by simp [hp])
    simp [wsum] at *
    omega

set_option maxRecDepth 100000 in
set_option maxHeartbeats 400000 in
theorem sum_any (L : List Part) (g : Nat) (w : World) (hL : L.length ≤ 9) (hw : ∀ p ∈ L, p.width ≤ 4) (hp : PartsAt w g L) :
    Calls Tryd.prog 85 #[.slice (some ⟨g, 0, none⟩) L.length 9, .func (.func 86) #[] #[]] w fun e w' => e = .returned (.int .i64 (wsum L : Nat)) ∧ Below w.heap.size w w' := by
  go_enter Tryd.func85, Tryd.ntmps85
  go_wp2
  go_loopw [5, 10] (fun s i wr => ∃ k : Nat, k ≤ L.length ∧ i = .int .i64 k ∧ s = .int .i64 (wsum (L.take k) : Nat) ∧ Below w.heap.size w wr) (fun _ i _ => L.length - (intOf i).toNat)
  case atStart => exact ⟨0, Nat.zero_le _, rfl, rfl, Below.refl _ _⟩
  case round =>
    obtain ⟨k, hk, rfl, rfl, hb⟩ := hrel
    have hle := wsum_le (L.take k) (fun p hp => hw p (List.mem_of_mem_take hp))
    have hlen : (L.take k).length ≤ k := List.length_take_le _ _
    by_cases hlt : k < L.length
    · obtain ⟨p, hpk⟩ : ∃ p, L[k]? = some p := ⟨L[k], by simp [hlt]⟩
      have hwp := hw p (List.mem_of_getElem? hpk)
      obtain ⟨c0, c1, c2, c3, c4⟩ := (hp.belowB hb hp.1).2 k p hpk
      have hs : Hid (wsum (L.take (k + 1)) = wsum (L.take k) + p.width) := by
        show _ = _
        rw [List.take_add_one, hpk]; exact wsum_snoc _ _
      clear hpk hp hw
      go_wp2_with (go_at_call 86; refine (width_any p _).mono ?_; rintro e w' ⟨rfl, hb'⟩)
      have hsz := hb.size
      go_roundw
      case rel => exact ⟨k + 1, by omega, by go_num, by rw [hs.out]; go_num, (hb.alloc hsz _).trans (hb'.mono (by simp; omega))⟩
      case measure => simp [intOf]; omega
    · have he : k = L.length := by omega
      subst he
      go_wp2
      go_ret
      exact ⟨by simp, hb⟩

set_option maxRecDepth 100000 in
set_option maxHeartbeats 400000 in
theorem widthOf_any (L : List Part) (g : Nat) (w : World) (hL : L.length ≤ 9) (hw : ∀ p ∈ L, p.width ≤ 4) (hp : PartsAt w g L) :
    Calls Tryd.prog 56 #[.slice (some ⟨g, 0, none⟩) L.length 9] w fun e w' => e = .returned (.int .i64 (wsum L : Nat)) ∧ Below w.heap.size w w' := by
  go_enter Tryd.func56, Tryd.ntmps56
  go_wp2_with (go_at_call 85; refine (sum_any L g _ hL hw hp).mono ?_; rintro e w' ⟨rfl, hb'⟩)
  go_ret
  exact ⟨rfl, hb'⟩

end Go.Proofs.YtklpbpgjlmpbeaaDoor
