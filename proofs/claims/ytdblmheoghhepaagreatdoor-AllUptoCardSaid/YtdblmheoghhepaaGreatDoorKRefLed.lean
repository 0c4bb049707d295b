/- The document's ledger in memory. -/
import Derived.Test.YtdblmheoghhepaaGreatDoorKRefPure
import Derived.Test.YtdblmheoghhepaaGreatDoorKAsk
import Derived.BigRegion
namespace Go.Proofs.YtdblmheoghhepaaGreatDoor
open Go.RowKit

/-- Where the document's ledger lies: its block, its holds, its last commands. -/
structure RAdr where
  q : Nat
  hv : Value
  dv : Value
/-- Its blocks. -/
def RAdr.foot (r : RAdr) (k : Nat) : Prop := k = r.q ∨ r.hv.ownBlock = some k ∨ r.dv.ownBlock = some k

structure RAt (w : World) (r : RAdr) (now : Int) (P : Nat → Int) (H D : List (Nat → Int)) (J : List Int) : Prop where
  c0 : w.cell? ⟨r.q, 0, none⟩ = some (.int .i64 now)
  nums : NumsAt w r.q 1 80 P
  ch : w.cell? ⟨r.q, 81, none⟩ = some r.hv
  cd : w.cell? ⟨r.q, 82, none⟩ = some r.dv
  cj : w.cell? ⟨r.q, 83, none⟩ = some (.string (strOfNums J))
  free : Free w r.q
  hrow : w.ownsRow 0 57 8 r.hv H.length (H.flatMap hc)
  drow : w.ownsRow 0 110 10 r.dv D.length (D.flatMap tenL)
  hap : ∀ k, r.hv.ownBlock = some k → k ≠ r.q ∧ r.dv.ownBlock ≠ some k
  dap : ∀ k, r.dv.ownBlock = some k → k ≠ r.q

theorem own_blt {w : World} {base : Nat} {e : TypeId} {size : Nat} {v : Value} {n : Nat} {xs : List Value} (h : w.ownsRow base e size v n xs) {k : Nat} (hk : v.ownBlock = some k) : k < w.heap.size := by
  rcases h.2 with ⟨e, _⟩ | ⟨g, cap, cur, e, hg, hh, _⟩
  · rw [e] at hk; cases hk
  · rw [e] at hk
    simp [Value.ownBlock] at hk
    subst hk
    exact (Array.getElem?_eq_some_iff.1 hh).1
theorem own_slice {w : World} {base : Nat} {e : TypeId} {size : Nat} {v : Value} {n : Nat} {xs : List Value} (h : w.ownsRow base e size v n xs) : ∃ x c, v = .slice x n c := by
  rcases h.2 with ⟨e, e2⟩ | ⟨g, cap, cur, e, _⟩
  · exact ⟨none, 0, by rw [e, e2]⟩
  · exact ⟨_, _, e⟩

section
variable {w w' : World} {r : RAdr} {now : Int} {P : Nat → Int} {H D : List (Nat → Int)} {J : List Int}
theorem RAt.q_lt (h : RAt w r now P H D J) : r.q < w.heap.size := World.block_lt_of_cell? w ⟨r.q, 0, none⟩ h.c0
theorem RAt.foot_lt (h : RAt w r now P H D J) {k : Nat} (hk : r.foot k) : k < w.heap.size := by
  rcases hk with rfl | hk | hk
  · exact h.q_lt
  · exact own_blt h.hrow hk
  · exact own_blt h.drow hk
theorem RAt.same (h : RAt w r now P H D J) (e : ∀ k, r.foot k → w'.heap[k]? = w.heap[k]?) : RAt w' r now P H D J := by
  have ea := e r.q (Or.inl rfl)
  exact ⟨(World.cell?_of_block (a := ⟨r.q, 0, none⟩) ea).trans h.c0, h.nums.same ea, (World.cell?_of_block (a := ⟨r.q, 81, none⟩) ea).trans h.ch, (World.cell?_of_block (a := ⟨r.q, 82, none⟩) ea).trans h.cd, (World.cell?_of_block (a := ⟨r.q, 83, none⟩) ea).trans h.cj,
    fun j => (World.frozen?_of_block (a := ⟨r.q, j, none⟩) ea).trans (h.free j), own_same h.hrow (fun k hk => e k (Or.inr (Or.inl hk))), own_same h.drow (fun k hk => e k (Or.inr (Or.inr hk))), h.hap, h.dap⟩
theorem RAt.below (h : RAt w r now P H D J) (hb : Below w.heap.size w w') : RAt w' r now P H D J := h.same fun k hk => hb.block k (h.foot_lt hk)
theorem RAt.congr {P' : Nat → Int} (h : RAt w r now P H D J) (hP : ∀ k, k < 80 → P k = P' k) : RAt w r now P' H D J :=
  ⟨h.c0, fun k hk => by rw [← hP k hk]; exact h.nums k hk, h.ch, h.cd, h.cj, h.free, h.hrow, h.drow, h.hap, h.dap⟩
theorem RAt.setN (h : RAt w r now P H D J) {i : Nat} (hi : i < 80) (x : Int) : RAt (w.setCell ⟨r.q, 1 + i, none⟩ (.int .i64 x)) r now (updG P i x) H D J := by
  refine ⟨?_, nums_upd h.nums hi x, ?_, ?_, ?_, fun j => by rw [World.frozen?_setCell]; exact h.free j, own_same h.hrow (fun k hk => Below.heap_setCell _ _ _ _ (h.hap k hk).1), own_same h.drow (fun k hk => Below.heap_setCell _ _ _ _ (h.dap k hk)), h.hap, h.dap⟩
  · rw [World.cell?_setCell_other _ _ _ _ (off_ne (by omega))]; exact h.c0
  · rw [World.cell?_setCell_other _ _ _ _ (off_ne (by omega))]; exact h.ch
  · rw [World.cell?_setCell_other _ _ _ _ (off_ne (by omega))]; exact h.cd
  · rw [World.cell?_setCell_other _ _ _ _ (off_ne (by omega))]; exact h.cj
theorem RAt.setNow (h : RAt w r now P H D J) (x : Int) : RAt (w.setCell ⟨r.q, 0, none⟩ (.int .i64 x)) r x P H D J := by
  refine ⟨World.cell?_setCell_same _ _ _ h.c0, nums_other h.nums (by omega) _, ?_, ?_, ?_, fun j => by rw [World.frozen?_setCell]; exact h.free j, own_same h.hrow (fun k hk => Below.heap_setCell _ _ _ _ (h.hap k hk).1), own_same h.drow (fun k hk => Below.heap_setCell _ _ _ _ (h.dap k hk)), h.hap, h.dap⟩
  · rw [World.cell?_setCell_other _ _ _ _ (off_ne (by omega))]; exact h.ch
  · rw [World.cell?_setCell_other _ _ _ _ (off_ne (by omega))]; exact h.cd
  · rw [World.cell?_setCell_other _ _ _ _ (off_ne (by omega))]; exact h.cj
theorem RAt.setJ (h : RAt w r now P H D J) (J' : List Int) : RAt (w.setCell ⟨r.q, 83, none⟩ (.string (strOfNums J'))) r now P H D J' := by
  refine ⟨?_, nums_other h.nums (by omega) _, ?_, ?_, World.cell?_setCell_same _ _ _ h.cj, fun j => by rw [World.frozen?_setCell]; exact h.free j, own_same h.hrow (fun k hk => Below.heap_setCell _ _ _ _ (h.hap k hk).1), own_same h.drow (fun k hk => Below.heap_setCell _ _ _ _ (h.dap k hk)), h.hap, h.dap⟩
  · rw [World.cell?_setCell_other _ _ _ _ (off_ne (by omega))]; exact h.c0
  · rw [World.cell?_setCell_other _ _ _ _ (off_ne (by omega))]; exact h.ch
  · rw [World.cell?_setCell_other _ _ _ _ (off_ne (by omega))]; exact h.cd
/-- The row of the holds, if there are some. -/
theorem RAt.row (h : RAt w r now P H D J) (hn : 0 < H.length) : ∃ g cap, r.hv = .slice (some ⟨g, 0, none⟩) H.length cap ∧ HoldsAt w g H ∧ g < w.heap.size ∧ g ≠ r.q ∧ Free w g := by
  rcases h.hrow.2 with ⟨_, e2⟩ | ⟨g, cap, cur, e, _, hh, _⟩
  · omega
  · have hr := h.hrow
    rw [e] at hr
    have hg := own_lt hr
    exact ⟨g, cap, e, holdsAt_of_own hr hg, hg, (h.hap g (by rw [e]; rfl)).1, fun j => by simp [World.frozen?, hh]⟩
end

end Go.Proofs.YtdblmheoghhepaaGreatDoor
