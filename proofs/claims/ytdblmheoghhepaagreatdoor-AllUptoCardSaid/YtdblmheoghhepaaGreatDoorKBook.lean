/- The book of holds: its two maps; 'Made', 'at'. -/
import Derived.Test.YtdblmheoghhepaaGreatDoorKMaps
import Derived.Test.YtdblmheoghhepaaGreatDoorKBase
import Derived.BigQuiet
namespace Go.Proofs.YtdblmheoghhepaaGreatDoor
open Go.RowKit

/-- The open holds by their numbers; the others. -/
def openOf (H : List (Nat → Int)) (k : Int) : Option (Nat → Int) := if 1 ≤ k then (match H[(k - 1).toNat]? with | some h => if h 7 = 1 then some h else none | none => none) else none
def closedOf (H : List (Nat → Int)) (k : Int) : Option (Nat → Int) := if 1 ≤ k then (match H[(k - 1).toNat]? with | some h => if h 7 = 1 then none else some h | none => none) else none

/-- The book at bk, with its maps mo and mc, tells the holds H. -/
structure BookAt (w : World) (bk mo mc : Nat) (H : List (Nat → Int)) : Prop where
  c0 : w.cell? ⟨bk, 0, none⟩ = some (.map (some mo))
  c1 : w.cell? ⟨bk, 1, none⟩ = some (.map (some mc))
  ne : mo ≠ mc
  maps : ∃ no nc, MapIs w mo (openOf H) no ∧ MapIs w mc (closedOf H) nc ∧ no + nc = H.length
  len : H.length ≤ 60

theorem BookAt.bk_lt {w : World} {bk mo mc : Nat} {H : List (Nat → Int)} (h : BookAt w bk mo mc H) : bk < w.heap.size := World.block_lt_of_cell? w ⟨bk, 0, none⟩ h.c0
theorem BookAt.mo_lt {w : World} {bk mo mc : Nat} {H : List (Nat → Int)} (h : BookAt w bk mo mc H) : mo < w.heap.size := by
  obtain ⟨no, nc, h1, _⟩ := h.maps
  exact h1.lt
theorem BookAt.mc_lt {w : World} {bk mo mc : Nat} {H : List (Nat → Int)} (h : BookAt w bk mo mc H) : mc < w.heap.size := by
  obtain ⟨no, nc, _, h1, _⟩ := h.maps
  exact h1.lt
theorem BookAt.same {w w' : World} {bk mo mc : Nat} {H : List (Nat → Int)} (h : BookAt w bk mo mc H) (e1 : w'.heap[bk]? = w.heap[bk]?) (e2 : w'.heap[mo]? = w.heap[mo]?) (e3 : w'.heap[mc]? = w.heap[mc]?) : BookAt w' bk mo mc H := by
  obtain ⟨c0, c1, ne, ⟨no, nc, h1, h2, h3⟩, len⟩ := h
  exact ⟨(World.cell?_of_block (a := ⟨bk, 0, none⟩) e1).trans c0, (World.cell?_of_block (a := ⟨bk, 1, none⟩) e1).trans c1, ne, ⟨no, nc, h1.block e2, h2.block e3, h3⟩, len⟩
theorem BookAt.below {w w' : World} {bk mo mc : Nat} {H : List (Nat → Int)} (h : BookAt w bk mo mc H) (hb : Below w.heap.size w w') : BookAt w' bk mo mc H :=
  h.same (hb.block _ h.bk_lt) (hb.block _ h.mo_lt) (hb.block _ h.mc_lt)
theorem BookAt.alloc {w : World} {bk mo mc : Nat} {H : List (Nat → Int)} (h : BookAt w bk mo mc H) (o : Obj) : BookAt (w.alloc o) bk mo mc H := h.below ((Below.refl _ _).alloc (Nat.le_refl _) o)
theorem BookAt.drew {w : World} {bk mo mc : Nat} {H : List (Nat → Int)} (h : BookAt w bk mo mc H) : BookAt w.drew bk mo mc H := h.below (Below.refl _ _).drew

theorem at_open {H : List (Nat → Int)} {k : Int} {h : Nat → Int} (hk : 1 ≤ k) (hh : H[(k - 1).toNat]? = some h) : openOf H k = (if h 7 = 1 then some h else none) ∧ closedOf H k = (if h 7 = 1 then none else some h) := by
  unfold openOf closedOf
  rw [if_pos hk, if_pos hk, hh]
  exact ⟨rfl, rfl⟩

set_option maxRecDepth 100000 in
set_option maxHeartbeats 400000 in
theorem made_any (w : World) {bk mo mc : Nat} {H : List (Nat → Int)} (h : BookAt w bk mo mc H) :
    Calls Tryz.prog 86 #[.pointer (some ⟨bk, 0, none⟩)] w fun e w' => e = .returned (.int .i64 (H.length : Nat)) ∧ Below w.heap.size w w' := by
  obtain ⟨c0, c1, _, ⟨no, nc, h1, h2, h3⟩, len⟩ := h
  have l1 : ∀ n ty, (Builtin.len_ #[98] ty #[.map (some mo)]).run Tryz.prog (w.drewN n) = .ok (.int .i64 (no : Int)) (w.drewN n) := fun n ty => (h1.block (w' := w.drewN n) rfl).len ty
  have l2 : ∀ n ty, (Builtin.len_ #[98] ty #[.map (some mc)]).run Tryz.prog (w.drewN n) = .ok (.int .i64 (nc : Int)) (w.drewN n) := fun n ty => (h2.block (w' := w.drewN n) rfl).len ty
  have H3 : Hid (no + nc = H.length) := h3
  have b1 : no ≤ 60 := by omega
  have b2 : nc ≤ 60 := by omega
  clear h1 h2 h3
  go_enter Tryz.func86, Tryz.ntmps86
  go_wp2
  go_quiet (fail)
  go_wp2
  go_ret
  refine ⟨ret_int ?_, ?_⟩
  · rw [← H3.out]; omega
  · exact below_drewN (Below.refl _ _) _

abbrev zeroB8 : Obj := .cells #[.int .i64 0, .int .i64 0, .int .i64 0, .int .i64 0, .int .i64 0, .int .i64 0, .int .i64 0, .int .i64 0] 57
set_option maxRecDepth 100000 in
set_option maxHeartbeats 400000 in
theorem at_any (w : World) {bk mo mc : Nat} {H : List (Nat → Int)} (hB : BookAt w bk mo mc H) (k : Nat) (h : Nat → Int) (hk : H[k]? = some h) :
    Calls Tryz.prog 105 #[.pointer (some ⟨bk, 0, none⟩), .int .i64 ((k : Int) + 1)] w fun e w' => e = .returned (cmdV h) ∧ Below w.heap.size w w' := by
  have B1 := hB.alloc zeroB8
  have B2 := B1.alloc zeroB8
  have hlen := hB.len
  have hkl : k < H.length := (List.getElem?_eq_some_iff.1 hk).1
  have hkI : I64 ((k : Int) + 1) := by constructor <;> omega
  obtain ⟨a1, a2⟩ := at_open (k := (k : Int) + 1) (by omega) (by simpa using hk)
  have hb2 : ∀ x y, Below w.heap.size w ((w.alloc x).alloc y) := fun x y => ((Below.refl _ _).alloc (Nat.le_refl _) _).alloc (by simp) _
  obtain ⟨c0, c1, _, ⟨no, nc, h1, h2, _⟩, _⟩ := B1
  by_cases e : h 7 = 1
  · rw [if_pos e] at a1
    have l1 := (h1.look_some hkI a1).1
    clear h1 h2 a2 hB B2 e
    go_enter Tryz.func105, Tryz.ntmps105
    go_wp2
    exact bodyPost_ret (v := cmdV h) (by simp [results, Tryz.results105, go_sem]) rfl ⟨rfl, hb2 _ _⟩
  · rw [if_neg e] at a1 a2
    have l1 := (h1.look_none hkI a1).1
    obtain ⟨c0', c1', _, ⟨no', nc', h1', h2', _⟩, _⟩ := B2
    have l2 := (h2'.look_some hkI a2).2
    clear h1 h2 a2 hB h1' h2' e
    go_enter Tryz.func105, Tryz.ntmps105
    go_wp2
    exact bodyPost_ret (v := cmdV h) (by simp [results, Tryz.results105, go_sem]) rfl ⟨rfl, hb2 _ _⟩

end Go.Proofs.YtdblmheoghhepaaGreatDoor
