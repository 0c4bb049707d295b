/- The document's ledger: 'decides' where a hold ends. -/
import Derived.Test.YtdblmheoghhepaaGreatDoorKRefMove
namespace Go.Proofs.YtdblmheoghhepaaGreatDoor
open Go.RowKit

theorem RAt.setState {w : World} {z g cap : Nat} {dv : Value} {now : Int} {P : Nat → Int} {H D : List (Nat → Int)} {J : List Int} (h : RAt w ⟨z, .slice (some ⟨g, 0, none⟩) H.length cap, dv⟩ now P H D J) {k : Nat} (_ : k < H.length) (s : Int) :
    RAt (w.setCell ⟨g, k * 8 + 7, none⟩ (.int .i64 s)) ⟨z, .slice (some ⟨g, 0, none⟩) H.length cap, dv⟩ now P (closeAt H k s) D J := by
  obtain ⟨hgz, hgd⟩ : g ≠ z ∧ dv.ownBlock ≠ some g := h.hap g rfl
  have eb : (w.setCell ⟨g, k * 8 + 7, none⟩ (.int .i64 s)).heap[z]? = w.heap[z]? := Below.heap_setCell _ _ _ _ hgz.symm
  refine ⟨(World.cell?_of_block (a := ⟨z, 0, none⟩) eb).trans h.c0, h.nums.same eb, (World.cell?_of_block (a := ⟨z, 81, none⟩) eb).trans h.ch, (World.cell?_of_block (a := ⟨z, 82, none⟩) eb).trans h.cd, (World.cell?_of_block (a := ⟨z, 83, none⟩) eb).trans h.cj, fun j => (World.frozen?_of_block (a := ⟨z, j, none⟩) eb).trans (h.free j), ?_, own_same h.drow (fun j hj => Below.heap_setCell _ _ _ _ (fun e => hgd (by have e2 : j = g := e; rw [← e2]; exact hj))), h.hap, h.dap⟩
  have hl : (closeAt H k s).length = H.length := by simp [closeAt]
  rw [hl]
  obtain ⟨h1, h2⟩ := h.hrow
  refine ⟨by rw [flat_len, hl], ?_⟩
  rcases h2 with ⟨e, _⟩ | ⟨g', cap', cur, e, hg, hh, hc1, hc2, hc3, hc4⟩
  · cases e
  · cases e
    refine Or.inr ⟨g, cap, cur.setIfInBounds (k * 8 + 7) (.int .i64 s), rfl, hg, ?_, hc1, hc2, by simpa using hc3, ?_⟩
    · simp only [World.setCell, Array.getElem?_modify, if_true, hh, Option.map_some]
      rfl
    · rw [Array.toList_setIfInBounds]
      exact flat_close H k s cur.toList hc4 (by have e : cur.toList.length = cur.size := Array.length_toList; rw [e, hc3]; exact Nat.mul_le_mul_right 8 hc1)

set_option maxRecDepth 100000 in
set_option maxHeartbeats 4000000 in
theorem rdec5_yes (r : RAdr) (S : Led) (D : List (Nat → Int)) (id : Int) (k : Nat) (x : Nat → Int) (w : World) (h : RLed w r S D) (hl : S.H.length ≤ 60) (hx : S.H[k]? = some x) (h7 : x 7 = 1) :
    Calls Tryz.prog 53 #[.pointer (some ⟨r.q, 0, none⟩), cv 5 id 0 0 0 0 ((k : Int) + 1) 0] w (RDecd w r { S with H := closeAt S.H k 2 } D 0 0) := by
  have hk : k < S.H.length := (List.getElem?_eq_some_iff.1 hx).1
  obtain ⟨g, cap, er, hH, hgl, hgb, hF⟩ := h.row (by omega)
  have hfoot : ∀ k, r.foot k → k < w.heap.size := fun k hk => h.foot_lt hk
  obtain ⟨z, hv, dv⟩ := r
  simp only at er hgb
  subst er
  obtain ⟨now, G, H, A, J⟩ := S
  have HH : Hid (RAt w ⟨z, .slice (some ⟨g, 0, none⟩) H.length cap, dv⟩ now (pofG G) H D J) := h
  replace hk : k < H.length := hk
  replace hl : H.length ≤ 60 := hl
  replace hx : H[k]? = some x := hx
  replace hH : HoldsAt w g H := hH
  have hzl : z < w.heap.size := h.q_lt
  have hch : w.cell? ⟨z, 81, none⟩ = some (.slice (some ⟨g, 0, none⟩) H.length cap) := h.ch
  have c7 : w.cell? ⟨g, k * 8 + 7, none⟩ = some (.int .i64 1) := by
    have := hH.2 k x hx 7 (by omega)
    rwa [h7] at this
  have f7 := hF (k * 8 + 7)
  have G1 : decide ((H.length : Int) < (k : Int) + 1) = false := by simp; omega
  have hkI : (k : Int) < (H.length : Int) := by omega
  have hW : IntKind.i64.wrap ((k : Int) + 1 - 1) = (k : Int) := by rw [w64i _ (by omega)]; omega
  have e1 : (k : Int) + 1 - 1 = (k : Int) := by omega
  have hgb1 : ¬ g = z := hgb
  have hgb2 : ¬ z = g := fun e => hgb e.symm
  show Calls _ _ _ _ (RDecd w ⟨z, .slice (some ⟨g, 0, none⟩) H.length cap, dv⟩ ⟨now, G, closeAt H k 2, A, J⟩ D 0 0)
  simp only
  clear h hH hF hx h7
  have Bw : Below w.heap.size w (((w.alloc (.cells (cc 5 id 0 0 0 0 ((k : Int) + 1) 0) 33)).alloc (.cells #[.int .i64 0, .int .i64 0] 66)).alloc (.cells #[.int .i64 6, .int .i64 0] 66)) := ((((Below.refl _ _).alloc (Nat.le_refl _) _).alloc (by simp) _).alloc (by simp; omega) _)
  have hchW := (Bw.cell (p := ⟨z, 81, none⟩) hzl).trans hch
  have c7W := (Bw.cell (p := ⟨g, k * 8 + 7, none⟩) hgl).trans c7
  have f7W := (Bw.frozen (p := ⟨g, k * 8 + 7, none⟩) hgl).trans f7
  clear Bw
  go_enter Tryz.func53, Tryz.ntmps53
  go_wp2
  go_quiet (fail)
  go_wp2
  go_region
  have hB : Below w.heap.size w ((((w.alloc (.cells (cc 5 id 0 0 0 0 ((k : Int) + 1) 0) 33)).alloc (.cells #[.int .i64 0, .int .i64 0] 66)).alloc (.cells #[.int .i64 6, .int .i64 0] 66)).drewN (nq + 1)) := below_drewN ((((Below.refl _ _).alloc (Nat.le_refl _) _).alloc (by simp) _).alloc (by simp; omega) _) _
  have K2 := (HH.out.below hB).setState hk 2
  have T2 : Turned (RAdr.foot ⟨z, .slice (some ⟨g, 0, none⟩) H.length cap, dv⟩) w (((((w.alloc (.cells (cc 5 id 0 0 0 0 ((k : Int) + 1) 0) 33)).alloc (.cells #[.int .i64 0, .int .i64 0] 66)).alloc (.cells #[.int .i64 6, .int .i64 0] 66)).drewN (nq + 1)).setCell ⟨g, k * 8 + 7, none⟩ (.int .i64 2)) := (Turned.ofBelow hB).setCell (p := ⟨g, k * 8 + 7, none⟩) (Or.inl (Or.inr (Or.inl rfl))) _
  have c7' : (((((w.alloc (.cells (cc 5 id 0 0 0 0 ((k : Int) + 1) 0) 33)).alloc (.cells #[.int .i64 0, .int .i64 0] 66)).alloc (.cells #[.int .i64 6, .int .i64 0] 66)).drewN (nq + 1)).setCell ⟨g, k * 8 + 7, none⟩ (.int .i64 2)).cell? ⟨g, k * 8 + 7, none⟩ = some (.int .i64 2) := World.cell?_setCell_same _ _ _ ((hB.cell (p := ⟨g, k * 8 + 7, none⟩) hgl).trans c7)
  have f7' : (((((w.alloc (.cells (cc 5 id 0 0 0 0 ((k : Int) + 1) 0) 33)).alloc (.cells #[.int .i64 0, .int .i64 0] 66)).alloc (.cells #[.int .i64 6, .int .i64 0] 66)).drewN (nq + 1)).setCell ⟨g, k * 8 + 7, none⟩ (.int .i64 2)).frozen? ⟨g, k * 8 + 7, none⟩ = false := by rw [World.frozen?_setCell]; exact (hB.frozen (p := ⟨g, k * 8 + 7, none⟩) hgl).trans f7
  have hch' : (((((w.alloc (.cells (cc 5 id 0 0 0 0 ((k : Int) + 1) 0) 33)).alloc (.cells #[.int .i64 0, .int .i64 0] 66)).alloc (.cells #[.int .i64 6, .int .i64 0] 66)).drewN (nq + 1)).setCell ⟨g, k * 8 + 7, none⟩ (.int .i64 2)).cell? ⟨z, 81, none⟩ = some (.slice (some ⟨g, 0, none⟩) H.length cap) := K2.ch
  have x0 : (((((w.alloc (.cells (cc 5 id 0 0 0 0 ((k : Int) + 1) 0) 33)).alloc (.cells #[.int .i64 0, .int .i64 0] 66)).alloc (.cells #[.int .i64 6, .int .i64 0] 66)).drewN (nq + 1)).setCell ⟨g, k * 8 + 7, none⟩ (.int .i64 2)).cell? ⟨w.heap.size, 0, none⟩ = some (.int .i64 5) := (World.cell?_setCell_other _ _ _ _ (fun e => by have e2 : g = w.heap.size := congrArg Addr.block e; omega)).trans (by simp [go_sem])
  have x6 : (((((w.alloc (.cells (cc 5 id 0 0 0 0 ((k : Int) + 1) 0) 33)).alloc (.cells #[.int .i64 0, .int .i64 0] 66)).alloc (.cells #[.int .i64 6, .int .i64 0] 66)).drewN (nq + 1)).setCell ⟨g, k * 8 + 7, none⟩ (.int .i64 2)).cell? ⟨w.heap.size, 6, none⟩ = some (.int .i64 ((k : Int) + 1)) := (World.cell?_setCell_other _ _ _ _ (fun e => by have e2 : g = w.heap.size := congrArg Addr.block e; omega)).trans (by simp [go_sem])
  have a0 : (((((w.alloc (.cells (cc 5 id 0 0 0 0 ((k : Int) + 1) 0) 33)).alloc (.cells #[.int .i64 0, .int .i64 0] 66)).alloc (.cells #[.int .i64 6, .int .i64 0] 66)).drewN (nq + 1)).setCell ⟨g, k * 8 + 7, none⟩ (.int .i64 2)).cell? ⟨w.heap.size + 1, 0, none⟩ = some (.int .i64 0) := (World.cell?_setCell_other _ _ _ _ (fun e => by have e2 : g = w.heap.size + 1 := congrArg Addr.block e; omega)).trans (by simp [go_sem])
  have a1 : (((((w.alloc (.cells (cc 5 id 0 0 0 0 ((k : Int) + 1) 0) 33)).alloc (.cells #[.int .i64 0, .int .i64 0] 66)).alloc (.cells #[.int .i64 6, .int .i64 0] 66)).drewN (nq + 1)).setCell ⟨g, k * 8 + 7, none⟩ (.int .i64 2)).cell? ⟨w.heap.size + 1, 1, none⟩ = some (.int .i64 0) := (World.cell?_setCell_other _ _ _ _ (fun e => by have e2 : g = w.heap.size + 1 := congrArg Addr.block e; omega)).trans (by simp [go_sem])
  have b0 : (((((w.alloc (.cells (cc 5 id 0 0 0 0 ((k : Int) + 1) 0) 33)).alloc (.cells #[.int .i64 0, .int .i64 0] 66)).alloc (.cells #[.int .i64 6, .int .i64 0] 66)).drewN (nq + 1)).setCell ⟨g, k * 8 + 7, none⟩ (.int .i64 2)).frozen? ⟨w.heap.size + 1, 0, none⟩ = false := by rw [World.frozen?_setCell]; simp [go_sem]
  have b1 : (((((w.alloc (.cells (cc 5 id 0 0 0 0 ((k : Int) + 1) 0) 33)).alloc (.cells #[.int .i64 0, .int .i64 0] 66)).alloc (.cells #[.int .i64 6, .int .i64 0] 66)).drewN (nq + 1)).setCell ⟨g, k * 8 + 7, none⟩ (.int .i64 2)).frozen? ⟨w.heap.size + 1, 1, none⟩ = false := by rw [World.frozen?_setCell]; simp [go_sem]
  have n0 : ¬ RAdr.foot ⟨z, .slice (some ⟨g, 0, none⟩) H.length cap, dv⟩ (w.heap.size + 1) := fun e => by have := hfoot _ e; omega
  have n1 : ¬ g = w.heap.size + 1 := by omega
  have n2 : ¬ w.heap.size + 1 = g := by omega
  have n3 : ¬ g = w.heap.size := by omega
  have n4 : ¬ w.heap.size = g := by omega
  generalize (((((w.alloc (.cells (cc 5 id 0 0 0 0 ((k : Int) + 1) 0) 33)).alloc (.cells #[.int .i64 0, .int .i64 0] 66)).alloc (.cells #[.int .i64 6, .int .i64 0] 66)).drewN (nq + 1)).setCell ⟨g, k * 8 + 7, none⟩ (.int .i64 2)) = W2 at K2 T2 c7' f7' hch' x0 x6 a0 a1 b0 b1 ⊢
  obtain ⟨K4, T4⟩ := rans_set (r := ⟨z, .slice (some ⟨g, 0, none⟩) H.length cap, dv⟩) (S := ⟨now, G, closeAt H k 2, A, J⟩) (D := D) K2 T2 (w.heap.size + 1) (Nat.le_succ _) n0 (.int .i64 0) (.int .i64 0)
  clear K2 T2 hB c7 f7 hch
  go_wp2
  exact bodyPost_ret (v := ansV 0 0) (by simp [results, Tryz.results53, go_sem, a0, a1]) rfl ⟨_, rfl, K4, T4, fun k hk => Or.inl hk, rfl⟩

set_option maxRecDepth 100000 in
set_option maxHeartbeats 4000000 in
theorem rdec6_yes (r : RAdr) (S : Led) (D : List (Nat → Int)) (id : Int) (k : Nat) (x : Nat → Int) (w : World) (h : RLed w r S D) (hl : S.H.length ≤ 60) (hx : S.H[k]? = some x) (h7 : x 7 = 1) :
    Calls Tryz.prog 53 #[.pointer (some ⟨r.q, 0, none⟩), cv 6 id 0 0 0 0 ((k : Int) + 1) 0] w (RDecd w r { S with H := closeAt S.H k 3 } D 0 0) := by
  have hk : k < S.H.length := (List.getElem?_eq_some_iff.1 hx).1
  obtain ⟨g, cap, er, hH, hgl, hgb, hF⟩ := h.row (by omega)
  have hfoot : ∀ k, r.foot k → k < w.heap.size := fun k hk => h.foot_lt hk
  obtain ⟨z, hv, dv⟩ := r
  simp only at er hgb
  subst er
  obtain ⟨now, G, H, A, J⟩ := S
  have HH : Hid (RAt w ⟨z, .slice (some ⟨g, 0, none⟩) H.length cap, dv⟩ now (pofG G) H D J) := h
  replace hk : k < H.length := hk
  replace hl : H.length ≤ 60 := hl
  replace hx : H[k]? = some x := hx
  replace hH : HoldsAt w g H := hH
  have hzl : z < w.heap.size := h.q_lt
  have hch : w.cell? ⟨z, 81, none⟩ = some (.slice (some ⟨g, 0, none⟩) H.length cap) := h.ch
  have c7 : w.cell? ⟨g, k * 8 + 7, none⟩ = some (.int .i64 1) := by
    have := hH.2 k x hx 7 (by omega)
    rwa [h7] at this
  have f7 := hF (k * 8 + 7)
  have G1 : decide ((H.length : Int) < (k : Int) + 1) = false := by simp; omega
  have hkI : (k : Int) < (H.length : Int) := by omega
  have hW : IntKind.i64.wrap ((k : Int) + 1 - 1) = (k : Int) := by rw [w64i _ (by omega)]; omega
  have e1 : (k : Int) + 1 - 1 = (k : Int) := by omega
  have hgb1 : ¬ g = z := hgb
  have hgb2 : ¬ z = g := fun e => hgb e.symm
  show Calls _ _ _ _ (RDecd w ⟨z, .slice (some ⟨g, 0, none⟩) H.length cap, dv⟩ ⟨now, G, closeAt H k 3, A, J⟩ D 0 0)
  simp only
  clear h hH hF hx h7
  have Bw : Below w.heap.size w (((w.alloc (.cells (cc 6 id 0 0 0 0 ((k : Int) + 1) 0) 33)).alloc (.cells #[.int .i64 0, .int .i64 0] 66)).alloc (.cells #[.int .i64 6, .int .i64 0] 66)) := ((((Below.refl _ _).alloc (Nat.le_refl _) _).alloc (by simp) _).alloc (by simp; omega) _)
  have hchW := (Bw.cell (p := ⟨z, 81, none⟩) hzl).trans hch
  have c7W := (Bw.cell (p := ⟨g, k * 8 + 7, none⟩) hgl).trans c7
  have f7W := (Bw.frozen (p := ⟨g, k * 8 + 7, none⟩) hgl).trans f7
  clear Bw
  go_enter Tryz.func53, Tryz.ntmps53
  go_wp2
  go_quiet (fail)
  go_wp2
  go_region
  have hB : Below w.heap.size w ((((w.alloc (.cells (cc 6 id 0 0 0 0 ((k : Int) + 1) 0) 33)).alloc (.cells #[.int .i64 0, .int .i64 0] 66)).alloc (.cells #[.int .i64 6, .int .i64 0] 66)).drewN (nq + 1)) := below_drewN ((((Below.refl _ _).alloc (Nat.le_refl _) _).alloc (by simp) _).alloc (by simp; omega) _) _
  have K2 := (HH.out.below hB).setState hk 2
  have T2 : Turned (RAdr.foot ⟨z, .slice (some ⟨g, 0, none⟩) H.length cap, dv⟩) w (((((w.alloc (.cells (cc 6 id 0 0 0 0 ((k : Int) + 1) 0) 33)).alloc (.cells #[.int .i64 0, .int .i64 0] 66)).alloc (.cells #[.int .i64 6, .int .i64 0] 66)).drewN (nq + 1)).setCell ⟨g, k * 8 + 7, none⟩ (.int .i64 2)) := (Turned.ofBelow hB).setCell (p := ⟨g, k * 8 + 7, none⟩) (Or.inl (Or.inr (Or.inl rfl))) _
  have c7' : (((((w.alloc (.cells (cc 6 id 0 0 0 0 ((k : Int) + 1) 0) 33)).alloc (.cells #[.int .i64 0, .int .i64 0] 66)).alloc (.cells #[.int .i64 6, .int .i64 0] 66)).drewN (nq + 1)).setCell ⟨g, k * 8 + 7, none⟩ (.int .i64 2)).cell? ⟨g, k * 8 + 7, none⟩ = some (.int .i64 2) := World.cell?_setCell_same _ _ _ ((hB.cell (p := ⟨g, k * 8 + 7, none⟩) hgl).trans c7)
  have f7' : (((((w.alloc (.cells (cc 6 id 0 0 0 0 ((k : Int) + 1) 0) 33)).alloc (.cells #[.int .i64 0, .int .i64 0] 66)).alloc (.cells #[.int .i64 6, .int .i64 0] 66)).drewN (nq + 1)).setCell ⟨g, k * 8 + 7, none⟩ (.int .i64 2)).frozen? ⟨g, k * 8 + 7, none⟩ = false := by rw [World.frozen?_setCell]; exact (hB.frozen (p := ⟨g, k * 8 + 7, none⟩) hgl).trans f7
  have hch' : (((((w.alloc (.cells (cc 6 id 0 0 0 0 ((k : Int) + 1) 0) 33)).alloc (.cells #[.int .i64 0, .int .i64 0] 66)).alloc (.cells #[.int .i64 6, .int .i64 0] 66)).drewN (nq + 1)).setCell ⟨g, k * 8 + 7, none⟩ (.int .i64 2)).cell? ⟨z, 81, none⟩ = some (.slice (some ⟨g, 0, none⟩) H.length cap) := K2.ch
  have x0 : (((((w.alloc (.cells (cc 6 id 0 0 0 0 ((k : Int) + 1) 0) 33)).alloc (.cells #[.int .i64 0, .int .i64 0] 66)).alloc (.cells #[.int .i64 6, .int .i64 0] 66)).drewN (nq + 1)).setCell ⟨g, k * 8 + 7, none⟩ (.int .i64 2)).cell? ⟨w.heap.size, 0, none⟩ = some (.int .i64 6) := (World.cell?_setCell_other _ _ _ _ (fun e => by have e2 : g = w.heap.size := congrArg Addr.block e; omega)).trans (by simp [go_sem])
  have x6 : (((((w.alloc (.cells (cc 6 id 0 0 0 0 ((k : Int) + 1) 0) 33)).alloc (.cells #[.int .i64 0, .int .i64 0] 66)).alloc (.cells #[.int .i64 6, .int .i64 0] 66)).drewN (nq + 1)).setCell ⟨g, k * 8 + 7, none⟩ (.int .i64 2)).cell? ⟨w.heap.size, 6, none⟩ = some (.int .i64 ((k : Int) + 1)) := (World.cell?_setCell_other _ _ _ _ (fun e => by have e2 : g = w.heap.size := congrArg Addr.block e; omega)).trans (by simp [go_sem])
  have a0 : (((((w.alloc (.cells (cc 6 id 0 0 0 0 ((k : Int) + 1) 0) 33)).alloc (.cells #[.int .i64 0, .int .i64 0] 66)).alloc (.cells #[.int .i64 6, .int .i64 0] 66)).drewN (nq + 1)).setCell ⟨g, k * 8 + 7, none⟩ (.int .i64 2)).cell? ⟨w.heap.size + 1, 0, none⟩ = some (.int .i64 0) := (World.cell?_setCell_other _ _ _ _ (fun e => by have e2 : g = w.heap.size + 1 := congrArg Addr.block e; omega)).trans (by simp [go_sem])
  have a1 : (((((w.alloc (.cells (cc 6 id 0 0 0 0 ((k : Int) + 1) 0) 33)).alloc (.cells #[.int .i64 0, .int .i64 0] 66)).alloc (.cells #[.int .i64 6, .int .i64 0] 66)).drewN (nq + 1)).setCell ⟨g, k * 8 + 7, none⟩ (.int .i64 2)).cell? ⟨w.heap.size + 1, 1, none⟩ = some (.int .i64 0) := (World.cell?_setCell_other _ _ _ _ (fun e => by have e2 : g = w.heap.size + 1 := congrArg Addr.block e; omega)).trans (by simp [go_sem])
  have b0 : (((((w.alloc (.cells (cc 6 id 0 0 0 0 ((k : Int) + 1) 0) 33)).alloc (.cells #[.int .i64 0, .int .i64 0] 66)).alloc (.cells #[.int .i64 6, .int .i64 0] 66)).drewN (nq + 1)).setCell ⟨g, k * 8 + 7, none⟩ (.int .i64 2)).frozen? ⟨w.heap.size + 1, 0, none⟩ = false := by rw [World.frozen?_setCell]; simp [go_sem]
  have b1 : (((((w.alloc (.cells (cc 6 id 0 0 0 0 ((k : Int) + 1) 0) 33)).alloc (.cells #[.int .i64 0, .int .i64 0] 66)).alloc (.cells #[.int .i64 6, .int .i64 0] 66)).drewN (nq + 1)).setCell ⟨g, k * 8 + 7, none⟩ (.int .i64 2)).frozen? ⟨w.heap.size + 1, 1, none⟩ = false := by rw [World.frozen?_setCell]; simp [go_sem]
  have n0 : ¬ RAdr.foot ⟨z, .slice (some ⟨g, 0, none⟩) H.length cap, dv⟩ (w.heap.size + 1) := fun e => by have := hfoot _ e; omega
  have n1 : ¬ g = w.heap.size + 1 := by omega
  have n2 : ¬ w.heap.size + 1 = g := by omega
  have n3 : ¬ g = w.heap.size := by omega
  have n4 : ¬ w.heap.size = g := by omega
  generalize (((((w.alloc (.cells (cc 6 id 0 0 0 0 ((k : Int) + 1) 0) 33)).alloc (.cells #[.int .i64 0, .int .i64 0] 66)).alloc (.cells #[.int .i64 6, .int .i64 0] 66)).drewN (nq + 1)).setCell ⟨g, k * 8 + 7, none⟩ (.int .i64 2)) = W2 at K2 T2 c7' f7' hch' x0 x6 a0 a1 b0 b1 ⊢
  have K3 : RAt (W2.drew.setCell ⟨g, k * 8 + 7, none⟩ (.int .i64 3)) ⟨z, .slice (some ⟨g, 0, none⟩) H.length cap, dv⟩ now (pofG G) (closeAt H k 3) D J := by
    have e : (closeAt H k 2).length = H.length := by simp [closeAt]
    have q1 := K2.below (Below.refl _ _).drew
    rw [← e] at q1
    have q2 := q1.setState (k := k) (by rw [e]; exact hk) 3
    rw [e, close_close] at q2
    exact q2
  have T3 : Turned (RAdr.foot ⟨z, .slice (some ⟨g, 0, none⟩) H.length cap, dv⟩) w (W2.drew.setCell ⟨g, k * 8 + 7, none⟩ (.int .i64 3)) := (T2.thenBelow (Below.refl _ _).drew).setCell (p := ⟨g, k * 8 + 7, none⟩) (Or.inl (Or.inr (Or.inl rfl))) _
  obtain ⟨K4, T4⟩ := rans_set (r := ⟨z, .slice (some ⟨g, 0, none⟩) H.length cap, dv⟩) (S := ⟨now, G, closeAt H k 3, A, J⟩) (D := D) K3 T3 (w.heap.size + 1) (Nat.le_succ _) n0 (.int .i64 0) (.int .i64 0)
  clear K2 T2 K3 T3 hB c7 f7 hch
  go_wp2
  go_region
  go_wp2
  exact bodyPost_ret (v := ansV 0 0) (by simp [results, Tryz.results53, go_sem, a0, a1]) rfl ⟨_, rfl, K4, T4, fun k hk => Or.inl hk, rfl⟩

set_option maxRecDepth 100000 in
set_option maxHeartbeats 4000000 in
theorem rdec5_past (r : RAdr) (S : Led) (D : List (Nat → Int)) (id o : Int) (w : World) (h : RLed w r S D) (ho : (S.H.length : Int) < o) :
    Calls Tryz.prog 53 #[.pointer (some ⟨r.q, 0, none⟩), cv 5 id 0 0 0 0 o 0] w (RDecd w r S D 5 0) := by
  obtain ⟨z, hv, dv⟩ := r
  obtain ⟨ha, hcap, hvs⟩ := own_slice h.hrow
  simp only at hvs ⊢
  subst hvs
  have hzl : z < w.heap.size := h.q_lt
  have hch : w.cell? ⟨z, 81, none⟩ = some (.slice ha S.H.length hcap) := h.ch
  have G1 : decide ((S.H.length : Int) < o) = true := by simpa using ho
  have HH := hid h
  clear h
  have Bw : Below w.heap.size w (((w.alloc (.cells (cc 5 id 0 0 0 0 o 0) 33)).alloc (.cells #[.int .i64 0, .int .i64 0] 66)).alloc (.cells #[.int .i64 6, .int .i64 0] 66)) := ((((Below.refl _ _).alloc (Nat.le_refl _) _).alloc (by simp) _).alloc (by simp; omega) _)
  have hchW := (Bw.cell (p := ⟨z, 81, none⟩) hzl).trans hch
  clear Bw
  go_enter Tryz.func53, Tryz.ntmps53
  go_wp2
  go_quiet (fail)
  go_wp2
  exact bodyPost_ret (v := ansV 5 0) (by simp [results, Tryz.results53, go_sem]) rfl ⟨_, rfl, HH.out.below (by first | exact below_drewN ((((Below.refl _ _).alloc (Nat.le_refl _) _).alloc (by simp) _).alloc (by simp; omega) _) _ | exact (((below_drewN ((((Below.refl _ _).alloc (Nat.le_refl _) _).alloc (by simp) _).alloc (by simp; omega) _) _).setCell (p := ⟨w.heap.size + 1, 0, none⟩) (Nat.le_succ _) _).setCell (p := ⟨w.heap.size + 1, 1, none⟩) (Nat.le_succ _) _)), Turned.ofBelow (by first | exact below_drewN ((((Below.refl _ _).alloc (Nat.le_refl _) _).alloc (by simp) _).alloc (by simp; omega) _) _ | exact (((below_drewN ((((Below.refl _ _).alloc (Nat.le_refl _) _).alloc (by simp) _).alloc (by simp; omega) _) _).setCell (p := ⟨w.heap.size + 1, 0, none⟩) (Nat.le_succ _) _).setCell (p := ⟨w.heap.size + 1, 1, none⟩) (Nat.le_succ _) _)), fun k hk => Or.inl hk, rfl⟩

set_option maxRecDepth 100000 in
set_option maxHeartbeats 4000000 in
theorem rdec5_shut (r : RAdr) (S : Led) (D : List (Nat → Int)) (id : Int) (k : Nat) (x : Nat → Int) (w : World) (h : RLed w r S D) (hl : S.H.length ≤ 60) (hx : S.H[k]? = some x) (h7 : x 7 ≠ 1) :
    Calls Tryz.prog 53 #[.pointer (some ⟨r.q, 0, none⟩), cv 5 id 0 0 0 0 ((k : Int) + 1) 0] w (RDecd w r S D 5 0) := by
  have hk : k < S.H.length := (List.getElem?_eq_some_iff.1 hx).1
  obtain ⟨g, cap, er, hH, hgl, hgb, hF⟩ := h.row (by omega)
  obtain ⟨z, hv, dv⟩ := r
  simp only at er hgb
  subst er
  have HH := hid h
  have hzl : z < w.heap.size := h.q_lt
  have hch : w.cell? ⟨z, 81, none⟩ = some (.slice (some ⟨g, 0, none⟩) S.H.length cap) := h.ch
  have c7 : w.cell? ⟨g, k * 8 + 7, none⟩ = some (.int .i64 (x 7)) := hH.2 k x hx 7 (by omega)
  have G1 : decide ((S.H.length : Int) < (k : Int) + 1) = false := by simp; omega
  have hkI : (k : Int) < (S.H.length : Int) := by omega
  have hW : IntKind.i64.wrap ((k : Int) + 1 - 1) = (k : Int) := by rw [w64i _ (by omega)]; omega
  have e1 : (k : Int) + 1 - 1 = (k : Int) := by omega
  have h7' : (x 7 == 1) = false := by simpa using h7
  have h7n : (x 7 != 1) = true := by simpa using h7
  simp only
  clear h hH hF hx h7
  have Bw : Below w.heap.size w (((w.alloc (.cells (cc 5 id 0 0 0 0 ((k : Int) + 1) 0) 33)).alloc (.cells #[.int .i64 0, .int .i64 0] 66)).alloc (.cells #[.int .i64 6, .int .i64 0] 66)) := ((((Below.refl _ _).alloc (Nat.le_refl _) _).alloc (by simp) _).alloc (by simp; omega) _)
  have hchW := (Bw.cell (p := ⟨z, 81, none⟩) hzl).trans hch
  have c7W := (Bw.cell (p := ⟨g, k * 8 + 7, none⟩) hgl).trans c7
  clear Bw
  go_enter Tryz.func53, Tryz.ntmps53
  go_wp2
  go_quiet (fail)
  go_wp2
  exact bodyPost_ret (v := ansV 5 0) (by simp [results, Tryz.results53, go_sem]) rfl ⟨_, rfl, HH.out.below (by first | exact below_drewN ((((Below.refl _ _).alloc (Nat.le_refl _) _).alloc (by simp) _).alloc (by simp; omega) _) _ | exact (((below_drewN ((((Below.refl _ _).alloc (Nat.le_refl _) _).alloc (by simp) _).alloc (by simp; omega) _) _).setCell (p := ⟨w.heap.size + 1, 0, none⟩) (Nat.le_succ _) _).setCell (p := ⟨w.heap.size + 1, 1, none⟩) (Nat.le_succ _) _)), Turned.ofBelow (by first | exact below_drewN ((((Below.refl _ _).alloc (Nat.le_refl _) _).alloc (by simp) _).alloc (by simp; omega) _) _ | exact (((below_drewN ((((Below.refl _ _).alloc (Nat.le_refl _) _).alloc (by simp) _).alloc (by simp; omega) _) _).setCell (p := ⟨w.heap.size + 1, 0, none⟩) (Nat.le_succ _) _).setCell (p := ⟨w.heap.size + 1, 1, none⟩) (Nat.le_succ _) _)), fun k hk => Or.inl hk, rfl⟩

set_option maxRecDepth 100000 in
set_option maxHeartbeats 4000000 in
theorem rdec6_past (r : RAdr) (S : Led) (D : List (Nat → Int)) (id o : Int) (w : World) (h : RLed w r S D) (ho : (S.H.length : Int) < o) :
    Calls Tryz.prog 53 #[.pointer (some ⟨r.q, 0, none⟩), cv 6 id 0 0 0 0 o 0] w (RDecd w r S D 5 0) := by
  obtain ⟨z, hv, dv⟩ := r
  obtain ⟨ha, hcap, hvs⟩ := own_slice h.hrow
  simp only at hvs ⊢
  subst hvs
  have hzl : z < w.heap.size := h.q_lt
  have hch : w.cell? ⟨z, 81, none⟩ = some (.slice ha S.H.length hcap) := h.ch
  have G1 : decide ((S.H.length : Int) < o) = true := by simpa using ho
  have HH := hid h
  clear h
  have Bw : Below w.heap.size w (((w.alloc (.cells (cc 6 id 0 0 0 0 o 0) 33)).alloc (.cells #[.int .i64 0, .int .i64 0] 66)).alloc (.cells #[.int .i64 6, .int .i64 0] 66)) := ((((Below.refl _ _).alloc (Nat.le_refl _) _).alloc (by simp) _).alloc (by simp; omega) _)
  have hchW := (Bw.cell (p := ⟨z, 81, none⟩) hzl).trans hch
  clear Bw
  go_enter Tryz.func53, Tryz.ntmps53
  go_wp2
  go_quiet (fail)
  go_wp2
  exact bodyPost_ret (v := ansV 5 0) (by simp [results, Tryz.results53, go_sem]) rfl ⟨_, rfl, HH.out.below (by first | exact below_drewN ((((Below.refl _ _).alloc (Nat.le_refl _) _).alloc (by simp) _).alloc (by simp; omega) _) _ | exact (((below_drewN ((((Below.refl _ _).alloc (Nat.le_refl _) _).alloc (by simp) _).alloc (by simp; omega) _) _).setCell (p := ⟨w.heap.size + 1, 0, none⟩) (Nat.le_succ _) _).setCell (p := ⟨w.heap.size + 1, 1, none⟩) (Nat.le_succ _) _)), Turned.ofBelow (by first | exact below_drewN ((((Below.refl _ _).alloc (Nat.le_refl _) _).alloc (by simp) _).alloc (by simp; omega) _) _ | exact (((below_drewN ((((Below.refl _ _).alloc (Nat.le_refl _) _).alloc (by simp) _).alloc (by simp; omega) _) _).setCell (p := ⟨w.heap.size + 1, 0, none⟩) (Nat.le_succ _) _).setCell (p := ⟨w.heap.size + 1, 1, none⟩) (Nat.le_succ _) _)), fun k hk => Or.inl hk, rfl⟩

set_option maxRecDepth 100000 in
set_option maxHeartbeats 4000000 in
theorem rdec6_shut (r : RAdr) (S : Led) (D : List (Nat → Int)) (id : Int) (k : Nat) (x : Nat → Int) (w : World) (h : RLed w r S D) (hl : S.H.length ≤ 60) (hx : S.H[k]? = some x) (h7 : x 7 ≠ 1) :
    Calls Tryz.prog 53 #[.pointer (some ⟨r.q, 0, none⟩), cv 6 id 0 0 0 0 ((k : Int) + 1) 0] w (RDecd w r S D 5 0) := by
  have hk : k < S.H.length := (List.getElem?_eq_some_iff.1 hx).1
  obtain ⟨g, cap, er, hH, hgl, hgb, hF⟩ := h.row (by omega)
  obtain ⟨z, hv, dv⟩ := r
  simp only at er hgb
  subst er
  have HH := hid h
  have hzl : z < w.heap.size := h.q_lt
  have hch : w.cell? ⟨z, 81, none⟩ = some (.slice (some ⟨g, 0, none⟩) S.H.length cap) := h.ch
  have c7 : w.cell? ⟨g, k * 8 + 7, none⟩ = some (.int .i64 (x 7)) := hH.2 k x hx 7 (by omega)
  have G1 : decide ((S.H.length : Int) < (k : Int) + 1) = false := by simp; omega
  have hkI : (k : Int) < (S.H.length : Int) := by omega
  have hW : IntKind.i64.wrap ((k : Int) + 1 - 1) = (k : Int) := by rw [w64i _ (by omega)]; omega
  have e1 : (k : Int) + 1 - 1 = (k : Int) := by omega
  have h7' : (x 7 == 1) = false := by simpa using h7
  have h7n : (x 7 != 1) = true := by simpa using h7
  simp only
  clear h hH hF hx h7
  have Bw : Below w.heap.size w (((w.alloc (.cells (cc 6 id 0 0 0 0 ((k : Int) + 1) 0) 33)).alloc (.cells #[.int .i64 0, .int .i64 0] 66)).alloc (.cells #[.int .i64 6, .int .i64 0] 66)) := ((((Below.refl _ _).alloc (Nat.le_refl _) _).alloc (by simp) _).alloc (by simp; omega) _)
  have hchW := (Bw.cell (p := ⟨z, 81, none⟩) hzl).trans hch
  have c7W := (Bw.cell (p := ⟨g, k * 8 + 7, none⟩) hgl).trans c7
  clear Bw
  go_enter Tryz.func53, Tryz.ntmps53
  go_wp2
  go_quiet (fail)
  go_wp2
  exact bodyPost_ret (v := ansV 5 0) (by simp [results, Tryz.results53, go_sem]) rfl ⟨_, rfl, HH.out.below (by first | exact below_drewN ((((Below.refl _ _).alloc (Nat.le_refl _) _).alloc (by simp) _).alloc (by simp; omega) _) _ | exact (((below_drewN ((((Below.refl _ _).alloc (Nat.le_refl _) _).alloc (by simp) _).alloc (by simp; omega) _) _).setCell (p := ⟨w.heap.size + 1, 0, none⟩) (Nat.le_succ _) _).setCell (p := ⟨w.heap.size + 1, 1, none⟩) (Nat.le_succ _) _)), Turned.ofBelow (by first | exact below_drewN ((((Below.refl _ _).alloc (Nat.le_refl _) _).alloc (by simp) _).alloc (by simp; omega) _) _ | exact (((below_drewN ((((Below.refl _ _).alloc (Nat.le_refl _) _).alloc (by simp) _).alloc (by simp; omega) _) _).setCell (p := ⟨w.heap.size + 1, 0, none⟩) (Nat.le_succ _) _).setCell (p := ⟨w.heap.size + 1, 1, none⟩) (Nat.le_succ _) _)), fun k hk => Or.inl hk, rfl⟩

end Go.Proofs.YtdblmheoghhepaaGreatDoor
