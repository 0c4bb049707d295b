/- The document's ledger: 'decides' of a tick. -/
import Derived.Test.YtdblmheoghhepaaGreatDoorKRefClose
namespace Go.Proofs.YtdblmheoghhepaaGreatDoor
open Go.RowKit

set_option maxRecDepth 100000 in
set_option maxHeartbeats 4000000 in
theorem rdec8_no (r : RAdr) (S : Led) (D : List (Nat → Int)) (id t : Int) (w : World) (h : RLed w r S D) (hO : LOk S) (ht : 0 ≤ t ∧ t ≤ 1000) (hgt : S.now + t > 1000000) :
    Calls Tryz.prog 53 #[.pointer (some ⟨r.q, 0, none⟩), cv 8 id 0 0 0 0 0 t] w (RDecd w r S D 7 0) := by
  obtain ⟨z, hv, dv⟩ := r
  have hzl : z < w.heap.size := h.q_lt
  have hn := hO.now
  have hc0 : w.cell? ⟨z, 0, none⟩ = some (.int .i64 S.now) := h.c0
  have hW : IntKind.i64.wrap (S.now + t) = S.now + t := w64i _ (by omega)
  have HH := hid h
  have Bw : Below w.heap.size w (((w.alloc (.cells (cc 8 id 0 0 0 0 0 t) 33)).alloc (.cells #[.int .i64 0, .int .i64 0] 66)).alloc (.cells #[.int .i64 6, .int .i64 0] 66)) := ((((Below.refl _ _).alloc (Nat.le_refl _) _).alloc (by simp) _).alloc (by simp; omega) _)
  have cW := (Bw.cell (p := ⟨z, 0, none⟩) hzl).trans hc0
  simp only
  clear h Bw
  go_enter Tryz.func53, Tryz.ntmps53
  go_wp2
  go_region
  go_wp2
  exact bodyPost_ret (v := ansV 7 0) (by simp [results, Tryz.results53, go_sem]) rfl ⟨_, rfl, HH.out.below (((((Below.refl _ _).alloc (Nat.le_refl _) _).alloc (by simp) _).alloc (by simp; omega) _).drew), Turned.ofBelow (((((Below.refl _ _).alloc (Nat.le_refl _) _).alloc (by simp) _).alloc (by simp; omega) _).drew), fun k hk => Or.inl hk, rfl⟩

set_option maxRecDepth 100000 in
set_option maxHeartbeats 8000000 in
theorem rdec8_yes (r : RAdr) (S : Led) (D : List (Nat → Int)) (id t : Int) (w : World) (h0 : RLed w r S D) (hO : LOk S) (hl : S.H.length ≤ 60) (ht : 0 ≤ t ∧ t ≤ 1000) (hgt : ¬ S.now + t > 1000000) :
    Calls Tryz.prog 53 #[.pointer (some ⟨r.q, 0, none⟩), cv 8 id 0 0 0 0 0 t] w (RDecd w r { S with now := S.now + t, H := expL (S.now + t) S.H } D 0 0) := by
  have hfoot : ∀ k, r.foot k → k < w.heap.size := fun k hk => h0.foot_lt hk
  obtain ⟨z, hv, dv⟩ := r
  obtain ⟨ha, hcap, hvs⟩ := own_slice h0.hrow
  simp only at hvs ⊢
  subst hvs
  obtain ⟨now, G, H, A, J⟩ := S
  have h : RAt w ⟨z, .slice ha H.length hcap, dv⟩ now (pofG G) H D J := h0
  replace hl : H.length ≤ 60 := hl
  replace hgt : ¬ now + t > 1000000 := hgt
  have hn : 0 ≤ now ∧ now ≤ 1000000 := hO.now
  have hzl : z < w.heap.size := h.q_lt
  have hc0 : w.cell? ⟨z, 0, none⟩ = some (.int .i64 now) := h.c0
  have hf0 : w.frozen? ⟨z, 0, none⟩ = false := h.free 0
  have hW : IntKind.i64.wrap (now + t) = now + t := w64i _ (by omega)
  have Bw : Below w.heap.size w (((w.alloc (.cells (cc 8 id 0 0 0 0 0 t) 33)).alloc (.cells #[.int .i64 0, .int .i64 0] 66)).alloc (.cells #[.int .i64 6, .int .i64 0] 66)) := ((((Below.refl _ _).alloc (Nat.le_refl _) _).alloc (by simp) _).alloc (by simp; omega) _)
  have cW := (Bw.cell (p := ⟨z, 0, none⟩) hzl).trans hc0
  have fW := (Bw.frozen (p := ⟨z, 0, none⟩) hzl).trans hf0
  have K1 := (h.below Bw).setNow (now + t)
  have T1 : Turned (RAdr.foot ⟨z, .slice ha H.length hcap, dv⟩) w _ := (Turned.ofBelow Bw).setCell (p := ⟨z, 0, none⟩) (Or.inl (Or.inl rfl)) (.int .i64 (now + t))
  have K2 := K1.below (Below.refl _ _).drew.drew
  have T2 := T1.drew.drew
  have n0 : ¬ RAdr.foot ⟨z, .slice ha H.length hcap, dv⟩ (w.heap.size + 1) := fun e => by have := hfoot _ e; omega
  show Calls _ _ _ _ (RDecd w ⟨z, .slice ha H.length hcap, dv⟩ ⟨now + t, G, expL (now + t) H, A, J⟩ D 0 0)
  clear h h0 hO Bw K1 T1
  go_enter Tryz.func53, Tryz.ntmps53
  go_wp2
  go_region
  go_wp2
  go_region
  have a0 : (((((w.alloc (.cells (cc 8 id 0 0 0 0 0 t) 33)).alloc (.cells #[.int .i64 0, .int .i64 0] 66)).alloc (.cells #[.int .i64 6, .int .i64 0] 66)).setCell ⟨z, 0, none⟩ (.int .i64 (now + t))).drew.drew).cell? ⟨w.heap.size + 1, 0, none⟩ = some (.int .i64 0) := (World.cell?_setCell_other _ _ _ _ (fun e => by have e2 : z = w.heap.size + 1 := congrArg Addr.block e; omega)).trans (by simp [go_sem])
  have a1 : (((((w.alloc (.cells (cc 8 id 0 0 0 0 0 t) 33)).alloc (.cells #[.int .i64 0, .int .i64 0] 66)).alloc (.cells #[.int .i64 6, .int .i64 0] 66)).setCell ⟨z, 0, none⟩ (.int .i64 (now + t))).drew.drew).cell? ⟨w.heap.size + 1, 1, none⟩ = some (.int .i64 0) := (World.cell?_setCell_other _ _ _ _ (fun e => by have e2 : z = w.heap.size + 1 := congrArg Addr.block e; omega)).trans (by simp [go_sem])
  have b0 : ∀ j, (((((w.alloc (.cells (cc 8 id 0 0 0 0 0 t) 33)).alloc (.cells #[.int .i64 0, .int .i64 0] 66)).alloc (.cells #[.int .i64 6, .int .i64 0] 66)).setCell ⟨z, 0, none⟩ (.int .i64 (now + t))).drew.drew).frozen? ⟨w.heap.size + 1, j, none⟩ = false := fun j => by
    show ((((w.alloc (.cells (cc 8 id 0 0 0 0 0 t) 33)).alloc (.cells #[.int .i64 0, .int .i64 0] 66)).alloc (.cells #[.int .i64 6, .int .i64 0] 66)).setCell ⟨z, 0, none⟩ (.int .i64 (now + t))).frozen? ⟨w.heap.size + 1, j, none⟩ = false
    rw [World.frozen?_setCell]; simp [go_sem]
  have sz : w.heap.size + 2 ≤ (((((w.alloc (.cells (cc 8 id 0 0 0 0 0 t) 33)).alloc (.cells #[.int .i64 0, .int .i64 0] 66)).alloc (.cells #[.int .i64 6, .int .i64 0] 66)).setCell ⟨z, 0, none⟩ (.int .i64 (now + t))).drew.drew).heap.size := by simp
  go_wp2
  go_loopw [12] (fun i wr => ∃ k : Nat, k ≤ H.length ∧ i = .int .i64 k ∧ RAt wr ⟨z, .slice ha H.length hcap, dv⟩ (now + t) (pofG G) (expK (now + t) H k) D J ∧ Turned (RAdr.foot ⟨z, .slice ha H.length hcap, dv⟩) w wr ∧ wr.cell? ⟨w.heap.size + 1, 0, none⟩ = some (.int .i64 0) ∧ wr.cell? ⟨w.heap.size + 1, 1, none⟩ = some (.int .i64 0) ∧ (∀ j, wr.frozen? ⟨w.heap.size + 1, j, none⟩ = false) ∧ w.heap.size + 2 ≤ wr.heap.size) (fun i _ => H.length - (intOf i).toNat)
  case atStart => exact ⟨0, by omega, rfl, by rw [expK_zero]; exact K2, T2, a0, a1, b0, sz⟩
  case round =>
    clear K2 T2 a0 a1 b0 sz cW fW hc0 hf0
    obtain ⟨k, hk, rfl, hK, hT, hA0, hA1, hFr, hS⟩ := hrel
    have hch := hK.ch
    have hc1 := hK.c0
    simp only at hch hc1
    by_cases hlt : k < H.length
    · obtain ⟨x, hx⟩ : ∃ x, H[k]? = some x := ⟨H[k], by simp [hlt]⟩
      have el := expK_len (now + t) H k
      obtain ⟨g, cap, eg, hH, hgl', hgb, hF⟩ := hK.row (by omega)
      simp only at eg hgb
      rw [el] at eg
      cases eg
      have hx' : (expK (now + t) H k)[k]? = some x := by rw [expK_at]; exact hx
      have c7 : wr.cell? ⟨g, k * 8 + 7, none⟩ = some (.int .i64 (x 7)) := hH.2 k x hx' 7 (by omega)
      have c6 : wr.cell? ⟨g, k * 8 + 6, none⟩ = some (.int .i64 (x 6)) := hH.2 k x hx' 6 (by omega)
      have f7 := hF (k * 8 + 7)
      have hkI : (k : Int) < (H.length : Int) := by omega
      have hgl := hfoot g (Or.inr (Or.inl rfl))
      have HX : Hid (H[k]? = some x) := hx
      clear hx hx' hH hF el
      by_cases e7 : x 7 = 1
      · by_cases e6 : x 6 ≤ now + t
        · have HE : Hid (expB (now + t) x = true) := by show _ = _; simp [expB, e7, e6]
          have G7 : (x 7 == 1) = true := by simpa using e7
          have E7 : Hid (x 7 = 1) := e7
          clear e7
          go_wp2
          go_quiet (fail)
          go_wp2
          go_roundw
          case rel =>
            have el := expK_len (now + t) H k
            have q1 := hK.below (below_drewN (Below.refl _ wr) nq)
            rw [← el] at q1
            have q2 := q1.setState (k := k) (by rw [el]; exact hlt) 4
            rw [el, ← expK_close (now + t) H k x HX.out HE.out] at q2
            refine ⟨k + 1, by omega, by go_num, q2, (hT.thenBelow (below_drewN (Below.refl _ wr) nq)).setCell (p := ⟨g, k * 8 + 7, none⟩) (Or.inl (Or.inr (Or.inl rfl))) _, ?_, ?_, fun j => ?_, by simpa [World.setCell] using hS⟩
            · rw [World.cell?_setCell_other _ _ _ _ (fun e => by have e2 : g = w.heap.size + 1 := congrArg Addr.block e; omega)]
              exact hA0
            · rw [World.cell?_setCell_other _ _ _ _ (fun e => by have e2 : g = w.heap.size + 1 := congrArg Addr.block e; omega)]
              exact hA1
            · rw [World.frozen?_setCell]
              exact hFr j
          case measure => simp [intOf]; omega
        · have HE : Hid (expB (now + t) x = false) := by show _ = _; simp [expB, e6]
          have G7 : (x 7 == 1) = true := by simpa using e7
          have G6 : decide (x 6 ≤ now + t) = false := by simpa using e6
          clear e7 e6
          go_wp2
          go_quiet (fail)
          go_wp2
          go_roundw
          case rel => exact ⟨k + 1, by omega, by go_num, by rw [expK_keep (now + t) H k x HX.out HE.out]; exact hK.below (below_drewN (Below.refl _ wr) nq), hT.thenBelow (below_drewN (Below.refl _ wr) nq), hA0, hA1, hFr, hS⟩
          case measure => simp [intOf]; omega
      · have HE : Hid (expB (now + t) x = false) := by show _ = _; simp [expB, e7]
        have G7 : (x 7 == 1) = false := by simpa using e7
        clear e7
        go_wp2
        go_quiet (fail)
        go_wp2
        go_roundw
        case rel => exact ⟨k + 1, by omega, by go_num, by rw [expK_keep (now + t) H k x HX.out HE.out]; exact hK.below (below_drewN (Below.refl _ wr) nq), hT.thenBelow (below_drewN (Below.refl _ wr) nq), hA0, hA1, hFr, hS⟩
        case measure => simp [intOf]; omega
    · have he : k = H.length := by omega
      subst he
      rw [expK_all] at hK
      have hf0 := hFr 0
      have hf1 := hFr 1
      have hlL : (expL (now + t) H).length = H.length := by simp [expL]
      obtain ⟨K4, T4⟩ := rans_set (r := ⟨z, .slice ha H.length hcap, dv⟩) (S := ⟨now + t, G, expL (now + t) H, A, J⟩) (D := D) hK hT (w.heap.size + 1) (Nat.le_succ _) n0 (.int .i64 0) (.int .i64 0)
      clear hK hT hlL
      go_wp2
      exact bodyPost_ret (v := ansV 0 0) (by simp [results, Tryz.results53, go_sem, hA0, hA1]) rfl ⟨_, rfl, K4, T4, fun k hk => Or.inl hk, rfl⟩

end Go.Proofs.YtdblmheoghhepaaGreatDoor
