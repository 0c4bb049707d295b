/- The questions: 'Now', 'Holds', 'Journal', 'Ages', 'ATP', 'Free'. -/
import Derived.Test.YtdblmheoghhepaaGreatDoorKJournal
namespace Go.Proofs.YtdblmheoghhepaaGreatDoor
open Go.RowKit

set_option maxRecDepth 100000 in
set_option maxHeartbeats 400000 in
theorem now_any (p : Adr) (S : Led) (w : World) (h : LedAt w p S) : Calls Tryz.prog 38 #[.pointer (some ⟨p.a, 0, none⟩)] w fun e w' => e = .returned (.int .i64 S.now) ∧ w = w' := by
  have c0 := h.c0
  go_enter Tryz.func38, Tryz.ntmps38
  go_wp2
  go_ret
  exact ⟨rfl, rfl⟩

set_option maxRecDepth 100000 in
set_option maxHeartbeats 400000 in
theorem holds_any (p : Adr) (S : Led) (af n : Int) (w : World) (h : LedAt w p S) (ha : I64 af) (hn : I64 n) :
    Calls Tryz.prog 60 #[.pointer (some ⟨p.a, 0, none⟩), .int .i64 af, .int .i64 n] w fun e w' => ∃ g, e = .returned (.slice (some ⟨g, 0, none⟩) (cutL S.H af n).length (cutL S.H af n).length) ∧ w.heap.size ≤ g ∧ g < w'.heap.size ∧
      w'.ownsRow w.heap.size 57 8 (.slice (some ⟨g, 0, none⟩) (cutL S.H af n).length (cutL S.H af n).length) (cutL S.H af n).length ((cutL S.H af n).flatMap hc) ∧ Below w.heap.size w w' := by
  have cb := h.cb
  go_enter Tryz.func60, Tryz.ntmps60
  go_wp2_with fail
  refine (after_any w h.book af n ha hn).mono ?_
  rintro e w1 ⟨g, rfl, h1, h2, h3, h4⟩
  go_wp2
  go_ret
  exact ⟨g, rfl, h1, h2, h3, h4⟩

set_option maxRecDepth 100000 in
set_option maxHeartbeats 400000 in
theorem journal_any (p : Adr) (S : Led) (w : World) (h : LedAt w p S) : Calls Tryz.prog 39 #[.pointer (some ⟨p.a, 0, none⟩)] w fun e w' => e = .returned (.string (strOfNums S.J)) ∧ w = w' := by
  have cj := h.cj
  have hcv := own_string h.jour
  go_enter Tryz.func39, Tryz.ntmps39
  go_wp2
  go_ret
  exact ⟨rfl, rfl⟩

set_option maxRecDepth 100000 in
set_option maxHeartbeats 400000 in
theorem within_any (a b : Int) (w : World) : Calls Tryz.prog 54 #[.int .i64 a, .int .i64 b] w fun e w' => e = .returned (.bool (decide (0 ≤ a ∧ a < b))) ∧ w = w' := by
  go_enter Tryz.func54, Tryz.ntmps54
  go_wp2
  all_goals go_ret
  all_goals refine ⟨ret_bool ?_, rfl⟩
  all_goals (simp_all <;> omega)

set_option maxRecDepth 100000 in
set_option maxHeartbeats 1000000 in
theorem ledAges_any (p : Adr) (S : Led) (w : World) (h : LedAt w p S) (hO : LOk S) :
    Calls Tryz.prog 36 #[.pointer (some ⟨p.a, 0, none⟩)] w fun e w' => e = .returned (.agg #[.int .i64 (ages S.H S.now 0 : Nat), .int .i64 (ages S.H S.now 1 : Nat), .int .i64 (ages S.H S.now 2 : Nat)]) ∧ Below w.heap.size w w' := by
  have cbw := h.cb
  have c0w := h.c0
  have hal := h.a_lt
  have ne1 : ¬ w.heap.size = p.a := by omega
  have ne2 : ¬ p.a = w.heap.size := by omega
  have h1 := h.alloc (.cells #[.int .i64 0, .int .i64 0, .int .i64 0] 48)
  have h1d := h1.drew
  have B1 : Below w.heap.size w ((w.alloc (.cells #[.int .i64 0, .int .i64 0, .int .i64 0] 48)).drew) := ((Below.refl _ _).alloc (Nat.le_refl _) _).drew
  go_enter Tryz.func36, Tryz.ntmps36
  go_wp2
  go_region_held3 (fun w' => w'.cell? ⟨p.a, 0, none⟩ = some (.int .i64 S.now) ∧ w'.cell? ⟨p.a, 81, none⟩ = some (.pointer (some ⟨p.bk, 0, none⟩))) (first | (go_keep; done) | (simp; done)) (first | (go_at_call 62; refine (ages_any _ h1d.book S.now hO.now (fun x hx => (hO.H x hx).2.1)).mono ?_; rintro e w2 ⟨rfl, hb2⟩; have y0 : w2.cell? ⟨p.a, 0, none⟩ = some (.int .i64 S.now) := (h1d.below hb2).c0; have y1 : w2.cell? ⟨p.a, 81, none⟩ = some (.pointer (some ⟨p.bk, 0, none⟩)) := (h1d.below hb2).cb; have r0 : w2.cell? ⟨w.heap.size, 0, none⟩ = some (.int .i64 0) := (hb2.cell (p := ⟨w.heap.size, 0, none⟩) (by simp)).trans (by simp [go_sem]); have r1 : w2.cell? ⟨w.heap.size, 1, none⟩ = some (.int .i64 0) := (hb2.cell (p := ⟨w.heap.size, 1, none⟩) (by simp)).trans (by simp [go_sem]); have r2 : w2.cell? ⟨w.heap.size, 2, none⟩ = some (.int .i64 0) := (hb2.cell (p := ⟨w.heap.size, 2, none⟩) (by simp)).trans (by simp [go_sem]); have f0 : w2.frozen? ⟨w.heap.size, 0, none⟩ = false := (hb2.frozen (p := ⟨w.heap.size, 0, none⟩) (by simp)).trans (by simp [go_sem]); have f1 : w2.frozen? ⟨w.heap.size, 1, none⟩ = false := (hb2.frozen (p := ⟨w.heap.size, 1, none⟩) (by simp)).trans (by simp [go_sem]); have f2 : w2.frozen? ⟨w.heap.size, 2, none⟩ = false := (hb2.frozen (p := ⟨w.heap.size, 2, none⟩) (by simp)).trans (by simp [go_sem])))
  have BB := B1.trans (hb2.mono (by simp))
  have B3 := ((BB.setCell (p := ⟨w.heap.size, 0, none⟩) (Nat.le_refl _) (.int .i64 (ages S.H S.now 0 : Nat))).setCell (p := ⟨w.heap.size, 1, none⟩) (Nat.le_refl _) (.int .i64 (ages S.H S.now 1 : Nat))).setCell (p := ⟨w.heap.size, 2, none⟩) (Nat.le_refl _) (.int .i64 (ages S.H S.now 2 : Nat))
  clear h h1 h1d B1 BB hb2 cbw c0w
  go_wp2
  exact bodyPost_ret (v := .agg #[.int .i64 (ages S.H S.now 0 : Nat), .int .i64 (ages S.H S.now 1 : Nat), .int .i64 (ages S.H S.now 2 : Nat)]) (by simp [results, Tryz.results36, go_sem, r0, r1, r2]) rfl ⟨rfl, B3⟩

set_option maxRecDepth 100000 in
set_option maxHeartbeats 1000000 in
theorem ledATP_any (p : Adr) (S : Led) (g d : Nat) (w : World) (h : LedAt w p S) (hO : LOk S) (hg : g < 4) (hd : d < 16) :
    Calls Tryz.prog 31 #[.pointer (some ⟨p.a, 0, none⟩), .int .i64 (g : Int), .int .i64 (d : Int)] w fun e w' => e = .returned (.tuple #[.int .i64 (atpS S g d), .int .i64 0]) ∧ Below w.heap.size w w' := by
  have cbw := h.cb
  have hal := h.a_lt
  have gI : (g : Int) < 4 := by omega
  have hwd := h.drew
  have hlen := h.book.len
  have hcl : (counting S.H g).length ≤ 60 := Nat.le_trans (counting_len _ _) hlen
  have hq := hO.cnt (g : Int)
  have hst := hO.good hg
  have G1 : decide ((0 : Int) ≤ (g : Int) ∧ (g : Int) < 4) = true := by simp; omega
  have G2 : decide ((0 : Int) ≤ (d : Int) ∧ (d : Int) < 16) = true := by simp; omega
  go_enter Tryz.func31, Tryz.ntmps31
  go_wp2_with (go_at_call 54; refine (within_any _ _ _).mono ?_; rintro e w' ⟨rfl, rfl⟩; first | rw [G1] | rw [G2])
  go_region_held3 (fun w' => w'.cell? ⟨p.a, 81, none⟩ = some (.pointer (some ⟨p.bk, 0, none⟩))) (first | (go_keep; done) | (simp; done)) (first | (go_at_call 56; refine (counting_any _ hwd.book g).mono ?_; rintro e wa ⟨v, rfl, hva, ha⟩; have hA := hwd.below ha; have ca := hA.cb) | (go_at_call 55; refine (goodATP_any p.a (1 + g * 20) d (goodG S.G g) v (counting S.H g) _ hd hst (hA.good hg) hcl hq (rowIs_of_own hva)).mono ?_; rintro e wb ⟨rfl, hb⟩; have cb2 := (hA.below hb).cb))
  have BB : Below w.heap.size w wb := ((Below.refl _ _).drew.trans ha).trans (hb.mono (by have := ha.size; simpa using this))
  clear h hwd hA ha hb hva
  go_wp2
  go_ret2
  exact ⟨rfl, BB⟩

set_option maxRecDepth 100000 in
set_option maxHeartbeats 1000000 in
theorem ledFree_any (p : Adr) (S : Led) (g c : Nat) (w : World) (h : LedAt w p S) (hO : LOk S) (hg : g < 4) (hc : c < 3) :
    Calls Tryz.prog 33 #[.pointer (some ⟨p.a, 0, none⟩), .int .i64 (g : Int), .int .i64 (c : Int)] w fun e w' => e = .returned (.tuple #[.int .i64 (freeS S g c), .int .i64 0]) ∧ Below w.heap.size w w' := by
  have cbw := h.cb
  have hal := h.a_lt
  have gI : (g : Int) < 4 := by omega
  have hwd := h.drew
  have hlen := h.book.len
  have hcl : (counting S.H g).length ≤ 60 := Nat.le_trans (counting_len _ _) hlen
  have hq := hO.cnt (g : Int)
  have hst := hO.good hg
  have G1 : decide ((0 : Int) ≤ (g : Int) ∧ (g : Int) < 4) = true := by simp; omega
  have G2 : decide ((0 : Int) ≤ (c : Int) ∧ (c : Int) < 3) = true := by simp; omega
  go_enter Tryz.func33, Tryz.ntmps33
  go_wp2_with (go_at_call 54; refine (within_any _ _ _).mono ?_; rintro e w' ⟨rfl, rfl⟩; first | rw [G1] | rw [G2])
  go_region_held3 (fun w' => w'.cell? ⟨p.a, 81, none⟩ = some (.pointer (some ⟨p.bk, 0, none⟩))) (first | (go_keep; done) | (simp; done)) (first | (go_at_call 56; refine (counting_any _ hwd.book g).mono ?_; rintro e wa ⟨v, rfl, hva, ha⟩; have hA := hwd.below ha; have ca := hA.cb) | (go_at_call 58; refine (goodFree_any p.a (1 + g * 20) c (goodG S.G g) v (counting S.H g) _ hc hst (hA.good hg) hcl hq (rowIs_of_own hva)).mono ?_; rintro e wb ⟨rfl, hb⟩; have cb2 := (hA.below hb).cb))
  have BB : Below w.heap.size w wb := ((Below.refl _ _).drew.trans ha).trans (hb.mono (by have := ha.size; simpa using this))
  clear h hwd hA ha hb hva
  go_wp2
  go_ret2
  exact ⟨rfl, BB⟩

end Go.Proofs.YtdblmheoghhepaaGreatDoor
