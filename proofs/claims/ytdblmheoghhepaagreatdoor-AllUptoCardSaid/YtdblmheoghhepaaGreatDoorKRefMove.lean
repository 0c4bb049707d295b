/- The document's ledger: 'sum'; 'decides' where a number goes on. -/
import Derived.Test.YtdblmheoghhepaaGreatDoorKRefAskAll
import Derived.Deep.RegionHeld3
namespace Go.Proofs.YtdblmheoghhepaaGreatDoor
open Go.RowKit

set_option maxRecDepth 100000 in
set_option maxHeartbeats 400000 in
theorem rsum_any (a b : Int) (w : World) (h : -2000000000 ≤ a + b ∧ a + b ≤ 2000000000) :
    Calls Tryz.prog 80 #[.int .i64 a, .int .i64 b] w fun e w' => e = .returned (.tuple #[.int .i64 (a + b), .bool (inStock (a + b))]) ∧ w = w' := by
  have hW : IntKind.i64.wrap (a + b) = a + b := w64i _ (by omega)
  by_cases h1 : a + b ≤ 1000000000
  · have e : Hid (inStock (a + b) = decide (-1000000000 ≤ a + b)) := by show _ = _; unfold inStock; simp [h1]
    go_enter Tryz.func80, Tryz.ntmps80
    go_wp2
    go_ret2
    exact ⟨by rw [e.out]; rfl, rfl⟩
  · have e : Hid (inStock (a + b) = false) := by show _ = _; unfold inStock; simp; omega
    go_enter Tryz.func80, Tryz.ntmps80
    go_wp2
    go_ret2
    exact ⟨by rw [e.out]; rfl, rfl⟩

/-- What a decision of the document's ledger leaves. -/
def RDecd (w : World) (r : RAdr) (S' : Led) (D : List (Nat → Int)) (E N : Int) (e : Ending) (w' : World) : Prop :=
  ∃ r' : RAdr, e = .returned (ansV E N) ∧ RLed w' r' S' D ∧ Turned r.foot w w' ∧ (∀ k, r'.foot k → r.foot k ∨ w.heap.size ≤ k) ∧ r'.q = r.q

theorem hid {p : Prop} (h : p) : Hid p := h
theorem rans_set {w0 w : World} {r r' : RAdr} {S : Led} {D : List (Nat → Int)} (h : RLed w r' S D) (hT : Turned r.foot w0 w) (b : Nat) (hb : w0.heap.size ≤ b) (hn : ¬ r'.foot b) (u v : Value) :
    RLed ((w.setCell ⟨b, 0, none⟩ u).setCell ⟨b, 1, none⟩ v) r' S D ∧ Turned r.foot w0 ((w.setCell ⟨b, 0, none⟩ u).setCell ⟨b, 1, none⟩ v) := by
  refine ⟨h.same (fun k hk => ?_), (hT.setCell (p := ⟨b, 0, none⟩) (Or.inr hb) _).setCell (p := ⟨b, 1, none⟩) (Or.inr hb) _⟩
  have hne : k ≠ b := fun e => hn (e ▸ hk)
  rw [Below.heap_setCell _ _ _ _ hne, Below.heap_setCell _ _ _ _ hne]

set_option maxRecDepth 100000 in
set_option maxHeartbeats 4000000 in
theorem rdec1 (r : RAdr) (S : Led) (D : List (Nat → Int)) (id q : Int) (w : World) (h : RLed w r S D) (hO : LOk S) (g : Nat) (hg : g < 4) (hq : -1000000 ≤ q ∧ q ≤ 1000000) :
    Calls Tryz.prog 53 #[.pointer (some ⟨r.q, 0, none⟩), cv 1 id g 0 0 q 0 0] w (RDecd w r (moveS S (g * 20) q) D (moveE (S.G (g * 20) + q)) 0) := by
  have hfoot : ∀ k, r.foot k → k < w.heap.size := fun k hk => h.foot_lt hk
  obtain ⟨z, hv, dv⟩ := r
  have gI : (g : Int) < 4 := by omega
  have hzl : z < w.heap.size := h.q_lt
  have hs := hO.G (g * 20) (by omega)
  have hp := pofG_hand S.G g hg
  have c2 : w.cell? ⟨z, 1 + g, none⟩ = some (.int .i64 (S.G (g * 20))) := by
    have := h.nums (g) (by omega)
    rw [hp] at this
    rwa [show 1 + (g) = 1 + g by omega] at this
  have f2 : w.frozen? ⟨z, 1 + g, none⟩ = false := h.free (1 + g)
  have Bw : Below w.heap.size w (((w.alloc (.cells (cc 1 id g 0 0 q 0 0) 33)).alloc (.cells #[.int .i64 0, .int .i64 0] 66)).alloc (.cells #[.int .i64 6, .int .i64 0] 66)) := (((Below.refl _ _).alloc (Nat.le_refl _) _).alloc (by simp) _).alloc (by simp; omega) _
  have h3 := h.below Bw
  have T0 : Turned (RAdr.foot ⟨z, hv, dv⟩) w (((w.alloc (.cells (cc 1 id g 0 0 q 0 0) 33)).alloc (.cells #[.int .i64 0, .int .i64 0] 66)).alloc (.cells #[.int .i64 6, .int .i64 0] 66)) := Turned.ofBelow Bw
  have n1 : ¬ RAdr.foot ⟨z, hv, dv⟩ (w.heap.size + 1) := fun e => by have := hfoot _ e; omega
  have cW0 := (Bw.cell (p := ⟨z, 1 + g, none⟩) hzl).trans c2
  have fW0 := (Bw.frozen (p := ⟨z, 1 + g, none⟩) hzl).trans f2
  have cW : ((((w.alloc (.cells (cc 1 id g 0 0 q 0 0) 33)).alloc (.cells #[.int .i64 0, .int .i64 0] 66)).alloc (.cells #[.int .i64 6, .int .i64 0] 66)).drew).cell? ⟨z, 1 + g, none⟩ = some (.int .i64 (S.G (g * 20))) := cW0
  by_cases hin : inStock (S.G (g * 20) + q) = true
  · have e1 : moveE (S.G (g * 20) + q) = 0 := if_pos hin
    have e2 : moveS S (g * 20) q = { S with G := updG S.G (g * 20) (S.G (g * 20) + q) } := if_pos hin
    have K1 := h3.setN (i := g) (by omega) (S.G (g * 20) + q)
    rw [show 1 + (g) = 1 + g by omega] at K1
    have T1 := T0.setCell (p := ⟨z, 1 + g, none⟩) (Or.inl (Or.inl rfl)) (.int .i64 (S.G (g * 20) + q))
    have K2 : RLed _ ⟨z, hv, dv⟩ { S with G := updG S.G (g * 20) (S.G (g * 20) + q) } D := K1.congr (pofG_upd1 _ g _ hg)
    obtain ⟨K4, T4⟩ := rans_set K2 T1 (w.heap.size + 1) (Nat.le_succ _) n1 (.int .i64 0) (.int .i64 0)
    rw [e1, e2]
    have HK := hid (K4.below ((Below.refl _ _).drew.drew))
    have HT := hid (T4.drew.drew)
    clear e1 e2 K1 K2 K4 T1 T4 h h3 T0 Bw hp
    generalize hX : S.G (g * 20) = X at *
    clear hX
    go_enter Tryz.func53, Tryz.ntmps53
    go_wp2
    go_region_held3 (fun w' => w'.cell? ⟨w.heap.size, 2, none⟩ = some (.int .i64 g) ∧ w'.cell? ⟨z, 1 + g, none⟩ = some (.int .i64 X) ∧ w'.cell? ⟨w.heap.size, 5, none⟩ = some (.int .i64 q)) (first | (go_keep; done) | (simp; done)) (first | (go_at_call 80; refine (rsum_any X q _ (by constructor <;> omega)).mono ?_; rw [hin]; rintro e w' ⟨rfl, rfl⟩))
    go_wp2
    go_region
    go_wp2
    exact bodyPost_ret (v := ansV 0 0) (by simp [results, Tryz.results53, go_sem]) rfl ⟨⟨z, hv, dv⟩, rfl, HK.out, HT.out, fun k hk => Or.inl hk, rfl⟩
  · have e1 : moveE (S.G (g * 20) + q) = 6 := if_neg hin
    have e2 : moveS S (g * 20) q = S := if_neg hin
    rw [e1, e2]
    have HK := hid h
    have hin' : inStock (S.G (g * 20) + q) = false := by simpa using hin
    clear e1 e2 h h3 T0 Bw hp hin
    generalize hX : S.G (g * 20) = X at *
    clear hX
    go_enter Tryz.func53, Tryz.ntmps53
    go_wp2
    go_region_held3 (fun w' => w'.cell? ⟨w.heap.size, 2, none⟩ = some (.int .i64 g) ∧ w'.cell? ⟨z, 1 + g, none⟩ = some (.int .i64 X) ∧ w'.cell? ⟨w.heap.size, 5, none⟩ = some (.int .i64 q)) (first | (go_keep; done) | (simp; done)) (first | (go_at_call 80; refine (rsum_any X q _ (by constructor <;> omega)).mono ?_; rw [hin']; rintro e w' ⟨rfl, rfl⟩))
    go_wp2
    exact bodyPost_ret (v := ansV 6 0) (by simp [results, Tryz.results53, go_sem]) rfl ⟨⟨z, hv, dv⟩, rfl, HK.out.below (((((Below.refl _ _).alloc (Nat.le_refl _) _).alloc (by simp) _).alloc (by simp; omega) _).drew), Turned.ofBelow (((((Below.refl _ _).alloc (Nat.le_refl _) _).alloc (by simp) _).alloc (by simp; omega) _).drew), fun k hk => Or.inl hk, rfl⟩

set_option maxRecDepth 100000 in
set_option maxHeartbeats 4000000 in
theorem rdec7 (r : RAdr) (S : Led) (D : List (Nat → Int)) (id q : Int) (w : World) (h : RLed w r S D) (hO : LOk S) (g : Nat) (hg : g < 4) (hq : -1000000 ≤ q ∧ q ≤ 1000000) :
    Calls Tryz.prog 53 #[.pointer (some ⟨r.q, 0, none⟩), cv 7 id g 0 0 q 0 0] w (RDecd w r (moveS S (g * 20) q) D (moveE (S.G (g * 20) + q)) 0) := by
  have hfoot : ∀ k, r.foot k → k < w.heap.size := fun k hk => h.foot_lt hk
  obtain ⟨z, hv, dv⟩ := r
  have gI : (g : Int) < 4 := by omega
  have hzl : z < w.heap.size := h.q_lt
  have hs := hO.G (g * 20) (by omega)
  have hp := pofG_hand S.G g hg
  have c2 : w.cell? ⟨z, 1 + g, none⟩ = some (.int .i64 (S.G (g * 20))) := by
    have := h.nums (g) (by omega)
    rw [hp] at this
    rwa [show 1 + (g) = 1 + g by omega] at this
  have f2 : w.frozen? ⟨z, 1 + g, none⟩ = false := h.free (1 + g)
  have Bw : Below w.heap.size w (((w.alloc (.cells (cc 7 id g 0 0 q 0 0) 33)).alloc (.cells #[.int .i64 0, .int .i64 0] 66)).alloc (.cells #[.int .i64 6, .int .i64 0] 66)) := (((Below.refl _ _).alloc (Nat.le_refl _) _).alloc (by simp) _).alloc (by simp; omega) _
  have h3 := h.below Bw
  have T0 : Turned (RAdr.foot ⟨z, hv, dv⟩) w (((w.alloc (.cells (cc 7 id g 0 0 q 0 0) 33)).alloc (.cells #[.int .i64 0, .int .i64 0] 66)).alloc (.cells #[.int .i64 6, .int .i64 0] 66)) := Turned.ofBelow Bw
  have n1 : ¬ RAdr.foot ⟨z, hv, dv⟩ (w.heap.size + 1) := fun e => by have := hfoot _ e; omega
  have cW0 := (Bw.cell (p := ⟨z, 1 + g, none⟩) hzl).trans c2
  have fW0 := (Bw.frozen (p := ⟨z, 1 + g, none⟩) hzl).trans f2
  have cW : ((((w.alloc (.cells (cc 7 id g 0 0 q 0 0) 33)).alloc (.cells #[.int .i64 0, .int .i64 0] 66)).alloc (.cells #[.int .i64 6, .int .i64 0] 66)).drew).cell? ⟨z, 1 + g, none⟩ = some (.int .i64 (S.G (g * 20))) := cW0
  by_cases hin : inStock (S.G (g * 20) + q) = true
  · have e1 : moveE (S.G (g * 20) + q) = 0 := if_pos hin
    have e2 : moveS S (g * 20) q = { S with G := updG S.G (g * 20) (S.G (g * 20) + q) } := if_pos hin
    have K1 := h3.setN (i := g) (by omega) (S.G (g * 20) + q)
    rw [show 1 + (g) = 1 + g by omega] at K1
    have T1 := T0.setCell (p := ⟨z, 1 + g, none⟩) (Or.inl (Or.inl rfl)) (.int .i64 (S.G (g * 20) + q))
    have K2 : RLed _ ⟨z, hv, dv⟩ { S with G := updG S.G (g * 20) (S.G (g * 20) + q) } D := K1.congr (pofG_upd1 _ g _ hg)
    obtain ⟨K4, T4⟩ := rans_set K2 T1 (w.heap.size + 1) (Nat.le_succ _) n1 (.int .i64 0) (.int .i64 0)
    rw [e1, e2]
    have HK := hid (K4.below ((Below.refl _ _).drew.drew))
    have HT := hid (T4.drew.drew)
    clear e1 e2 K1 K2 K4 T1 T4 h h3 T0 Bw hp
    generalize hX : S.G (g * 20) = X at *
    clear hX
    go_enter Tryz.func53, Tryz.ntmps53
    go_wp2
    go_region_held3 (fun w' => w'.cell? ⟨w.heap.size, 2, none⟩ = some (.int .i64 g) ∧ w'.cell? ⟨z, 1 + g, none⟩ = some (.int .i64 X) ∧ w'.cell? ⟨w.heap.size, 5, none⟩ = some (.int .i64 q)) (first | (go_keep; done) | (simp; done)) (first | (go_at_call 80; refine (rsum_any X q _ (by constructor <;> omega)).mono ?_; rw [hin]; rintro e w' ⟨rfl, rfl⟩))
    go_wp2
    go_region
    go_wp2
    exact bodyPost_ret (v := ansV 0 0) (by simp [results, Tryz.results53, go_sem]) rfl ⟨⟨z, hv, dv⟩, rfl, HK.out, HT.out, fun k hk => Or.inl hk, rfl⟩
  · have e1 : moveE (S.G (g * 20) + q) = 6 := if_neg hin
    have e2 : moveS S (g * 20) q = S := if_neg hin
    rw [e1, e2]
    have HK := hid h
    have hin' : inStock (S.G (g * 20) + q) = false := by simpa using hin
    clear e1 e2 h h3 T0 Bw hp hin
    generalize hX : S.G (g * 20) = X at *
    clear hX
    go_enter Tryz.func53, Tryz.ntmps53
    go_wp2
    go_region_held3 (fun w' => w'.cell? ⟨w.heap.size, 2, none⟩ = some (.int .i64 g) ∧ w'.cell? ⟨z, 1 + g, none⟩ = some (.int .i64 X) ∧ w'.cell? ⟨w.heap.size, 5, none⟩ = some (.int .i64 q)) (first | (go_keep; done) | (simp; done)) (first | (go_at_call 80; refine (rsum_any X q _ (by constructor <;> omega)).mono ?_; rw [hin']; rintro e w' ⟨rfl, rfl⟩))
    go_wp2
    exact bodyPost_ret (v := ansV 6 0) (by simp [results, Tryz.results53, go_sem]) rfl ⟨⟨z, hv, dv⟩, rfl, HK.out.below (((((Below.refl _ _).alloc (Nat.le_refl _) _).alloc (by simp) _).alloc (by simp; omega) _).drew), Turned.ofBelow (((((Below.refl _ _).alloc (Nat.le_refl _) _).alloc (by simp) _).alloc (by simp; omega) _).drew), fun k hk => Or.inl hk, rfl⟩

set_option maxRecDepth 100000 in
set_option maxHeartbeats 4000000 in
theorem rdec2 (r : RAdr) (S : Led) (D : List (Nat → Int)) (id q : Int) (w : World) (h : RLed w r S D) (hO : LOk S) (g : Nat) (hg : g < 4) (d : Nat) (hd : d < 16) (hq : -1000000 ≤ q ∧ q ≤ 1000000) :
    Calls Tryz.prog 53 #[.pointer (some ⟨r.q, 0, none⟩), cv 2 id g 0 d q 0 0] w (RDecd w r (moveS S (g * 20 + 1 + d) q) D (moveE (S.G (g * 20 + 1 + d) + q)) 0) := by
  have hfoot : ∀ k, r.foot k → k < w.heap.size := fun k hk => h.foot_lt hk
  obtain ⟨z, hv, dv⟩ := r
  have gI : (g : Int) < 4 := by omega
  have dI : (d : Int) < 16 := by omega
  have hzl : z < w.heap.size := h.q_lt
  have hs := hO.G (g * 20 + 1 + d) (by omega)
  have hp := pofG_plan S.G g d hg hd
  have c2 : w.cell? ⟨z, 5 + g * 16 + d, none⟩ = some (.int .i64 (S.G (g * 20 + 1 + d))) := by
    have := h.nums (4 + g * 16 + d) (by omega)
    rw [hp] at this
    rwa [show 1 + (4 + g * 16 + d) = 5 + g * 16 + d by omega] at this
  have f2 : w.frozen? ⟨z, 5 + g * 16 + d, none⟩ = false := h.free (5 + g * 16 + d)
  have Bw : Below w.heap.size w (((w.alloc (.cells (cc 2 id g 0 d q 0 0) 33)).alloc (.cells #[.int .i64 0, .int .i64 0] 66)).alloc (.cells #[.int .i64 6, .int .i64 0] 66)) := (((Below.refl _ _).alloc (Nat.le_refl _) _).alloc (by simp) _).alloc (by simp; omega) _
  have h3 := h.below Bw
  have T0 : Turned (RAdr.foot ⟨z, hv, dv⟩) w (((w.alloc (.cells (cc 2 id g 0 d q 0 0) 33)).alloc (.cells #[.int .i64 0, .int .i64 0] 66)).alloc (.cells #[.int .i64 6, .int .i64 0] 66)) := Turned.ofBelow Bw
  have n1 : ¬ RAdr.foot ⟨z, hv, dv⟩ (w.heap.size + 1) := fun e => by have := hfoot _ e; omega
  have cW0 := (Bw.cell (p := ⟨z, 5 + g * 16 + d, none⟩) hzl).trans c2
  have fW0 := (Bw.frozen (p := ⟨z, 5 + g * 16 + d, none⟩) hzl).trans f2
  have cW : ((((w.alloc (.cells (cc 2 id g 0 d q 0 0) 33)).alloc (.cells #[.int .i64 0, .int .i64 0] 66)).alloc (.cells #[.int .i64 6, .int .i64 0] 66)).drew).cell? ⟨z, 5 + g * 16 + d, none⟩ = some (.int .i64 (S.G (g * 20 + 1 + d))) := cW0
  by_cases hin : inStock (S.G (g * 20 + 1 + d) + q) = true
  · have e1 : moveE (S.G (g * 20 + 1 + d) + q) = 0 := if_pos hin
    have e2 : moveS S (g * 20 + 1 + d) q = { S with G := updG S.G (g * 20 + 1 + d) (S.G (g * 20 + 1 + d) + q) } := if_pos hin
    have K1 := h3.setN (i := 4 + g * 16 + d) (by omega) (S.G (g * 20 + 1 + d) + q)
    rw [show 1 + (4 + g * 16 + d) = 5 + g * 16 + d by omega] at K1
    have T1 := T0.setCell (p := ⟨z, 5 + g * 16 + d, none⟩) (Or.inl (Or.inl rfl)) (.int .i64 (S.G (g * 20 + 1 + d) + q))
    have K2 : RLed _ ⟨z, hv, dv⟩ { S with G := updG S.G (g * 20 + 1 + d) (S.G (g * 20 + 1 + d) + q) } D := K1.congr (pofG_upd2 _ g d _ hg hd)
    obtain ⟨K4, T4⟩ := rans_set K2 T1 (w.heap.size + 1) (Nat.le_succ _) n1 (.int .i64 0) (.int .i64 0)
    rw [e1, e2]
    have HK := hid (K4.below ((Below.refl _ _).drew.drew))
    have HT := hid (T4.drew.drew)
    clear e1 e2 K1 K2 K4 T1 T4 h h3 T0 Bw hp
    generalize hX : S.G (g * 20 + 1 + d) = X at *
    clear hX
    go_enter Tryz.func53, Tryz.ntmps53
    go_wp2
    go_region_held3 (fun w' => w'.cell? ⟨w.heap.size, 2, none⟩ = some (.int .i64 g) ∧ w'.cell? ⟨z, 5 + g * 16 + d, none⟩ = some (.int .i64 X) ∧ w'.cell? ⟨w.heap.size, 5, none⟩ = some (.int .i64 q) ∧ w'.cell? ⟨w.heap.size, 4, none⟩ = some (.int .i64 d)) (first | (go_keep; done) | (simp; done)) (first | (go_at_call 80; refine (rsum_any X q _ (by constructor <;> omega)).mono ?_; rw [hin]; rintro e w' ⟨rfl, rfl⟩))
    go_wp2
    go_region
    go_wp2
    exact bodyPost_ret (v := ansV 0 0) (by simp [results, Tryz.results53, go_sem]) rfl ⟨⟨z, hv, dv⟩, rfl, HK.out, HT.out, fun k hk => Or.inl hk, rfl⟩
  · have e1 : moveE (S.G (g * 20 + 1 + d) + q) = 6 := if_neg hin
    have e2 : moveS S (g * 20 + 1 + d) q = S := if_neg hin
    rw [e1, e2]
    have HK := hid h
    have hin' : inStock (S.G (g * 20 + 1 + d) + q) = false := by simpa using hin
    clear e1 e2 h h3 T0 Bw hp hin
    generalize hX : S.G (g * 20 + 1 + d) = X at *
    clear hX
    go_enter Tryz.func53, Tryz.ntmps53
    go_wp2
    go_region_held3 (fun w' => w'.cell? ⟨w.heap.size, 2, none⟩ = some (.int .i64 g) ∧ w'.cell? ⟨z, 5 + g * 16 + d, none⟩ = some (.int .i64 X) ∧ w'.cell? ⟨w.heap.size, 5, none⟩ = some (.int .i64 q) ∧ w'.cell? ⟨w.heap.size, 4, none⟩ = some (.int .i64 d)) (first | (go_keep; done) | (simp; done)) (first | (go_at_call 80; refine (rsum_any X q _ (by constructor <;> omega)).mono ?_; rw [hin']; rintro e w' ⟨rfl, rfl⟩))
    go_wp2
    exact bodyPost_ret (v := ansV 6 0) (by simp [results, Tryz.results53, go_sem]) rfl ⟨⟨z, hv, dv⟩, rfl, HK.out.below (((((Below.refl _ _).alloc (Nat.le_refl _) _).alloc (by simp) _).alloc (by simp; omega) _).drew), Turned.ofBelow (((((Below.refl _ _).alloc (Nat.le_refl _) _).alloc (by simp) _).alloc (by simp; omega) _).drew), fun k hk => Or.inl hk, rfl⟩

set_option maxRecDepth 100000 in
set_option maxHeartbeats 4000000 in
theorem rdec3 (r : RAdr) (S : Led) (D : List (Nat → Int)) (id q : Int) (w : World) (h : RLed w r S D) (hO : LOk S) (g : Nat) (hg : g < 4) (c : Nat) (hc : c < 3) (hq : -1000000 ≤ q ∧ q ≤ 1000000) :
    Calls Tryz.prog 53 #[.pointer (some ⟨r.q, 0, none⟩), cv 3 id g c 0 q 0 0] w (RDecd w r (moveS S (g * 20 + 17 + c) q) D (moveE (S.G (g * 20 + 17 + c) + q)) 0) := by
  have hfoot : ∀ k, r.foot k → k < w.heap.size := fun k hk => h.foot_lt hk
  obtain ⟨z, hv, dv⟩ := r
  have gI : (g : Int) < 4 := by omega
  have cI : (c : Int) < 3 := by omega
  have hzl : z < w.heap.size := h.q_lt
  have hs := hO.G (g * 20 + 17 + c) (by omega)
  have hp := pofG_share S.G g c hg hc
  have c2 : w.cell? ⟨z, 69 + g * 3 + c, none⟩ = some (.int .i64 (S.G (g * 20 + 17 + c))) := by
    have := h.nums (68 + g * 3 + c) (by omega)
    rw [hp] at this
    rwa [show 1 + (68 + g * 3 + c) = 69 + g * 3 + c by omega] at this
  have f2 : w.frozen? ⟨z, 69 + g * 3 + c, none⟩ = false := h.free (69 + g * 3 + c)
  have Bw : Below w.heap.size w (((w.alloc (.cells (cc 3 id g c 0 q 0 0) 33)).alloc (.cells #[.int .i64 0, .int .i64 0] 66)).alloc (.cells #[.int .i64 6, .int .i64 0] 66)) := (((Below.refl _ _).alloc (Nat.le_refl _) _).alloc (by simp) _).alloc (by simp; omega) _
  have h3 := h.below Bw
  have T0 : Turned (RAdr.foot ⟨z, hv, dv⟩) w (((w.alloc (.cells (cc 3 id g c 0 q 0 0) 33)).alloc (.cells #[.int .i64 0, .int .i64 0] 66)).alloc (.cells #[.int .i64 6, .int .i64 0] 66)) := Turned.ofBelow Bw
  have n1 : ¬ RAdr.foot ⟨z, hv, dv⟩ (w.heap.size + 1) := fun e => by have := hfoot _ e; omega
  have cW0 := (Bw.cell (p := ⟨z, 69 + g * 3 + c, none⟩) hzl).trans c2
  have fW0 := (Bw.frozen (p := ⟨z, 69 + g * 3 + c, none⟩) hzl).trans f2
  have cW : ((((w.alloc (.cells (cc 3 id g c 0 q 0 0) 33)).alloc (.cells #[.int .i64 0, .int .i64 0] 66)).alloc (.cells #[.int .i64 6, .int .i64 0] 66)).drew).cell? ⟨z, 69 + g * 3 + c, none⟩ = some (.int .i64 (S.G (g * 20 + 17 + c))) := cW0
  by_cases hin : inStock (S.G (g * 20 + 17 + c) + q) = true
  · have e1 : moveE (S.G (g * 20 + 17 + c) + q) = 0 := if_pos hin
    have e2 : moveS S (g * 20 + 17 + c) q = { S with G := updG S.G (g * 20 + 17 + c) (S.G (g * 20 + 17 + c) + q) } := if_pos hin
    have K1 := h3.setN (i := 68 + g * 3 + c) (by omega) (S.G (g * 20 + 17 + c) + q)
    rw [show 1 + (68 + g * 3 + c) = 69 + g * 3 + c by omega] at K1
    have T1 := T0.setCell (p := ⟨z, 69 + g * 3 + c, none⟩) (Or.inl (Or.inl rfl)) (.int .i64 (S.G (g * 20 + 17 + c) + q))
    have K2 : RLed _ ⟨z, hv, dv⟩ { S with G := updG S.G (g * 20 + 17 + c) (S.G (g * 20 + 17 + c) + q) } D := K1.congr (pofG_upd3 _ g c _ hg hc)
    obtain ⟨K4, T4⟩ := rans_set K2 T1 (w.heap.size + 1) (Nat.le_succ _) n1 (.int .i64 0) (.int .i64 0)
    rw [e1, e2]
    have HK := hid (K4.below ((Below.refl _ _).drew.drew))
    have HT := hid (T4.drew.drew)
    clear e1 e2 K1 K2 K4 T1 T4 h h3 T0 Bw hp
    generalize hX : S.G (g * 20 + 17 + c) = X at *
    clear hX
    go_enter Tryz.func53, Tryz.ntmps53
    go_wp2
    go_region_held3 (fun w' => w'.cell? ⟨w.heap.size, 2, none⟩ = some (.int .i64 g) ∧ w'.cell? ⟨z, 69 + g * 3 + c, none⟩ = some (.int .i64 X) ∧ w'.cell? ⟨w.heap.size, 5, none⟩ = some (.int .i64 q) ∧ w'.cell? ⟨w.heap.size, 3, none⟩ = some (.int .i64 c)) (first | (go_keep; done) | (simp; done)) (first | (go_at_call 80; refine (rsum_any X q _ (by constructor <;> omega)).mono ?_; rw [hin]; rintro e w' ⟨rfl, rfl⟩))
    go_wp2
    go_region
    go_wp2
    exact bodyPost_ret (v := ansV 0 0) (by simp [results, Tryz.results53, go_sem]) rfl ⟨⟨z, hv, dv⟩, rfl, HK.out, HT.out, fun k hk => Or.inl hk, rfl⟩
  · have e1 : moveE (S.G (g * 20 + 17 + c) + q) = 6 := if_neg hin
    have e2 : moveS S (g * 20 + 17 + c) q = S := if_neg hin
    rw [e1, e2]
    have HK := hid h
    have hin' : inStock (S.G (g * 20 + 17 + c) + q) = false := by simpa using hin
    clear e1 e2 h h3 T0 Bw hp hin
    generalize hX : S.G (g * 20 + 17 + c) = X at *
    clear hX
    go_enter Tryz.func53, Tryz.ntmps53
    go_wp2
    go_region_held3 (fun w' => w'.cell? ⟨w.heap.size, 2, none⟩ = some (.int .i64 g) ∧ w'.cell? ⟨z, 69 + g * 3 + c, none⟩ = some (.int .i64 X) ∧ w'.cell? ⟨w.heap.size, 5, none⟩ = some (.int .i64 q) ∧ w'.cell? ⟨w.heap.size, 3, none⟩ = some (.int .i64 c)) (first | (go_keep; done) | (simp; done)) (first | (go_at_call 80; refine (rsum_any X q _ (by constructor <;> omega)).mono ?_; rw [hin']; rintro e w' ⟨rfl, rfl⟩))
    go_wp2
    exact bodyPost_ret (v := ansV 6 0) (by simp [results, Tryz.results53, go_sem]) rfl ⟨⟨z, hv, dv⟩, rfl, HK.out.below (((((Below.refl _ _).alloc (Nat.le_refl _) _).alloc (by simp) _).alloc (by simp; omega) _).drew), Turned.ofBelow (((((Below.refl _ _).alloc (Nat.le_refl _) _).alloc (by simp) _).alloc (by simp; omega) _).drew), fun k hk => Or.inl hk, rfl⟩

end Go.Proofs.YtdblmheoghhepaaGreatDoor
