/- The document's 'Frame' (package larderref). -/
import Derived.Test.YtdblmheoghhepaaGreatDoorKRef
import Derived.Deep.RegionHeld3
namespace Go.Proofs.YtdblmheoghhepaaGreatDoor
open Go.RowKit

def lowL (b : Bool) (n : Int) (m : Nat) : List Int := if b then bytesOf n m else []
theorem lowL_len (b : Bool) (n : Int) (m : Nat) : (lowL b n m).length ≤ m := by
  unfold lowL; split
  · rw [bytesOf_length]; exact Nat.le_refl _
  · simp
theorem low_any (b : Bool) (n : Int) (m : Nat) (w : World) (hm : m ≤ 4) (h : b = true → 0 ≤ n ∧ n ≤ 4294967296) :
    Calls Tryz.prog 48 #[.bool b, .int .i64 n, .int .i64 (m : Int)] w fun e w' => e = .returned (.string (strOfNums (lowL b n m))) ∧ Below w.heap.size w w' := by
  cases b with
  | false => exact low_no n m w
  | true => exact low_yes n m w (h rfl).1 (h rfl).2 hm

theorem str_add (xs ys : List Int) : strOfNums xs ++ strOfNums ys = strOfNums (xs ++ ys) := by
  apply ByteArray.ext
  simp [strOfNums, ByteArray.data_append]

theorem refFrame_no (f : Nat → Int) (w : World) (hr : refOk f = false) :
    Calls Tryz.prog 26 #[cmdV f] w fun e w' => e = .returned (.tuple #[.string (strOfNums []), .int .i64 1]) ∧ Below w.heap.size w w' := by
  have hE : refE f = 1 := by simp [refE, hr]
  go_enter Tryz.func26, Tryz.ntmps26
  go_wp2_with fail
  refine (refRight_any f _).mono ?_
  rintro e w1 ⟨rfl, hb⟩
  rw [hE]
  go_wp2
  go_ret2
  exact ⟨rfl, ((Below.refl _ _).alloc (Nat.le_refl _) _).trans (hb.mono (by simp))⟩

/-- The number that stands in a frame for Quantity. -/
def qOf (f : Nat → Int) : Int := if f 0 == 7 then f 5 + 2147483648 else f 5

theorem refOk_parts (f : Nat → Int) (h : refOk f = true) : 1 ≤ f 0 ∧ f 0 ≤ 8 ∧ 0 ≤ f 1 ∧ f 1 ≤ 2147483647 ∧ (needG (f 0) = true → 0 ≤ f 2 ∧ f 2 ≤ 4294967296) ∧ (needC (f 0) = true → 0 ≤ f 3 ∧ f 3 ≤ 4294967296) ∧ (needD (f 0) = true → 0 ≤ f 4 ∧ f 4 ≤ 4294967296) ∧
    (needQ (f 0) = true → 0 ≤ qOf f ∧ qOf f ≤ 4294967296) ∧ (needH (f 0) = true → 0 ≤ f 6 ∧ f 6 ≤ 4294967296) ∧ (needT (f 0) = true → 0 ≤ f 7 ∧ f 7 ≤ 4294967296) := by
  unfold refOk at h
  simp only [Bool.and_eq_true, decide_eq_true_eq] at h
  obtain ⟨⟨⟨⟨a, b⟩, c⟩, d⟩, ⟨⟨⟨⟨⟨e, g⟩, i⟩, j⟩, k⟩, l⟩, m⟩ := h
  refine ⟨a, b, c, d, ?_, ?_, ?_, ?_, ?_, ?_⟩ <;> intro hn
  · simp [fitsB, hn] at e; omega
  · simp [fitsB, hn] at g; omega
  · simp [fitsB, hn] at i; omega
  · simp [fitsB, hn] at j
    unfold qOf
    by_cases h7 : f 0 = 7 <;> simp [h7] at j ⊢ <;> omega
  · simp [fitsB, hn] at k; omega
  · simp [fitsB, hn] at l; omega

theorem low1 (b : Bool) (n : Int) (w : World) (h : b = true → 0 ≤ n ∧ n ≤ 4294967296) :
    Calls Tryz.prog 48 #[.bool b, .int .i64 n, .int .i64 1] w fun e w' => e = .returned (.string (strOfNums (lowL b n 1))) ∧ Below w.heap.size w w' := low_any b n 1 w (by omega) h
theorem low2 (b : Bool) (n : Int) (w : World) (h : b = true → 0 ≤ n ∧ n ≤ 4294967296) :
    Calls Tryz.prog 48 #[.bool b, .int .i64 n, .int .i64 2] w fun e w' => e = .returned (.string (strOfNums (lowL b n 2))) ∧ Below w.heap.size w w' := low_any b n 2 w (by omega) h
theorem low4 (b : Bool) (n : Int) (w : World) (h : b = true → 0 ≤ n ∧ n ≤ 4294967296) :
    Calls Tryz.prog 48 #[.bool b, .int .i64 n, .int .i64 4] w fun e w' => e = .returned (.string (strOfNums (lowL b n 4))) ∧ Below w.heap.size w w' := low_any b n 4 w (by omega) h

/- THE FRAME's PIECES, one behind the other. -/
theorem add_run (w : World) (xs ys zs : List Int) (hz : zs = xs ++ ys) (h : xs.length + ys.length ≤ 1000) : (Op.stringOp .add (strOfNums xs) (strOfNums ys)).run Tryz.prog w = .ok (.string (strOfNums zs)) w := by
  rw [run_string_add_sum w _ _ (by rw [strOfNums_size, strOfNums_size]; omega), str_add, hz]
def fr1 (f : Nat → Int) : List Int := lowL true (f 0) 1 ++ lowL true (f 1) 4
def fr2 (f : Nat → Int) : List Int := fr1 f ++ lowL (needG (f 0)) (f 2) 1
def fr3 (f : Nat → Int) : List Int := fr2 f ++ lowL (needC (f 0)) (f 3) 1
def fr4 (f : Nat → Int) : List Int := fr3 f ++ lowL (needD (f 0)) (f 4) 1
def fr5 (f : Nat → Int) (q : Int) : List Int := fr4 f ++ lowL (needQ (f 0)) q 4
def fr6 (f : Nat → Int) (q : Int) : List Int := fr5 f q ++ lowL (needH (f 0)) (f 6) 4
def fr7 (f : Nat → Int) (q : Int) : List Int := fr6 f q ++ lowL (needT (f 0)) (f 7) 2
def fr8 (f : Nat → Int) (q : Int) : List Int := lowL true ((fr7 f q).length : Int) 1 ++ fr7 f q
theorem fr1_len (f : Nat → Int) : (fr1 f).length ≤ 5 := by have := lowL_len true (f 0) 1; have := lowL_len true (f 1) 4; simp [fr1]; omega
theorem fr2_len (f : Nat → Int) : (fr2 f).length ≤ 6 := by have := fr1_len f; have := lowL_len (needG (f 0)) (f 2) 1; simp [fr2]; omega
theorem fr3_len (f : Nat → Int) : (fr3 f).length ≤ 7 := by have := fr2_len f; have := lowL_len (needC (f 0)) (f 3) 1; simp [fr3]; omega
theorem fr4_len (f : Nat → Int) : (fr4 f).length ≤ 8 := by have := fr3_len f; have := lowL_len (needD (f 0)) (f 4) 1; simp [fr4]; omega
theorem fr5_len (f : Nat → Int) (q : Int) : (fr5 f q).length ≤ 12 := by have := fr4_len f; have := lowL_len (needQ (f 0)) q 4; simp [fr5]; omega
theorem fr6_len (f : Nat → Int) (q : Int) : (fr6 f q).length ≤ 16 := by have := fr5_len f q; have := lowL_len (needH (f 0)) (f 6) 4; simp [fr6]; omega
theorem fr7_len (f : Nat → Int) (q : Int) : (fr7 f q).length ≤ 18 := by have := fr6_len f q; have := lowL_len (needT (f 0)) (f 7) 2; simp [fr7]; omega
theorem refOk_seven (f : Nat → Int) (h : refOk f = true) (h7 : f 0 = 7) : -1000000 ≤ f 5 ∧ f 5 ≤ 1000000 := by
  unfold refOk at h
  simp only [Bool.and_eq_true, decide_eq_true_eq] at h
  obtain ⟨⟨⟨⟨a, b⟩, c⟩, d⟩, ⟨⟨⟨⟨⟨e, g⟩, i⟩, j⟩, k⟩, l⟩, m⟩ := h
  have hn : needQ 7 = true := rfl
  simp [fitsB, hn, h7] at j
  exact j

set_option maxRecDepth 100000 in
set_option maxHeartbeats 2000000 in
theorem refFrame_yes (f : Nat → Int) (w : World) (hr : refOk f = true) :
    Calls Tryz.prog 26 #[cmdV f] w fun e w' => e = .returned (.tuple #[.string (strOfNums (fr8 f (qOf f))), .int .i64 0]) ∧ Below w.heap.size w w' := by
  have hE : refE f = 0 := by simp [refE, hr]
  obtain ⟨q1, q2, q3, q4, qG, qC, qD, qQ, qH, qT⟩ := refOk_parts f hr
  cases h7 : f 0 == 7 with
  | false =>
    have hqq : qOf f = f 5 := by simp [qOf, h7]
    rw [hqq] at qQ
    have HQ : Hid (qOf f = f 5) := hqq
    have a1 := fun w => add_run w (lowL true (f 0) 1) (lowL true (f 1) 4) (fr1 f) rfl (by have := lowL_len true (f 0) 1; have := lowL_len true (f 1) 4; omega)
    have a2 := fun w => add_run w (fr1 f) (lowL (needG (f 0)) (f 2) 1) (fr2 f) rfl (by have := fr1_len f; have := lowL_len (needG (f 0)) (f 2) 1; omega)
    have a3 := fun w => add_run w (fr2 f) (lowL (needC (f 0)) (f 3) 1) (fr3 f) rfl (by have := fr2_len f; have := lowL_len (needC (f 0)) (f 3) 1; omega)
    have a4 := fun w => add_run w (fr3 f) (lowL (needD (f 0)) (f 4) 1) (fr4 f) rfl (by have := fr3_len f; have := lowL_len (needD (f 0)) (f 4) 1; omega)
    have a5 := fun w => add_run w (fr4 f) (lowL (needQ (f 0)) (f 5) 4) (fr5 f (f 5)) rfl (by have := fr4_len f; have := lowL_len (needQ (f 0)) (f 5) 4; omega)
    have a6 := fun w => add_run w (fr5 f (f 5)) (lowL (needH (f 0)) (f 6) 4) (fr6 f (f 5)) rfl (by have := fr5_len f (f 5); have := lowL_len (needH (f 0)) (f 6) 4; omega)
    have a7 := fun w => add_run w (fr6 f (f 5)) (lowL (needT (f 0)) (f 7) 2) (fr7 f (f 5)) rfl (by have := fr6_len f (f 5); have := lowL_len (needT (f 0)) (f 7) 2; omega)
    have l7 := fr7_len f (f 5)
    have hsz7 : (strOfNums (fr7 f (f 5))).size = (fr7 f (f 5)).length := strOfNums_size _
    have a8 := fun w => add_run w (lowL true ((fr7 f (f 5)).length : Int) 1) (fr7 f (f 5)) (fr8 f (f 5)) rfl (by have := lowL_len true ((fr7 f (f 5)).length : Int) 1; omega)
    clear hqq hr
    go_enter Tryz.func26, Tryz.ntmps26
    go_wp2_with fail
    refine (refRight_any f _).mono ?_
    rintro e w1 ⟨rfl, hb1⟩
    rw [hE]
    have hs1 := hb1.size
    simp only [World.size_alloc] at hs1
    have z1 : w.heap.size < w1.heap.size := by omega
    have hC1 := (CmdAt.new w f 33).below hb1 (by simp)
    have hB1 : Below w.heap.size w w1 := ((Below.refl _ _).alloc (Nat.le_refl _) _).trans (hb1.mono (by simp))
    obtain ⟨c0, c1, c2, c3, c4, c5, c6, c7⟩ := hC1.all
    clear hb1 hE
    go_wp2_with (first | (go_at_call 45; refine (refNeeds_any (f 0) _).mono ?_; rintro e w' ⟨rfl, rfl⟩))
    go_region_held3 (fun w' => w'.cell? ⟨w.heap.size, 0, none⟩ = some (.int .i64 (f 0)) ∧ w'.cell? ⟨w.heap.size, 1, none⟩ = some (.int .i64 (f 1))) (first | (go_keep; done) | (simp; done)) (first | (go_at_call_of 48 (Value.int IntKind.i64 1); refine (low1 _ _ _ ?_).mono ?_; (intro _; omega); rintro e wa ⟨rfl, ha⟩; have hB' : Below (w.heap.size + 1) w1 wa := (by refine Below.trans ?_ (ha.mono ?_); (first | assumption | exact (Below.refl _ _).drew | (refine Below.drew ?_; assumption)); (have := ha.size; (try simp); omega)); obtain ⟨c0, c1, c2, c3, c4, c5, c6, c7⟩ := (hC1.below hB' (by omega)).all; have za : w.heap.size < wa.heap.size := (by have := hB'.size; omega)) | (go_at_call_of 48 (Value.int IntKind.i64 4); refine (low4 _ _ _ ?_).mono ?_; (intro _; omega); rintro e wa ⟨rfl, ha⟩; have hB' : Below (w.heap.size + 1) w1 wa := (by refine Below.trans ?_ (ha.mono ?_); (first | assumption | exact (Below.refl _ _).drew | (refine Below.drew ?_; assumption)); (have := ha.size; (try simp); omega)); obtain ⟨c0, c1, c2, c3, c4, c5, c6, c7⟩ := (hC1.below hB' (by omega)).all; have za : w.heap.size < wa.heap.size := (by have := hB'.size; omega)))
    go_wp2
    go_region_held3 (fun w' => w'.cell? ⟨w.heap.size, 2, none⟩ = some (.int .i64 (f 2)) ∧ w'.cell? ⟨w.heap.size, 3, none⟩ = some (.int .i64 (f 3)) ∧ w'.cell? ⟨w.heap.size, 4, none⟩ = some (.int .i64 (f 4))) (first | (go_keep; done) | (simp; done)) (first | (go_at_call_of 48 (Value.int IntKind.i64 1); refine (low1 _ _ _ ?_).mono ?_; (first | exact qG | exact qC | exact qD); rintro e wa ⟨rfl, ha⟩; have hB' : Below (w.heap.size + 1) w1 wa := (by refine Below.trans ?_ (ha.mono ?_); (first | assumption | exact (Below.refl _ _).drew | (refine Below.drew ?_; assumption)); (have := ha.size; (try simp); omega)); obtain ⟨c0, c1, c2, c3, c4, c5, c6, c7⟩ := (hC1.below hB' (by omega)).all; have za : w.heap.size < wa.heap.size := (by have := hB'.size; omega)))
    go_wp2
    go_region_held3 (fun w' => w'.cell? ⟨w.heap.size, 6, none⟩ = some (.int .i64 (f 6)) ∧ w'.cell? ⟨w.heap.size, 7, none⟩ = some (.int .i64 (f 7))) (first | (go_keep; done) | (simp; done)) (first | (go_at_call_of 48 (Value.int IntKind.i64 4); refine (low4 _ _ _ ?_).mono ?_; (first | exact qQ | exact qH | exact qT); rintro e wa ⟨rfl, ha⟩; have hB' : Below (w.heap.size + 1) w1 wa := (by refine Below.trans ?_ (ha.mono ?_); (first | assumption | exact (Below.refl _ _).drew | (refine Below.drew ?_; assumption)); (have := ha.size; (try simp); omega)); obtain ⟨c0, c1, c2, c3, c4, c5, c6, c7⟩ := (hC1.below hB' (by omega)).all; have za : w.heap.size < wa.heap.size := (by have := hB'.size; omega)) | (go_at_call_of 48 (Value.int IntKind.i64 2); refine (low2 _ _ _ ?_).mono ?_; (first | exact qQ | exact qH | exact qT); rintro e wa ⟨rfl, ha⟩; have hB' : Below (w.heap.size + 1) w1 wa := (by refine Below.trans ?_ (ha.mono ?_); (first | assumption | exact (Below.refl _ _).drew | (refine Below.drew ?_; assumption)); (have := ha.size; (try simp); omega)); obtain ⟨c0, c1, c2, c3, c4, c5, c6, c7⟩ := (hC1.below hB' (by omega)).all; have za : w.heap.size < wa.heap.size := (by have := hB'.size; omega)))
    have hBa := hB1.trans (hB'.mono (by omega))
    have hza := hB'.size
    go_wp2_with fail
    refine (low1 true _ _ ?_).mono ?_
    · intro _; omega
    rintro e w9 ⟨rfl, h9⟩
    have hBz := hBa.trans (h9.mono (by omega))
    clear h9 hBa hC1 hB1
    go_wp2
    go_ret2
    exact ⟨by rw [HQ.out]; rfl, hBz⟩
  | true =>
    have hqq : qOf f = f 5 + 2147483648 := by simp [qOf, h7]
    rw [hqq] at qQ
    have HQ : Hid (qOf f = f 5 + 2147483648) := hqq
    have q5 := refOk_seven f hr (by simpa using h7)
    have a1 := fun w => add_run w (lowL true (f 0) 1) (lowL true (f 1) 4) (fr1 f) rfl (by have := lowL_len true (f 0) 1; have := lowL_len true (f 1) 4; omega)
    have a2 := fun w => add_run w (fr1 f) (lowL (needG (f 0)) (f 2) 1) (fr2 f) rfl (by have := fr1_len f; have := lowL_len (needG (f 0)) (f 2) 1; omega)
    have a3 := fun w => add_run w (fr2 f) (lowL (needC (f 0)) (f 3) 1) (fr3 f) rfl (by have := fr2_len f; have := lowL_len (needC (f 0)) (f 3) 1; omega)
    have a4 := fun w => add_run w (fr3 f) (lowL (needD (f 0)) (f 4) 1) (fr4 f) rfl (by have := fr3_len f; have := lowL_len (needD (f 0)) (f 4) 1; omega)
    have a5 := fun w => add_run w (fr4 f) (lowL (needQ (f 0)) (f 5 + 2147483648) 4) (fr5 f (f 5 + 2147483648)) rfl (by have := fr4_len f; have := lowL_len (needQ (f 0)) (f 5 + 2147483648) 4; omega)
    have a6 := fun w => add_run w (fr5 f (f 5 + 2147483648)) (lowL (needH (f 0)) (f 6) 4) (fr6 f (f 5 + 2147483648)) rfl (by have := fr5_len f (f 5 + 2147483648); have := lowL_len (needH (f 0)) (f 6) 4; omega)
    have a7 := fun w => add_run w (fr6 f (f 5 + 2147483648)) (lowL (needT (f 0)) (f 7) 2) (fr7 f (f 5 + 2147483648)) rfl (by have := fr6_len f (f 5 + 2147483648); have := lowL_len (needT (f 0)) (f 7) 2; omega)
    have l7 := fr7_len f (f 5 + 2147483648)
    have hsz7 : (strOfNums (fr7 f (f 5 + 2147483648))).size = (fr7 f (f 5 + 2147483648)).length := strOfNums_size _
    have a8 := fun w => add_run w (lowL true ((fr7 f (f 5 + 2147483648)).length : Int) 1) (fr7 f (f 5 + 2147483648)) (fr8 f (f 5 + 2147483648)) rfl (by have := lowL_len true ((fr7 f (f 5 + 2147483648)).length : Int) 1; omega)
    clear hqq hr
    go_enter Tryz.func26, Tryz.ntmps26
    go_wp2_with fail
    refine (refRight_any f _).mono ?_
    rintro e w1 ⟨rfl, hb1⟩
    rw [hE]
    have hs1 := hb1.size
    simp only [World.size_alloc] at hs1
    have z1 : w.heap.size < w1.heap.size := by omega
    have hC1 := (CmdAt.new w f 33).below hb1 (by simp)
    have hB1 : Below w.heap.size w w1 := ((Below.refl _ _).alloc (Nat.le_refl _) _).trans (hb1.mono (by simp))
    obtain ⟨c0, c1, c2, c3, c4, c5, c6, c7⟩ := hC1.all
    clear hb1 hE
    go_wp2_with (first | (go_at_call 45; refine (refNeeds_any (f 0) _).mono ?_; rintro e w' ⟨rfl, rfl⟩))
    go_region_held3 (fun w' => w'.cell? ⟨w.heap.size, 0, none⟩ = some (.int .i64 (f 0)) ∧ w'.cell? ⟨w.heap.size, 1, none⟩ = some (.int .i64 (f 1))) (first | (go_keep; done) | (simp; done)) (first | (go_at_call_of 48 (Value.int IntKind.i64 1); refine (low1 _ _ _ ?_).mono ?_; (intro _; omega); rintro e wa ⟨rfl, ha⟩; have hB' : Below (w.heap.size + 1) w1 wa := (by refine Below.trans ?_ (ha.mono ?_); (first | assumption | exact (Below.refl _ _).drew | (refine Below.drew ?_; assumption)); (have := ha.size; (try simp); omega)); obtain ⟨c0, c1, c2, c3, c4, c5, c6, c7⟩ := (hC1.below hB' (by omega)).all; have za : w.heap.size < wa.heap.size := (by have := hB'.size; omega)) | (go_at_call_of 48 (Value.int IntKind.i64 4); refine (low4 _ _ _ ?_).mono ?_; (intro _; omega); rintro e wa ⟨rfl, ha⟩; have hB' : Below (w.heap.size + 1) w1 wa := (by refine Below.trans ?_ (ha.mono ?_); (first | assumption | exact (Below.refl _ _).drew | (refine Below.drew ?_; assumption)); (have := ha.size; (try simp); omega)); obtain ⟨c0, c1, c2, c3, c4, c5, c6, c7⟩ := (hC1.below hB' (by omega)).all; have za : w.heap.size < wa.heap.size := (by have := hB'.size; omega)))
    go_wp2
    go_region_held3 (fun w' => w'.cell? ⟨w.heap.size, 2, none⟩ = some (.int .i64 (f 2)) ∧ w'.cell? ⟨w.heap.size, 3, none⟩ = some (.int .i64 (f 3)) ∧ w'.cell? ⟨w.heap.size, 4, none⟩ = some (.int .i64 (f 4))) (first | (go_keep; done) | (simp; done)) (first | (go_at_call_of 48 (Value.int IntKind.i64 1); refine (low1 _ _ _ ?_).mono ?_; (first | exact qG | exact qC | exact qD); rintro e wa ⟨rfl, ha⟩; have hB' : Below (w.heap.size + 1) w1 wa := (by refine Below.trans ?_ (ha.mono ?_); (first | assumption | exact (Below.refl _ _).drew | (refine Below.drew ?_; assumption)); (have := ha.size; (try simp); omega)); obtain ⟨c0, c1, c2, c3, c4, c5, c6, c7⟩ := (hC1.below hB' (by omega)).all; have za : w.heap.size < wa.heap.size := (by have := hB'.size; omega)))
    go_wp2
    go_region_held3 (fun w' => w'.cell? ⟨w.heap.size, 6, none⟩ = some (.int .i64 (f 6)) ∧ w'.cell? ⟨w.heap.size, 7, none⟩ = some (.int .i64 (f 7))) (first | (go_keep; done) | (simp; done)) (first | (go_at_call_of 48 (Value.int IntKind.i64 4); refine (low4 _ _ _ ?_).mono ?_; (first | exact qQ | exact qH | exact qT); rintro e wa ⟨rfl, ha⟩; have hB' : Below (w.heap.size + 1) w1 wa := (by refine Below.trans ?_ (ha.mono ?_); (first | assumption | exact (Below.refl _ _).drew | (refine Below.drew ?_; assumption)); (have := ha.size; (try simp); omega)); obtain ⟨c0, c1, c2, c3, c4, c5, c6, c7⟩ := (hC1.below hB' (by omega)).all; have za : w.heap.size < wa.heap.size := (by have := hB'.size; omega)) | (go_at_call_of 48 (Value.int IntKind.i64 2); refine (low2 _ _ _ ?_).mono ?_; (first | exact qQ | exact qH | exact qT); rintro e wa ⟨rfl, ha⟩; have hB' : Below (w.heap.size + 1) w1 wa := (by refine Below.trans ?_ (ha.mono ?_); (first | assumption | exact (Below.refl _ _).drew | (refine Below.drew ?_; assumption)); (have := ha.size; (try simp); omega)); obtain ⟨c0, c1, c2, c3, c4, c5, c6, c7⟩ := (hC1.below hB' (by omega)).all; have za : w.heap.size < wa.heap.size := (by have := hB'.size; omega)))
    have hBa := hB1.trans (hB'.mono (by omega))
    have hza := hB'.size
    go_wp2_with fail
    refine (low1 true _ _ ?_).mono ?_
    · intro _; omega
    rintro e w9 ⟨rfl, h9⟩
    have hBz := hBa.trans (h9.mono (by omega))
    clear h9 hBa hC1 hB1
    go_wp2
    go_ret2
    exact ⟨by rw [HQ.out]; rfl, hBz⟩


end Go.Proofs.YtdblmheoghhepaaGreatDoor
