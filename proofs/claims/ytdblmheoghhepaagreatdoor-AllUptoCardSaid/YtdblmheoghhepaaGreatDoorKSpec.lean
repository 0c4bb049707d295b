/- What a ledger answers, as plain data; 'decide' at every right command. -/
import Derived.Test.YtdblmheoghhepaaGreatDoorKLedgerAll
import Derived.Test.YtdblmheoghhepaaGreatDoorKPureAll
namespace Go.Proofs.YtdblmheoghhepaaGreatDoor
open Go.RowKit

/-- A right command. -/
def RightC (f : Nat → Int) : Prop := refOk f = true
theorem rightC_of (f : Nat → Int) (h : refOk f = true) : RightC f := h

/-- The eight kinds of right commands. -/
theorem RightC.kinds {f : Nat → Int} {motive : RightC f → Prop} (hR : RightC f)
    (receive : ∀ (g : Nat), g < 4 → f 0 = 1 → f 2 = g → f 3 = 0 → f 4 = 0 → 1 ≤ f 5 ∧ f 5 ≤ 1000000 → f 6 = 0 → f 7 = 0 → motive hR)
    (adjust : ∀ (g : Nat), g < 4 → f 0 = 7 → f 2 = g → f 3 = 0 → f 4 = 0 → -1000000 ≤ f 5 ∧ f 5 ≤ 1000000 → f 6 = 0 → f 7 = 0 → motive hR)
    (plan : ∀ (g d : Nat), g < 4 → d < 16 → f 0 = 2 → f 2 = g → f 3 = 0 → f 4 = d → 1 ≤ f 5 ∧ f 5 ≤ 1000000 → f 6 = 0 → f 7 = 0 → motive hR)
    (allot : ∀ (g c : Nat), g < 4 → c < 3 → f 0 = 3 → f 2 = g → f 3 = c → f 4 = 0 → 1 ≤ f 5 ∧ f 5 ≤ 1000000 → f 6 = 0 → f 7 = 0 → motive hR)
    (promise : ∀ (g c d : Nat), g < 4 → c < 3 → d < 16 → f 0 = 4 → f 2 = g → f 3 = c → f 4 = d → 1 ≤ f 5 ∧ f 5 ≤ 1000000 → f 6 = 0 → 1 ≤ f 7 ∧ f 7 ≤ 1000 → motive hR)
    (commit : f 0 = 5 → f 2 = 0 → f 3 = 0 → f 4 = 0 → f 5 = 0 → 1 ≤ f 6 ∧ f 6 ≤ 4294967295 → f 7 = 0 → motive hR)
    (release : f 0 = 6 → f 2 = 0 → f 3 = 0 → f 4 = 0 → f 5 = 0 → 1 ≤ f 6 ∧ f 6 ≤ 4294967295 → f 7 = 0 → motive hR)
    (tick : f 0 = 8 → f 2 = 0 → f 3 = 0 → f 4 = 0 → f 5 = 0 → f 6 = 0 → 1 ≤ f 7 ∧ f 7 ≤ 1000 → motive hR) : motive hR := by
  have h : refOk f = true := hR
  have hk := refOk_kind f h
  have hc : f 0 = 1 ∨ f 0 = 2 ∨ f 0 = 3 ∨ f 0 = 4 ∨ f 0 = 5 ∨ f 0 = 6 ∨ f 0 = 7 ∨ f 0 = 8 := by omega
  rcases hc with e | e | e | e | e | e | e | e <;> simp [refOk, fitsB, needG, needC, needD, needQ, needH, needT, e] at h
  · exact receive (f 2).toNat (by omega) e (by omega) (by omega) (by omega) (by omega) (by omega) (by omega)
  · exact plan (f 2).toNat (f 4).toNat (by omega) (by omega) e (by omega) (by omega) (by omega) (by omega) (by omega) (by omega)
  · exact allot (f 2).toNat (f 3).toNat (by omega) (by omega) e (by omega) (by omega) (by omega) (by omega) (by omega) (by omega)
  · exact promise (f 2).toNat (f 3).toNat (f 4).toNat (by omega) (by omega) (by omega) e (by omega) (by omega) (by omega) (by omega) (by omega) (by omega)
  · exact commit e (by omega) (by omega) (by omega) (by omega) (by omega) (by omega)
  · exact release e (by omega) (by omega) (by omega) (by omega) (by omega) (by omega)
  · exact adjust (f 2).toNat (by omega) e (by omega) (by omega) (by omega) (by omega) (by omega) (by omega)
  · exact tick e (by omega) (by omega) (by omega) (by omega) (by omega) (by omega)

/-- What is decided: the ledger then, the error, the hold's number. -/
structure Dec where
  S : Led
  E : Int
  N : Int
def moveD (S : Led) (i : Nat) (q : Int) : Dec := ⟨moveS S i q, moveE (S.G i + q), 0⟩
def closeD (S : Led) (o s : Int) : Dec := if (openOf S.H o).isSome = true then ⟨{ S with H := closeAt S.H (o - 1).toNat s }, 0, 0⟩ else ⟨S, 5, 0⟩
def promiseD (S : Led) (g c d : Nat) (q t : Int) : Dec := if mayE S g c d q = 0 then ⟨{ S with H := S.H ++ [newH S g c d q t] }, 0, (S.H.length : Int) + 1⟩ else ⟨S, mayE S g c d q, 0⟩
def tickD (S : Led) (t : Int) : Dec := if S.now + t > 1000000 then ⟨S, 7, 0⟩ else ⟨{ S with now := S.now + t, H := expL (S.now + t) S.H }, 0, 0⟩
def dec (S : Led) (f : Nat → Int) : Dec :=
  if f 0 = 1 ∨ f 0 = 7 then moveD S ((f 2).toNat * 20) (f 5)
  else if f 0 = 2 then moveD S ((f 2).toNat * 20 + 1 + (f 4).toNat) (f 5)
  else if f 0 = 3 then moveD S ((f 2).toNat * 20 + 17 + (f 3).toNat) (f 5)
  else if f 0 = 4 then promiseD S (f 2).toNat (f 3).toNat (f 4).toNat (f 5) (f 7)
  else if f 0 = 5 then closeD S (f 6) 2
  else if f 0 = 6 then closeD S (f 6) 3
  else tickD S (f 7)

theorem decide_any (p : Adr) (S : Led) (f : Nat → Int) (w : World) (h : LedAt w p S) (hO : LOk S) (hr : RightC f) :
    Calls Tryz.prog 51 #[.pointer (some ⟨p.a, 0, none⟩), cmdV f] w (Decided w p (dec S f).S (dec S f).E (dec S f).N) := by
  have hfp : ∀ k, p.foot k → k < w.heap.size := fun k hk => h.foot_lt hk
  cases hr using RightC.kinds with
  | receive g hg e0 e2 e3 e4 q e6 e7 =>
    have e : dec S f = moveD S (g * 20) (f 5) := by simp [dec, e0, e2]
    have ec : cmdV f = cv 1 (f 1) g 0 0 (f 5) 0 0 := by simp [cmdV, e0, e2, e3, e4, e6, e7]
    rw [e, ec]
    exact dec1 p S (f 1) (f 5) w h hO g hg (by omega) hfp
  | adjust g hg e0 e2 e3 e4 q e6 e7 =>
    have e : dec S f = moveD S (g * 20) (f 5) := by simp [dec, e0, e2]
    have ec : cmdV f = cv 7 (f 1) g 0 0 (f 5) 0 0 := by simp [cmdV, e0, e2, e3, e4, e6, e7]
    rw [e, ec]
    exact dec7 p S (f 1) (f 5) w h hO g hg (by omega) hfp
  | plan g d hg hd e0 e2 e3 e4 q e6 e7 =>
    have e : dec S f = moveD S (g * 20 + 1 + d) (f 5) := by simp [dec, e0, e2, e4]
    have ec : cmdV f = cv 2 (f 1) g 0 d (f 5) 0 0 := by simp [cmdV, e0, e2, e3, e4, e6, e7]
    rw [e, ec]
    exact dec2 p S (f 1) (f 5) w h hO g d hg hd (by omega) hfp
  | allot g c hg hc e0 e2 e3 e4 q e6 e7 =>
    have e : dec S f = moveD S (g * 20 + 17 + c) (f 5) := by simp [dec, e0, e2, e3]
    have ec : cmdV f = cv 3 (f 1) g c 0 (f 5) 0 0 := by simp [cmdV, e0, e2, e3, e4, e6, e7]
    rw [e, ec]
    exact dec3 p S (f 1) (f 5) w h hO g c hg hc (by omega) hfp
  | promise g c d hg hc hd e0 e2 e3 e4 q e6 t =>
    have e : dec S f = promiseD S g c d (f 5) (f 7) := by simp [dec, e0, e2, e3, e4]
    have ec : cmdV f = cv 4 (f 1) g c d (f 5) 0 (f 7) := by simp [cmdV, e0, e2, e3, e4, e6]
    rw [e, ec]
    unfold promiseD
    split
    · rename_i hm
      exact dec4_yes p S (f 1) (f 5) (f 7) w h hO g c d hg hc hd (by omega) hm hfp
    · rename_i hm
      exact dec4_no p S (f 1) (f 5) (f 7) w h hO g c d hg hc hd hm hfp
  | commit e0 e2 e3 e4 e5 o e7 =>
    have e : dec S f = closeD S (f 6) 2 := by simp [dec, e0]
    have ec : cmdV f = cv 5 (f 1) 0 0 0 0 (f 6) 0 := by simp [cmdV, e0, e2, e3, e4, e5, e7]
    rw [e, ec]
    unfold closeD
    split
    · rename_i hm
      obtain ⟨x, hx⟩ := Option.isSome_iff_exists.1 hm
      obtain ⟨x1, xk, x7⟩ := of_open hx
      exact dec5_yes p S (f 1) (f 6) w h (f 6 - 1).toNat (by omega) x xk x7 hfp
    · rename_i hm
      exact dec5_no p S (f 1) (f 6) w h (by constructor <;> omega) (by simpa using hm) hfp
  | release e0 e2 e3 e4 e5 o e7 =>
    have e : dec S f = closeD S (f 6) 3 := by simp [dec, e0]
    have ec : cmdV f = cv 6 (f 1) 0 0 0 0 (f 6) 0 := by simp [cmdV, e0, e2, e3, e4, e5, e7]
    rw [e, ec]
    unfold closeD
    split
    · rename_i hm
      obtain ⟨x, hx⟩ := Option.isSome_iff_exists.1 hm
      obtain ⟨x1, xk, x7⟩ := of_open hx
      exact dec6_yes p S (f 1) (f 6) w h (f 6 - 1).toNat (by omega) x xk x7 hfp
    · rename_i hm
      exact dec6_no p S (f 1) (f 6) w h (by constructor <;> omega) (by simpa using hm) hfp
  | tick e0 e2 e3 e4 e5 e6 t =>
    have e : dec S f = tickD S (f 7) := by simp [dec, e0]
    have ec : cmdV f = cv 8 (f 1) 0 0 0 0 0 (f 7) := by simp [cmdV, e0, e2, e3, e4, e5, e6]
    rw [e, ec]
    unfold tickD
    split
    · rename_i hm
      exact dec8_no p S (f 1) (f 7) w h hO (by omega) hm hfp
    · rename_i hm
      exact dec8_yes p S (f 1) (f 7) w h hO (by omega) hm hfp

/-- Where nothing is accepted nothing turns. -/
theorem dec_err (S : Led) (f : Nat → Int) (h : (dec S f).E ≠ 0) : (dec S f).S = S := by
  have hm : ∀ i q, (moveD S i q).E ≠ 0 → (moveD S i q).S = S := fun i q h => by
    unfold moveD moveE at h
    unfold moveD moveS
    split at h
    · exact absurd rfl h
    · rename_i hx; simp [hx]
  have hc : ∀ o s, (closeD S o s).E ≠ 0 → (closeD S o s).S = S := fun o s h => by
    unfold closeD at h ⊢
    split at h
    · exact absurd rfl h
    · rename_i hx; simp [hx]
  unfold dec at h ⊢
  split
  · rename_i e; rw [if_pos e] at h; exact hm _ _ h
  · rename_i e; rw [if_neg e] at h
    split
    · rename_i e; rw [if_pos e] at h; exact hm _ _ h
    · rename_i e; rw [if_neg e] at h
      split
      · rename_i e; rw [if_pos e] at h; exact hm _ _ h
      · rename_i e; rw [if_neg e] at h
        split
        · rename_i e; rw [if_pos e] at h
          unfold promiseD at h ⊢
          split at h
          · exact absurd rfl h
          · rename_i hx; simp [hx]
        · rename_i e; rw [if_neg e] at h
          split
          · rename_i e; rw [if_pos e] at h; exact hc _ _ h
          · rename_i e; rw [if_neg e] at h
            split
            · rename_i e; rw [if_pos e] at h; exact hc _ _ h
            · rename_i e; rw [if_neg e] at h
              unfold tickD at h ⊢
              split at h
              · rename_i hx; simp [hx]
              · exact absurd rfl h

theorem lok_move {S : Led} (h : LOk S) (i : Nat) (q : Int) : LOk (moveS S i q) := by
  unfold moveS
  split
  · rename_i hx
    refine ⟨h.now, fun k hk => ?_, h.H, h.rows⟩
    show _ ≤ updG S.G i _ k ∧ updG S.G i _ k ≤ _
    unfold updG
    split
    · simpa [inStock] using hx
    · exact h.G k hk
  · exact h
theorem setSt_at (h : Nat → Int) (s : Int) (j : Nat) (hj : j ≠ 7) : setSt h s j = h j := by simp [setSt, hj]
theorem lok_dec {S : Led} (h : LOk S) (f : Nat → Int) (hr : RightC f) : LOk (dec S f).S := by
  have hset : ∀ x s, x ∈ S.H → (0 ≤ setSt x s 4 ∧ setSt x s 4 ≤ 1000000) ∧ (0 ≤ setSt x s 5 ∧ setSt x s 5 ≤ 1000000) ∧ (0 ≤ setSt x s 6 ∧ setSt x s 6 ≤ 1001000) := fun x s hx => by
    rw [setSt_at _ _ 4 (by omega), setSt_at _ _ 5 (by omega), setSt_at _ _ 6 (by omega)]
    exact h.H x hx
  have hcl : ∀ o s, LOk (closeD S o s).S := fun o s => by
    unfold closeD
    split
    · refine ⟨h.now, h.G, fun x hx => ?_, h.rows⟩
      simp only [closeAt] at hx
      obtain ⟨j, hj⟩ := List.getElem?_of_mem hx
      rw [List.getElem?_modify] at hj
      cases e : S.H[j]? with
      | none => rw [e] at hj; cases hj
      | some y =>
        rw [e] at hj
        have hy := List.mem_of_getElem? e
        simp at hj
        subst hj
        split
        · exact hset y s hy
        · exact h.H y hy
    · exact h
  cases hr using RightC.kinds with
  | receive g hg e0 e2 e3 e4 q e6 e7 => simp only [dec, e0, true_or, if_true]; exact lok_move h _ _
  | adjust g hg e0 e2 e3 e4 q e6 e7 => simp only [dec, e0, or_true, if_true]; exact lok_move h _ _
  | plan g d hg hd e0 e2 e3 e4 q e6 e7 => simp [dec, e0]; exact lok_move h _ _
  | allot g c hg hc e0 e2 e3 e4 q e6 e7 => simp [dec, e0]; exact lok_move h _ _
  | promise g c d hg hc hd e0 e2 e3 e4 q e6 t =>
    have e : dec S f = promiseD S g c d (f 5) (f 7) := by simp [dec, e0, e2, e3, e4]
    rw [e]
    unfold promiseD
    split
    · refine ⟨h.now, h.G, fun x hx => ?_, h.rows⟩
      rcases List.mem_append.1 hx with hx | hx
      · exact h.H x hx
      · simp at hx
        subst hx
        have := h.now
        simp [newH, asOpen, eight]
        omega
    · exact h
  | commit e0 e2 e3 e4 e5 o e7 => simp [dec, e0]; exact hcl _ _
  | release e0 e2 e3 e4 e5 o e7 => simp [dec, e0]; exact hcl _ _
  | tick e0 e2 e3 e4 e5 e6 t =>
    have e : dec S f = tickD S (f 7) := by simp [dec, e0]
    rw [e]
    unfold tickD
    split
    · exact h
    · rename_i hx
      have := h.now
      refine ⟨by show 0 ≤ S.now + f 7 ∧ S.now + f 7 ≤ 1000000; omega, h.G, fun x hx => ?_, h.rows⟩
      simp only [expL, List.mem_map] at hx
      obtain ⟨y, hy, rfl⟩ := hx
      unfold exp1
      split
      · exact hset y 4 hy
      · exact h.H y hy

end Go.Proofs.YtdblmheoghhepaaGreatDoor
