/- The document's ledger: 'counts', 'left', 'atp', 'free'. -/
import Derived.Test.YtdblmheoghhepaaGreatDoorKRefLed
namespace Go.Proofs.YtdblmheoghhepaaGreatDoor
open Go.RowKit

set_option maxRecDepth 100000 in
set_option maxHeartbeats 400000 in
theorem rcounts_any (h : Nat → Int) (w : World) : Calls Tryz.prog 91 #[cmdV h] w fun e w' => e = .returned (.bool (countsB h)) ∧ Below w.heap.size w w' := by
  go_enter Tryz.func91, Tryz.ntmps91
  go_wp2
  all_goals go_ret
  all_goals refine ⟨ret_bool ?_, (Below.refl _ _).alloc (Nat.le_refl _) _⟩
  all_goals (unfold countsB; simp_all)

theorem sumL_take {q : (Nat → Int) → Int} {H : List (Nat → Int)} {k : Nat} {x : Nat → Int} (hx : H[k]? = some x) : sumL q (H.take (k + 1)) = sumL q (H.take k) + q x := by
  rw [List.take_add_one, hx]; simp [sumL]

set_option maxRecDepth 100000 in
set_option maxHeartbeats 4000000 in
theorem rleft_any (r : RAdr) (now : Int) (P : Nat → Int) (H D : List (Nat → Int)) (J : List Int) (g d : Nat) (w : World) (h : RAt w r now P H D J) (hl : H.length ≤ 60) (hq : ∀ h ∈ H, 0 ≤ h 4 ∧ h 4 ≤ 1000000) (hg : g < 4) (hd : d < 16) (hP : ∀ k, k < 80 → -1000000000 ≤ P k ∧ P k ≤ 1000000000) :
    Calls Tryz.prog 88 #[.pointer (some ⟨r.q, 0, none⟩), .int .i64 (g : Int), .int .i64 (d : Int)] w fun e w' => e = .returned (.int .i64 (kLeft P H g d)) ∧ Below w.heap.size w w' := by
  obtain ⟨q, hv, dv⟩ := r
  obtain ⟨ha, hcap, hvs⟩ := own_slice h.hrow
  simp only at hvs ⊢
  subst hvs
  have gI : (g : Int) < 4 := by omega
  have hc2 : w.cell? ⟨q, 1 + g, none⟩ = some (.int .i64 (P g)) := h.nums g (by omega)
  have bg := hP g (by omega)
  go_enter Tryz.func88, Tryz.ntmps88
  go_wp2
  go_loopw [7, 8] (fun s i wr => ∃ k : Nat, k ≤ d + 1 ∧ i = .int .i64 k ∧ s = .int .i64 (P g + sumTo (fun k => P (4 + g * 16 + k)) k) ∧ w = wr) (fun _ i _ => d + 1 - (intOf i).toNat)
  case atStart => exact ⟨0, Nat.zero_le _, rfl, by simp [sumTo], rfl⟩
  case round =>
    obtain ⟨k, hk, rfl, rfl, rfl⟩ := hrel
    have b1 := sumTo_bd (fun k => P (4 + g * 16 + k)) 1000000000 k (fun j hj => hP _ (by omega))
    by_cases hlt : k < d + 1
    · have hc3 : w.cell? ⟨q, 5 + g * 16 + k, none⟩ = some (.int .i64 (P (4 + g * 16 + k))) := by
        have := h.nums (4 + g * 16 + k) (by omega)
        rwa [show 1 + (4 + g * 16 + k) = 5 + g * 16 + k by omega] at this
      have b2 := hP (4 + g * 16 + k) (by omega)
      have kI : (k : Int) < 16 := by omega
      have kd : (k : Int) ≤ (d : Int) := by omega
      clear h hP
      go_wp2
      go_roundw
      case rel => exact ⟨k + 1, by omega, by go_num, int_eq (by simp only [sumTo]; omega), trivial⟩
      case measure => simp [intOf]; omega
    · have he : k = d + 1 := by omega
      subst he
      have kd : ¬ ((d + 1 : Nat) : Int) ≤ (d : Int) := by omega
      have KL : Hid (∀ m : Int, m = P g + sumTo (fun k => P (4 + g * 16 + k)) (d + 1) - sumL (leftQ g d) H → m = kLeft P H g d) := fun m hm => by rw [hm]; unfold kLeft; rw [leftQ_eq]
      generalize hB : P g + sumTo (fun k => P (4 + g * 16 + k)) (d + 1) = B0 at *
      have bB : -17000000000 ≤ B0 ∧ B0 ≤ 17000000000 := by omega
      clear hB b1 hc2 hP bg
      go_wp2
      go_loopw [7, 9] (fun s i wr => ∃ k : Nat, k ≤ H.length ∧ i = .int .i64 k ∧ s = .int .i64 (B0 - sumL (leftQ g d) (H.take k)) ∧ Below w.heap.size w wr) (fun _ i _ => H.length - (intOf i).toNat)
      case atStart => exact ⟨0, Nat.zero_le _, rfl, int_eq (by simp [sumL]), Below.refl _ _⟩
      case round =>
        obtain ⟨k, hk, rfl, rfl, hb⟩ := hrel
        have hK := h.below hb
        have hch := hK.ch
        by_cases hlt : k < H.length
        · obtain ⟨x, hx⟩ : ∃ x, H[k]? = some x := ⟨H[k], by simp [hlt]⟩
          obtain ⟨g', cap, eg, hH, _⟩ := hK.row (by omega)
          cases eg
          obtain ⟨c0, c1, c2, c3, c4, c5, c6, c7⟩ := hH.all hx
          have hkI : (k : Int) < (H.length : Int) := by omega
          have hsb := hb.size
          have hq4 := hq x (List.mem_of_getElem? hx)
          have b1 := sumL_bd (leftQ g d) (leftQ_bd g d) (H.take k) (fun h hm => hq h (List.mem_of_mem_take hm))
          have b2 : (H.take k).length ≤ 60 := by simp; omega
          have ST : Hid (sumL (leftQ g d) (H.take (k + 1)) = sumL (leftQ g d) (H.take k) + leftQ g d x) := sumL_take hx
          clear hq hx hH hK h
          generalize hS : sumL (leftQ g d) (H.take k) = s at *
          clear hS
          have bA : Below wr.heap.size wr (wr.alloc (.cells (cmdC x) 57)) := (Below.refl _ _).alloc (Nat.le_refl _) _
          have C1 := CmdAt.new wr x 57
          go_wp2_with fail
          refine (rcounts_any x _).mono ?_
          rintro e w2 ⟨rfl, hb2⟩
          have C2 := C1.below hb2 (by simp)
          obtain ⟨q0, q1, q2, q3, q4, q5, q6, q7⟩ := C2.all
          have B2 : Below w.heap.size w w2 := hb.trans (((bA.trans (hb2.mono (by simp)))).mono hsb)
          clear c0 c1 c2 c3 c4 c5 c6 c7 hb2 bA C1 C2 hb hch
          by_cases e1 : (countsB x && (x 1 == (g : Int) && decide (x 3 ≤ (d : Int)))) = true
          · have Q1 : Hid (leftQ g d x = x 4) := if_pos e1
            simp only [Bool.and_eq_true] at e1
            obtain ⟨p1, p2, p3⟩ := e1
            rw [p1]
            go_wp2
            refine ⟨⟨k + 1, by omega, by go_num, int_eq (by rw [ST.out, Q1.out]; omega), B2⟩, by simp [intOf]; omega⟩
          · have Q0 : Hid (leftQ g d x = 0) := if_neg e1
            have HB : Hid ((countsB x && (x 1 == (g : Int) && decide (x 3 ≤ (d : Int)))) = false) := by show _ = _; simpa using e1
            clear e1
            cases hcb : countsB x with
            | false =>
              go_wp2
              refine ⟨⟨k + 1, by omega, by go_num, int_eq (by rw [ST.out, Q0.out]; omega), B2⟩, by simp [intOf]; omega⟩
            | true =>
              go_wp2
              all_goals
                first
                  | (refine ⟨⟨k + 1, by omega, by go_num, int_eq (by rw [ST.out, Q0.out]; omega), B2⟩, by simp [intOf]; omega⟩; done)
                  | (exfalso
                     have hf := HB.out
                     simp_all <;> omega)
        · have he : k = H.length := by omega
          subst he
          rw [List.take_length]
          go_wp2
          go_ret
          exact ⟨ret_int (KL.out _ rfl), hb⟩

end Go.Proofs.YtdblmheoghhepaaGreatDoor

/- The document's ledger: 'atp', 'free', 'ATP', 'Free'; the program's 'ATP', 'Free' out of bounds. -/
namespace Go.Proofs.YtdblmheoghhepaaGreatDoor
open Go.RowKit

/-- The document's ledger tells S; its last commands are D. -/
abbrev RLed (w : World) (r : RAdr) (S : Led) (D : List (Nat → Int)) : Prop := RAt w r S.now (pofG S.G) S.H D S.J

theorem rleftS_any (r : RAdr) (S : Led) (D : List (Nat → Int)) (g d : Nat) (w : World) (h : RLed w r S D) (hO : LOk S) (hl : S.H.length ≤ 60) (hg : g < 4) (hd : d < 16) :
    Calls Tryz.prog 88 #[.pointer (some ⟨r.q, 0, none⟩), .int .i64 (g : Int), .int .i64 (d : Int)] w fun e w' => e = .returned (.int .i64 (leftS S g d)) ∧ Below w.heap.size w w' := by
  rw [← kLeft_eq S g d hg hd]
  exact rleft_any r S.now (pofG S.G) S.H D S.J g d w h hl (fun x hx => (hO.H x hx).1) hg hd (pofG_bd S.G hO.G)

set_option maxRecDepth 100000 in
set_option maxHeartbeats 2000000 in
theorem ratp_any (r : RAdr) (S : Led) (D : List (Nat → Int)) (g d : Nat) (w : World) (h : RLed w r S D) (hO : LOk S) (hl : S.H.length ≤ 60) (hg : g < 4) (hd : d < 16) :
    Calls Tryz.prog 57 #[.pointer (some ⟨r.q, 0, none⟩), .int .i64 (g : Int), .int .i64 (d : Int)] w fun e w' => e = .returned (.int .i64 (atpS S g d)) ∧ Below w.heap.size w w' := by
  go_enter Tryz.func57, Tryz.ntmps57
  go_wp2_with fail
  refine (rleftS_any r S D g d w h hO hl hg hd).mono ?_
  rintro e w1 ⟨rfl, hb1⟩
  have e0 : Hid (leftS S g d = leastTo (fun k => leftS S g (d + k)) (d + 1 - d)) := by
    show _ = _
    rw [show d + 1 - d = 0 + 1 by omega]
    show _ = min (leftS S g (d + 0)) (leftS S g (d + 0))
    rw [Nat.add_zero]
    omega
  have eN : Hid (leastTo (fun k => leftS S g (d + k)) (16 - d) = atpS S g d) := rfl
  go_wp2
  go_loopw [7, 8] (fun b i wr => ∃ m : Nat, d < m ∧ m ≤ 16 ∧ i = .int .i64 (m : Int) ∧ b = .int .i64 (leastTo (fun k => leftS S g (d + k)) (m - d)) ∧ Below w.heap.size w wr) (fun _ i _ => 16 - (intOf i).toNat)
  case atStart => exact ⟨d + 1, by omega, by omega, by go_num, int_eq e0.out, hb1⟩
  case round =>
    clear hb1 e0
    obtain ⟨m, hm1, hm2, rfl, rfl, hb⟩ := hrel
    have h2 : RLed wr r S D := h.below hb
    have hs := hb.size
    by_cases hlt : m < 16
    · have mI : (m : Int) < 16 := by omega
      have st : leastTo (fun k => leftS S g (d + k)) (m + 1 - d) = min (leastTo (fun k => leftS S g (d + k)) (m - d)) (leftS S g m) := by
        rw [show m + 1 - d = (m - d) + 1 by omega]
        show min _ (leftS S g (d + (m - d))) = _
        rw [show d + (m - d) = m by omega]
      go_wp2_with fail
      refine (rleftS_any r S D g m wr h2 hO hl hg hlt).mono ?_
      rintro e w2 ⟨rfl, hb2⟩
      have B2 : Below w.heap.size w w2 := hb.trans (hb2.mono hs)
      have ST : Hid (leastTo (fun k => leftS S g (d + k)) (m + 1 - d) = min (leastTo (fun k => leftS S g (d + k)) (m - d)) (leftS S g m)) := st
      clear h2 hb hb2 st
      generalize hX : leastTo (fun k => leftS S g (d + k)) (m - d) = X at *
      generalize hY : leftS S g m = Y at *
      clear hX hY
      by_cases hxy : Y < X
      · go_wp2
        go_roundw
        case rel => exact ⟨m + 1, by omega, by omega, by go_num, int_eq (by rw [ST.out]; omega), B2⟩
        case measure => simp [intOf]; omega
      · go_wp2
        go_roundw
        case rel => exact ⟨m + 1, by omega, by omega, by go_num, int_eq (by rw [ST.out]; omega), B2⟩
        case measure => simp [intOf]; omega
    · have he : m = 16 := by omega
      subst he
      go_wp2
      go_ret
      exact ⟨ret_int eN.out, hb⟩

set_option maxRecDepth 100000 in
set_option maxHeartbeats 4000000 in
theorem rfree_any (r : RAdr) (S : Led) (D : List (Nat → Int)) (g c : Nat) (w : World) (h : RLed w r S D) (hO : LOk S) (hl : S.H.length ≤ 60) (hg : g < 4) (hc3 : c < 3) :
    Calls Tryz.prog 59 #[.pointer (some ⟨r.q, 0, none⟩), .int .i64 (g : Int), .int .i64 (c : Int)] w fun e w' => e = .returned (.int .i64 (freeS S g c)) ∧ Below w.heap.size w w' := by
  obtain ⟨q, hv, dv⟩ := r
  obtain ⟨ha, hcap, hvs⟩ := own_slice h.hrow
  simp only at hvs ⊢
  subst hvs
  obtain ⟨now, G, H, A, J⟩ := S
  have hq : ∀ h ∈ H, 0 ≤ h 4 ∧ h 4 ≤ 1000000 := fun x hx => (hO.H x hx).1
  have bP := pofG_bd G hO.G (68 + g * 3 + c) (by omega)
  have FS : Hid (∀ m : Int, m = pofG G (68 + g * 3 + c) - sumL (freeQ g c) H → m = freeS ⟨now, G, H, A, J⟩ g c) := fun m hm => by
    rw [hm, free_ch, pofG_share G g c hg hc3]
    unfold freeS freeV goodG
    simp only
    rw [Nat.add_assoc]
  have gI : (g : Int) < 4 := by omega
  have cI : (c : Int) < 3 := by omega
  replace h : RAt w ⟨q, .slice ha H.length hcap, dv⟩ now (pofG G) H D J := h
  replace hl : H.length ≤ 60 := hl
  have hc2 : w.cell? ⟨q, 69 + g * 3 + c, none⟩ = some (.int .i64 (pofG G (68 + g * 3 + c))) := by
    have := h.nums (68 + g * 3 + c) (by omega)
    rwa [show 1 + (68 + g * 3 + c) = 69 + g * 3 + c by omega] at this
  generalize hB : pofG G (68 + g * 3 + c) = B0 at *
  clear hB
  go_enter Tryz.func59, Tryz.ntmps59
  go_wp2
  go_loopw [7, 8] (fun s i wr => ∃ k : Nat, k ≤ H.length ∧ i = .int .i64 k ∧ s = .int .i64 (B0 - sumL (freeQ g c) (H.take k)) ∧ Below w.heap.size w wr) (fun _ i _ => H.length - (intOf i).toNat)
  case atStart => exact ⟨0, Nat.zero_le _, rfl, int_eq (by simp [sumL]), Below.refl _ _⟩
  case round =>
    obtain ⟨k, hk, rfl, rfl, hb⟩ := hrel
    have hK := h.below hb
    have hch := hK.ch
    by_cases hlt : k < H.length
    · obtain ⟨x, hx⟩ : ∃ x, H[k]? = some x := ⟨H[k], by simp [hlt]⟩
      obtain ⟨g', cap, eg, hH, _⟩ := hK.row (by omega)
      cases eg
      obtain ⟨c0, c1, c2, c3, c4, c5, c6, c7⟩ := hH.all hx
      have hkI : (k : Int) < (H.length : Int) := by omega
      have hsb := hb.size
      have hq4 := hq x (List.mem_of_getElem? hx)
      have b1 := sumL_bd (freeQ g c) (freeQ_bd g c) (H.take k) (fun h hm => hq h (List.mem_of_mem_take hm))
      have b2 : (H.take k).length ≤ 60 := by simp; omega
      have ST : Hid (sumL (freeQ g c) (H.take (k + 1)) = sumL (freeQ g c) (H.take k) + freeQ g c x) := sumL_take hx
      clear hq hx hH hK h
      generalize hS : sumL (freeQ g c) (H.take k) = s at *
      clear hS
      have bA : Below wr.heap.size wr (wr.alloc (.cells (cmdC x) 57)) := (Below.refl _ _).alloc (Nat.le_refl _) _
      have C1 := CmdAt.new wr x 57
      go_wp2_with fail
      refine (rcounts_any x _).mono ?_
      rintro e w2 ⟨rfl, hb2⟩
      have C2 := C1.below hb2 (by simp)
      obtain ⟨q0, q1, q2, q3, q4, q5, q6, q7⟩ := C2.all
      have B2 : Below w.heap.size w w2 := hb.trans (((bA.trans (hb2.mono (by simp)))).mono hsb)
      clear c0 c1 c2 c3 c4 c5 c6 c7 hb2 bA C1 C2 hb hch
      by_cases e1 : (countsB x && (x 1 == (g : Int) && x 2 == (c : Int))) = true
      · have Q1 : Hid (freeQ g c x = x 4) := if_pos e1
        simp only [Bool.and_eq_true] at e1
        obtain ⟨p1, p2, p3⟩ := e1
        rw [p1]
        go_wp2
        refine ⟨⟨k + 1, by omega, by go_num, int_eq (by rw [ST.out, Q1.out]; omega), B2⟩, by simp [intOf]; omega⟩
      · have Q0 : Hid (freeQ g c x = 0) := if_neg e1
        have HB : Hid ((countsB x && (x 1 == (g : Int) && x 2 == (c : Int))) = false) := by show _ = _; simpa using e1
        clear e1
        cases hcb : countsB x with
        | false =>
          go_wp2
          refine ⟨⟨k + 1, by omega, by go_num, int_eq (by rw [ST.out, Q0.out]; omega), B2⟩, by simp [intOf]; omega⟩
        | true =>
          go_wp2
          all_goals
            first
              | (refine ⟨⟨k + 1, by omega, by go_num, int_eq (by rw [ST.out, Q0.out]; omega), B2⟩, by simp [intOf]; omega⟩; done)
              | (exfalso
                 have hf := HB.out
                 simp_all <;> omega)
    · have he : k = H.length := by omega
      subst he
      rw [List.take_length]
      go_wp2
      go_ret
      exact ⟨ret_int (FS.out _ rfl), hb⟩

/-- What 'ATP' and 'Free' answer at any numbers. -/
def atpN (S : Led) (a b : Int) : Int := if 0 ≤ a ∧ a < 4 ∧ 0 ≤ b ∧ b < 16 then atpS S a.toNat b.toNat else 0
def atpX (a b : Int) : Int := if 0 ≤ a ∧ a < 4 ∧ 0 ≤ b ∧ b < 16 then 0 else 1
def freeN (S : Led) (a b : Int) : Int := if 0 ≤ a ∧ a < 4 ∧ 0 ≤ b ∧ b < 3 then freeS S a.toNat b.toNat else 0
def freeX (a b : Int) : Int := if 0 ≤ a ∧ a < 4 ∧ 0 ≤ b ∧ b < 3 then 0 else 1

set_option maxRecDepth 100000 in
set_option maxHeartbeats 1000000 in
theorem rATP_any (r : RAdr) (S : Led) (D : List (Nat → Int)) (a b : Int) (w : World) (h : RLed w r S D) (hO : LOk S) (hl : S.H.length ≤ 60) :
    Calls Tryz.prog 32 #[.pointer (some ⟨r.q, 0, none⟩), .int .i64 a, .int .i64 b] w fun e w' => e = .returned (.tuple #[.int .i64 (atpN S a b), .int .i64 (atpX a b)]) ∧ Below w.heap.size w w' := by
  by_cases hc : 0 ≤ a ∧ a < 4 ∧ 0 ≤ b ∧ b < 16
  · obtain ⟨g, rfl⟩ : ∃ g : Nat, a = (g : Int) := ⟨a.toNat, by omega⟩
    obtain ⟨d, rfl⟩ : ∃ d : Nat, b = (d : Int) := ⟨b.toNat, by omega⟩
    have EN : Hid (atpN S g d = atpS S g d) := by show _ = _; unfold atpN; rw [if_pos hc]; simp
    have EX : Hid (atpX g d = 0) := if_pos hc
    have g4 : (g : Int) < 4 := hc.2.1
    have d16 : (d : Int) < 16 := hc.2.2.2
    clear hc
    go_enter Tryz.func32, Tryz.ntmps32
    go_wp2_with fail
    refine (ratp_any r S D g d w h hO hl (by omega) (by omega)).mono ?_
    rintro e w1 ⟨rfl, hb1⟩
    go_wp2
    go_ret2
    exact ⟨by rw [EN.out, EX.out]; rfl, hb1⟩
  · have EN : Hid (atpN S a b = 0) := if_neg hc
    have EX : Hid (atpX a b = 1) := if_neg hc
    go_enter Tryz.func32, Tryz.ntmps32
    go_wp2_with fail
    all_goals first | (exfalso; omega) | skip
    all_goals go_ret2
    all_goals exact ⟨by rw [EN.out, EX.out]; rfl, Below.refl _ _⟩

set_option maxRecDepth 100000 in
set_option maxHeartbeats 1000000 in
theorem rFree_any (r : RAdr) (S : Led) (D : List (Nat → Int)) (a b : Int) (w : World) (h : RLed w r S D) (hO : LOk S) (hl : S.H.length ≤ 60) :
    Calls Tryz.prog 34 #[.pointer (some ⟨r.q, 0, none⟩), .int .i64 a, .int .i64 b] w fun e w' => e = .returned (.tuple #[.int .i64 (freeN S a b), .int .i64 (freeX a b)]) ∧ Below w.heap.size w w' := by
  by_cases hc : 0 ≤ a ∧ a < 4 ∧ 0 ≤ b ∧ b < 3
  · obtain ⟨g, rfl⟩ : ∃ g : Nat, a = (g : Int) := ⟨a.toNat, by omega⟩
    obtain ⟨d, rfl⟩ : ∃ d : Nat, b = (d : Int) := ⟨b.toNat, by omega⟩
    have EN : Hid (freeN S g d = freeS S g d) := by show _ = _; unfold freeN; rw [if_pos hc]; simp
    have EX : Hid (freeX g d = 0) := if_pos hc
    have g4 : (g : Int) < 4 := hc.2.1
    have d16 : (d : Int) < 3 := hc.2.2.2
    clear hc
    go_enter Tryz.func34, Tryz.ntmps34
    go_wp2_with fail
    refine (rfree_any r S D g d w h hO hl (by omega) (by omega)).mono ?_
    rintro e w1 ⟨rfl, hb1⟩
    go_wp2
    go_ret2
    exact ⟨by rw [EN.out, EX.out]; rfl, hb1⟩
  · have EN : Hid (freeN S a b = 0) := if_neg hc
    have EX : Hid (freeX a b = 1) := if_neg hc
    go_enter Tryz.func34, Tryz.ntmps34
    go_wp2_with fail
    all_goals first | (exfalso; omega) | skip
    all_goals go_ret2
    all_goals exact ⟨by rw [EN.out, EX.out]; rfl, Below.refl _ _⟩

set_option maxRecDepth 100000 in
set_option maxHeartbeats 1000000 in
theorem pATP_any (p : Adr) (S : Led) (a b : Int) (w : World) (h : LedAt w p S) (hO : LOk S) :
    Calls Tryz.prog 31 #[.pointer (some ⟨p.a, 0, none⟩), .int .i64 a, .int .i64 b] w fun e w' => e = .returned (.tuple #[.int .i64 (atpN S a b), .int .i64 (atpX a b)]) ∧ Below w.heap.size w w' := by
  by_cases hc : 0 ≤ a ∧ a < 4 ∧ 0 ≤ b ∧ b < 16
  · obtain ⟨g, rfl⟩ : ∃ g : Nat, a = (g : Int) := ⟨a.toNat, by omega⟩
    obtain ⟨d, rfl⟩ : ∃ d : Nat, b = (d : Int) := ⟨b.toNat, by omega⟩
    have EN : atpN S g d = atpS S g d := by unfold atpN; rw [if_pos hc]; simp
    have EX : atpX g d = 0 := if_pos hc
    rw [EN, EX]
    exact ledATP_any p S g d w h hO (by omega) (by omega)
  · have EN : Hid (atpN S a b = 0) := if_neg hc
    have EX : Hid (atpX a b = 1) := if_neg hc
    by_cases h1 : 0 ≤ a ∧ a < 4
    · have h2 : ¬ (0 ≤ b ∧ b < 16) := fun h2 => hc ⟨h1.1, h1.2, h2.1, h2.2⟩
      have d1 : decide (0 ≤ a ∧ a < 4) = true := decide_eq_true h1
      have d2 : decide (0 ≤ b ∧ b < 16) = false := decide_eq_false h2
      clear hc h1 h2
      go_enter Tryz.func31, Tryz.ntmps31
      go_wp2_with fail
      refine (within_any a 4 _).mono ?_
      rw [d1]
      rintro e w1 ⟨rfl, rfl⟩
      go_wp2_with fail
      refine (within_any b 16 _).mono ?_
      rw [d2]
      rintro e w1 ⟨rfl, rfl⟩
      go_wp2
      go_ret2
      exact ⟨by rw [EN.out, EX.out]; rfl, Below.refl _ _⟩
    · have d1 : decide (0 ≤ a ∧ a < 4) = false := decide_eq_false h1
      clear hc h1
      go_enter Tryz.func31, Tryz.ntmps31
      go_wp2_with fail
      refine (within_any a 4 _).mono ?_
      rw [d1]
      rintro e w1 ⟨rfl, rfl⟩
      go_wp2
      go_ret2
      exact ⟨by rw [EN.out, EX.out]; rfl, Below.refl _ _⟩

set_option maxRecDepth 100000 in
set_option maxHeartbeats 1000000 in
theorem pFree_any (p : Adr) (S : Led) (a b : Int) (w : World) (h : LedAt w p S) (hO : LOk S) :
    Calls Tryz.prog 33 #[.pointer (some ⟨p.a, 0, none⟩), .int .i64 a, .int .i64 b] w fun e w' => e = .returned (.tuple #[.int .i64 (freeN S a b), .int .i64 (freeX a b)]) ∧ Below w.heap.size w w' := by
  by_cases hc : 0 ≤ a ∧ a < 4 ∧ 0 ≤ b ∧ b < 3
  · obtain ⟨g, rfl⟩ : ∃ g : Nat, a = (g : Int) := ⟨a.toNat, by omega⟩
    obtain ⟨d, rfl⟩ : ∃ d : Nat, b = (d : Int) := ⟨b.toNat, by omega⟩
    have EN : freeN S g d = freeS S g d := by unfold freeN; rw [if_pos hc]; simp
    have EX : freeX g d = 0 := if_pos hc
    rw [EN, EX]
    exact ledFree_any p S g d w h hO (by omega) (by omega)
  · have EN : Hid (freeN S a b = 0) := if_neg hc
    have EX : Hid (freeX a b = 1) := if_neg hc
    by_cases h1 : 0 ≤ a ∧ a < 4
    · have h2 : ¬ (0 ≤ b ∧ b < 3) := fun h2 => hc ⟨h1.1, h1.2, h2.1, h2.2⟩
      have d1 : decide (0 ≤ a ∧ a < 4) = true := decide_eq_true h1
      have d2 : decide (0 ≤ b ∧ b < 3) = false := decide_eq_false h2
      clear hc h1 h2
      go_enter Tryz.func33, Tryz.ntmps33
      go_wp2_with fail
      refine (within_any a 4 _).mono ?_
      rw [d1]
      rintro e w1 ⟨rfl, rfl⟩
      go_wp2_with fail
      refine (within_any b 3 _).mono ?_
      rw [d2]
      rintro e w1 ⟨rfl, rfl⟩
      go_wp2
      go_ret2
      exact ⟨by rw [EN.out, EX.out]; rfl, Below.refl _ _⟩
    · have d1 : decide (0 ≤ a ∧ a < 4) = false := decide_eq_false h1
      clear hc h1
      go_enter Tryz.func33, Tryz.ntmps33
      go_wp2_with fail
      refine (within_any a 4 _).mono ?_
      rw [d1]
      rintro e w1 ⟨rfl, rfl⟩
      go_wp2
      go_ret2
      exact ⟨by rw [EN.out, EX.out]; rfl, Below.refl _ _⟩

end Go.Proofs.YtdblmheoghhepaaGreatDoor

/- The document's ledger: 'Some', 'Ages'. -/
namespace Go.Proofs.YtdblmheoghhepaaGreatDoor
open Go.RowKit

set_option maxRecDepth 100000 in
set_option maxHeartbeats 2000000 in
theorem rsome_any (r : RAdr) (S : Led) (D : List (Nat → Int)) (af n : Int) (w : World) (h0 : RLed w r S D) (hl : S.H.length ≤ 60) (hk : HOk S.now S.H) :
    Calls Tryz.prog 61 #[.pointer (some ⟨r.q, 0, none⟩), .int .i64 af, .int .i64 n] w fun e w' => ∃ v, e = .returned v ∧ w'.ownsRow w.heap.size 57 8 v (cutL S.H af n).length ((cutL S.H af n).flatMap hc) ∧ Below w.heap.size w w' := by
  obtain ⟨q, hv, dv⟩ := r
  obtain ⟨ha, hcap, hvs⟩ := own_slice h0.hrow
  simp only at hvs ⊢
  subst hvs
  obtain ⟨now, G, H, A, J⟩ := S
  have h : RAt w ⟨q, .slice ha H.length hcap, dv⟩ now (pofG G) H D J := h0
  replace hl : H.length ≤ 60 := hl
  have hnum : ∀ (k : Nat) x, H[k]? = some x → x 0 = (k : Int) + 1 := hk.num
  obtain ⟨i0, hi, hz0, hz1, hz2⟩ := info_parts info57
  show Calls _ _ _ _ fun e w' => ∃ v, e = .returned v ∧ w'.ownsRow w.heap.size 57 8 v (cutL H af n).length ((cutL H af n).flatMap hc) ∧ Below w.heap.size w w'
  clear h0 hk
  go_enter Tryz.func61, Tryz.ntmps61
  go_wp2
  go_loopw [7, 8] (fun v i wr => ∃ k : Nat, k ≤ H.length ∧ i = .int .i64 (k : Int) ∧ ((someK H af k).length : Int) ≤ max n 0 ∧ wr.ownsRow w.heap.size 57 8 v (someK H af k).length ((someK H af k).flatMap hc) ∧ Below w.heap.size w wr) (fun _ i _ => H.length - (intOf i).toNat)
  case atStart => exact ⟨0, Nat.zero_le _, rfl, by rw [someK_zero]; simp; omega, by rw [someK_zero]; exact World.ownsRow_nil w _ 57 8, Below.refl _ _⟩
  case round =>
    obtain ⟨k, hk, rfl, hm, hown, hb⟩ := hrel
    have hK := h.below hb
    have hch := hK.ch
    obtain ⟨vx, vc, ev⟩ := own_slice hown
    subst ev
    have hsk := someK_len H af k hk
    have hzb := hb.size
    by_cases hlt : k < H.length
    · by_cases hn : ((someK H af k).length : Int) < n
      · obtain ⟨x, hx⟩ : ∃ x, H[k]? = some x := ⟨H[k], by simp [hlt]⟩
        obtain ⟨g', cap, eg, hH, hg', _⟩ := hK.row (by omega)
        cases eg
        obtain ⟨c0, c1, c2, c3, c4, c5, c6, c7⟩ := hH.all hx
        have hx0 := hnum k x hx
        have hkI : (k : Int) < (H.length : Int) := by omega
        by_cases hgt : af < x 0
        · have SK : Hid (someK H af (k + 1) = someK H af k ++ [x]) := someK_yes hx (by omega)
          have hge := own_ge hown
          have hl2 : (someK H af k).length ≤ 60 := by omega
          clear hx hH hK hx0 hnum h hsk
          go_wp2_with (at_builtin; refine wpList_append_own _ rfl (.tmp 34) (.tmp 42) 50 rfl w.heap.size 57 i0 (cmdV zeroH) 8 64 Tryz.underlying50 hi hz0 hz1 hz2 rfl (by decide) _ _ _ rfl (hown.alloc (.cells (cmdC x) 57)) ⟨wr.heap.size, 0, none⟩ 1 1 (hc x) rfl rfl (cells8_new0 _ _) (cells8_one x) (by unfold maxLen; omega) (by omega) (by simp; omega) ?_)
          intro v' w5 hown5 hgrow5 _
          have R5 : Below w.heap.size wr w5 := ((Below.refl w.heap.size wr).alloc (by omega) _).grown hgrow5 (by simp; omega) hge
          have O5 : w5.ownsRow w.heap.size 57 8 v' (someK H af (k + 1)).length ((someK H af (k + 1)).flatMap hc) := by
            rw [SK.out]
            simpa using hown5
          have b5 := hb.trans R5
          clear hown5 hgrow5 hge hown
          go_wp2
          go_roundw
          case rel => exact ⟨k + 1, by omega, by go_num, by rw [SK.out]; simp; omega, O5, b5⟩
          case measure => simp [intOf]; omega
        · have SK : Hid (someK H af (k + 1) = someK H af k) := someK_no hlt (by omega)
          clear hx hH hK hx0 hnum h hsk
          go_wp2_with fail
          go_roundw
          case rel => exact ⟨k + 1, by omega, by go_num, by rw [SK.out]; exact hm, by rw [SK.out]; exact hown, hb⟩
          case measure => simp [intOf]; omega
      · have e := someK_full H af n k hk (by omega)
        have hkI : (k : Int) < (H.length : Int) := by omega
        have E : Hid (someK H af k = cutL H af n) := e
        clear e hK h hsk
        go_wp2
        go_ret
        exact ⟨_, rfl, by rw [← E.out]; exact hown, hb⟩
    · have he : k = H.length := by omega
      subst he
      have E : Hid (someK H af H.length = cutL H af n) := someK_all H af n hm
      clear hK h hsk
      go_wp2
      go_ret
      exact ⟨_, rfl, by rw [← E.out]; exact hown, hb⟩

theorem ages_take (H : List (Nat → Int)) (now b : Int) (k : Nat) (x : Nat → Int) (hx : H[k]? = some x) : ages (H.take (k + 1)) now b = ages (H.take k) now b + (if ageP now b x = true then 1 else 0) := by
  unfold ages
  rw [List.take_add_one, hx, Option.toList_some, List.countP_append, List.countP_singleton]
theorem ages_bd (H : List (Nat → Int)) (now b : Int) (k : Nat) : ages (H.take k) now b ≤ H.length := by
  unfold ages
  exact Nat.le_trans List.countP_le_length (by simp; omega)

theorem Ages3.inc {w : World} {b : Nat} {A A' : Int → Nat} (h : Ages3 w b A) (j : Nat) (hj : j < 3) (e : ∀ i : Nat, i < 3 → A' (i : Int) = if i = j then A (i : Int) + 1 else A (i : Int)) : Ages3 (w.setCell ⟨b, j, none⟩ (.int .i64 ((A (j : Int) : Int) + 1))) b A' := by
  obtain ⟨⟨a0, a1, a2⟩, f⟩ := h
  have c : ∀ i : Nat, i < 3 → (w.setCell ⟨b, j, none⟩ (.int .i64 ((A (j : Int) : Int) + 1))).cell? ⟨b, i, none⟩ = some (.int .i64 (A' (i : Int) : Nat)) := fun i hi => by
    have ai : w.cell? ⟨b, i, none⟩ = some (.int .i64 (A (i : Int) : Nat)) := by
      have hc : i = 0 ∨ i = 1 ∨ i = 2 := by omega
      rcases hc with rfl | rfl | rfl
      · exact a0
      · exact a1
      · exact a2
    rw [e i hi]
    by_cases h : i = j
    · subst h
      rw [World.cell?_setCell_same _ _ _ ai, if_pos rfl]
      simp
    · rw [World.cell?_setCell_other _ _ _ _ (off_ne (by omega)), if_neg h]
      exact ai
  exact ⟨⟨c 0 (by omega), c 1 (by omega), c 2 (by omega)⟩, fun j => by rw [World.frozen?_setCell]; exact f j⟩

set_option maxRecDepth 100000 in
set_option maxHeartbeats 4000000 in
theorem rages_any (r : RAdr) (S : Led) (D : List (Nat → Int)) (w : World) (h0 : RLed w r S D) (hO : LOk S) (hl : S.H.length ≤ 60) :
    Calls Tryz.prog 37 #[.pointer (some ⟨r.q, 0, none⟩)] w fun e w' => e = .returned (.agg #[.int .i64 (ages S.H S.now 0 : Nat), .int .i64 (ages S.H S.now 1 : Nat), .int .i64 (ages S.H S.now 2 : Nat)]) ∧ Below w.heap.size w w' := by
  obtain ⟨q, hv, dv⟩ := r
  obtain ⟨ha, hcap, hvs⟩ := own_slice h0.hrow
  simp only at hvs ⊢
  subst hvs
  obtain ⟨now, G, H, A, J⟩ := S
  have h : RAt w ⟨q, .slice ha H.length hcap, dv⟩ now (pofG G) H D J := h0
  replace hl : H.length ≤ 60 := hl
  have hnow : 0 ≤ now ∧ now ≤ 1000000 := hO.now
  have hm : ∀ x ∈ H, 0 ≤ x 5 ∧ x 5 ≤ 1000000 := fun x hx => (hO.H x hx).2.1
  show Calls _ _ _ _ fun e w' => e = .returned (.agg #[.int .i64 (ages H now 0 : Nat), .int .i64 (ages H now 1 : Nat), .int .i64 (ages H now 2 : Nat)]) ∧ Below w.heap.size w w'
  clear h0 hO
  have hql : q < w.heap.size := h.q_lt
  go_enter Tryz.func37, Tryz.ntmps37
  go_wp2
  have G0 : Below w.heap.size w ((w.alloc (.cells #[.int .i64 0, .int .i64 0, .int .i64 0] 48)).alloc (.cells #[.int .i64 0, .int .i64 0, .int .i64 0] 48)) := ((Below.refl _ _).alloc (Nat.le_refl _) _).alloc (by simp) _
  have A0 : Ages3 ((w.alloc (.cells #[.int .i64 0, .int .i64 0, .int .i64 0] 48)).alloc (.cells #[.int .i64 0, .int .i64 0, .int .i64 0] 48)) w.heap.size (fun _ => 0) := by
    refine ⟨⟨?_, ?_, ?_⟩, fun j => ?_⟩
    · rw [World.cell?_alloc_past _ _ _ (by simp), World.cell?_alloc_new]; rfl
    · rw [World.cell?_alloc_past _ _ _ (by simp), World.cell?_alloc_new]; rfl
    · rw [World.cell?_alloc_past _ _ _ (by simp), World.cell?_alloc_new]; rfl
    · exact (World.frozen?_of_block (Below.heap_alloc _ _ _ (by simp))).trans (free_new w _ 48 j)
  have A1 : Ages3 ((w.alloc (.cells #[.int .i64 0, .int .i64 0, .int .i64 0] 48)).alloc (.cells #[.int .i64 0, .int .i64 0, .int .i64 0] 48)) (w.heap.size + 1) (fun b => ages (H.take 0) now b) := by
    refine ⟨⟨?_, ?_, ?_⟩, fun j => ?_⟩
    · rw [World.cell?_alloc2_new]; rfl
    · rw [World.cell?_alloc2_new]; rfl
    · rw [World.cell?_alloc2_new]; rfl
    · simp
  go_loopw [4] (fun i wr => ∃ k : Nat, k ≤ H.length ∧ i = .int .i64 (k : Int) ∧ Ages3 wr w.heap.size (fun _ => 0) ∧ Ages3 wr (w.heap.size + 1) (fun b => ages (H.take k) now b) ∧ Below w.heap.size w wr ∧ w.heap.size + 2 ≤ wr.heap.size) (fun i _ => H.length - (intOf i).toNat)
  case atStart => exact ⟨0, Nat.zero_le _, rfl, A0, A1, G0, by simp⟩
  case round =>
    clear A0 A1 G0
    obtain ⟨k, hk, rfl, A0, A1, hb, hz⟩ := hrel
    have hK := h.below hb
    have hch := hK.ch
    have hc0 := hK.c0
    by_cases hlt : k < H.length
    · obtain ⟨x, hx⟩ : ∃ x, H[k]? = some x := ⟨H[k], by simp [hlt]⟩
      obtain ⟨g', cap, eg, hH, hg', _⟩ := hK.row (by omega)
      cases eg
      obtain ⟨c0, c1, c2, c3, c4, c5, c6, c7⟩ := hH.all hx
      have hkI : (k : Int) < (H.length : Int) := by omega
      have hx5 := hm x (List.mem_of_getElem? hx)
      have tk := fun b => ages_take H now b k x hx
      have TK : Hid (∀ b, ages (H.take (k + 1)) now b = ages (H.take k) now b + (if ageP now b x = true then 1 else 0)) := tk
      have l0 := ages_bd H now 0 k
      have l1 := ages_bd H now 1 k
      have l2 := ages_bd H now 2 k
      clear tk hx hH hK h
      have A1' := A1
      obtain ⟨⟨a0, a1, a2⟩, f⟩ := A1'
      have f0 := f 0
      have f1 := f 1
      have f2 := f 2
      by_cases h7 : x 7 = 1
      · have c7' : wr.cell? ⟨g', k * 8 + 1 + 1 + 1 + 1 + 1 + 1 + 1, none⟩ = some (.int .i64 1) := by rw [← h7]; exact c7
        by_cases e1 : now - x 5 < 10
        · have E : Hid (∀ b, ageP now b x = (b == 0)) := fun b => by
            show (x 7 == 1 && bandOf (now - x 5) == b) = _
            unfold bandOf
            rw [if_pos e1, h7, Bool.eq_iff_iff]; simp; exact eq_comm
          have A2 := (A1.same (w' := wr.drew) rfl).inc (A' := fun b => ages (H.take (k + 1)) now b) 0 (by omega) (fun i hi => by
            show ages (H.take (k + 1)) now (i : Int) = _
            rw [TK.out, E.out]
            have hc : i = 0 ∨ i = 1 ∨ i = 2 := by omega
            rcases hc with rfl | rfl | rfl <;> simp)
          have A3 : Ages3 (wr.drew.setCell ⟨w.heap.size + 1, 0, none⟩ (.int .i64 ((ages (H.take k) now ((0 : Nat) : Int) : Int) + 1))) w.heap.size (fun _ => 0) := (A0.same (w' := wr.drew) rfl).same (Below.heap_setCell _ _ _ _ (by simp))
          have B2 := hb.drew.setCell (p := ⟨w.heap.size + 1, 0, none⟩) (Nat.le_succ _) (.int .i64 ((ages (H.take k) now ((0 : Nat) : Int) : Int) + 1))
          clear A0 A1 c7
          go_wp2
          go_region
          go_wp2
          go_roundw
          case rel => exact ⟨k + 1, by omega, by go_num, A3, A2, B2, by simpa using hz⟩
          case measure => simp [intOf]; omega
        · by_cases e2 : now - x 5 < 100
          · have E : Hid (∀ b, ageP now b x = (b == 1)) := fun b => by
              show (x 7 == 1 && bandOf (now - x 5) == b) = _
              unfold bandOf
              rw [if_neg e1, if_pos e2, h7, Bool.eq_iff_iff]; simp; exact eq_comm
            have A2 := (A1.same (w' := wr.drew) rfl).inc (A' := fun b => ages (H.take (k + 1)) now b) 1 (by omega) (fun i hi => by
              show ages (H.take (k + 1)) now (i : Int) = _
              rw [TK.out, E.out]
              have hc : i = 0 ∨ i = 1 ∨ i = 2 := by omega
              rcases hc with rfl | rfl | rfl <;> simp)
            have A3 : Ages3 (wr.drew.setCell ⟨w.heap.size + 1, 1, none⟩ (.int .i64 ((ages (H.take k) now ((1 : Nat) : Int) : Int) + 1))) w.heap.size (fun _ => 0) := (A0.same (w' := wr.drew) rfl).same (Below.heap_setCell _ _ _ _ (by simp))
            have B2 := hb.drew.setCell (p := ⟨w.heap.size + 1, 1, none⟩) (Nat.le_succ _) (.int .i64 ((ages (H.take k) now ((1 : Nat) : Int) : Int) + 1))
            clear A0 A1 c7
            go_wp2
            go_region
            go_wp2
            go_roundw
            case rel => exact ⟨k + 1, by omega, by go_num, A3, A2, B2, by simpa using hz⟩
            case measure => simp [intOf]; omega
          · have E : Hid (∀ b, ageP now b x = (b == 2)) := fun b => by
              show (x 7 == 1 && bandOf (now - x 5) == b) = _
              unfold bandOf
              rw [if_neg e1, if_neg e2, h7, Bool.eq_iff_iff]; simp; exact eq_comm
            have A2 := (A1.same (w' := wr.drew) rfl).inc (A' := fun b => ages (H.take (k + 1)) now b) 2 (by omega) (fun i hi => by
              show ages (H.take (k + 1)) now (i : Int) = _
              rw [TK.out, E.out]
              have hc : i = 0 ∨ i = 1 ∨ i = 2 := by omega
              rcases hc with rfl | rfl | rfl <;> simp)
            have A3 : Ages3 (wr.drew.setCell ⟨w.heap.size + 1, 2, none⟩ (.int .i64 ((ages (H.take k) now ((2 : Nat) : Int) : Int) + 1))) w.heap.size (fun _ => 0) := (A0.same (w' := wr.drew) rfl).same (Below.heap_setCell _ _ _ _ (by simp))
            have B2 := hb.drew.setCell (p := ⟨w.heap.size + 1, 2, none⟩) (Nat.le_succ _) (.int .i64 ((ages (H.take k) now ((2 : Nat) : Int) : Int) + 1))
            clear A0 A1 c7
            go_wp2
            go_region
            go_wp2
            go_roundw
            case rel => exact ⟨k + 1, by omega, by go_num, A3, A2, B2, by simpa using hz⟩
            case measure => simp [intOf]; omega
      · have E : Hid (∀ b, ageP now b x = false) := fun b => by
          show (x 7 == 1 && _) = _
          simp [h7]
        have h7' : (x 7 == 1) = false := by simpa using h7
        have A2 : Ages3 wr (w.heap.size + 1) (fun b => ages (H.take (k + 1)) now b) := by
          have e : (fun b => ages (H.take (k + 1)) now b) = fun b => ages (H.take k) now b := by
            funext b
            rw [TK.out, E.out]
            simp
          rw [e]
          exact A1
        clear A1
        go_wp2
        go_roundw
        case rel => exact ⟨k + 1, by omega, by go_num, A0, A2, hb, hz⟩
        case measure => simp [intOf]; omega
    · have he : k = H.length := by omega
      subst he
      rw [List.take_length] at A1
      obtain ⟨⟨a0, a1, a2⟩, f⟩ := A1
      obtain ⟨⟨r0, r1, r2⟩, fr⟩ := A0
      have fr0 := fr 0
      have fr1 := fr 1
      have fr2 := fr 2
      clear f fr hK h
      go_wp2
      exact bodyPost_ret (v := .agg #[.int .i64 (ages H now 0 : Nat), .int .i64 (ages H now 1 : Nat), .int .i64 (ages H now 2 : Nat)]) (by simp [results, Tryz.results37, go_sem, r0, r1, r2]) rfl ⟨rfl, (((hb.setCell (p := ⟨w.heap.size, 0, none⟩) (Nat.le_refl _) _).setCell (p := ⟨w.heap.size, 1, none⟩) (Nat.le_refl _) _).setCell (p := ⟨w.heap.size, 2, none⟩) (Nat.le_refl _) _)⟩

end Go.Proofs.YtdblmheoghhepaaGreatDoor
