/- 'Covered' walked. -/
import Derived.Test.YtdblmheoghhepaaDoorKCoveredPure
import Derived.BigRegion
import Derived.Deep.Cut
import Derived.Deep.DeepCutAuto
namespace Go.Proofs.YtdblmheoghhepaaDoor
open Go.RowKit

theorem right_range {F : Nat → Int} (h : refOk F = true) : ∃ g c d : Nat, F 2 = (g : Int) ∧ g < 4 ∧ F 3 = (c : Int) ∧ c < 3 ∧ F 4 = (d : Int) ∧ d < 16 := by
  cases (rightC_of F h) using RightC.kinds with
  | receive g hg e0 e2 e3 e4 q e6 e7 => exact ⟨g, 0, 0, e2, hg, e3, by omega, e4, by omega⟩
  | adjust g hg e0 e2 e3 e4 q e6 e7 => exact ⟨g, 0, 0, e2, hg, e3, by omega, e4, by omega⟩
  | plan g d hg hd e0 e2 e3 e4 q e6 e7 => exact ⟨g, 0, d, e2, hg, e3, by omega, e4, hd⟩
  | allot g c hg hc e0 e2 e3 e4 q e6 e7 => exact ⟨g, c, 0, e2, hg, e3, hc, e4, by omega⟩
  | promise g c d hg hc hd e0 e2 e3 e4 q e6 t => exact ⟨g, c, d, e2, hg, e3, hc, e4, hd⟩
  | commit e0 e2 e3 e4 e5 o e7 => exact ⟨0, 0, 0, e2, by omega, e3, by omega, e4, by omega⟩
  | release e0 e2 e3 e4 e5 o e7 => exact ⟨0, 0, 0, e2, by omega, e3, by omega, e4, by omega⟩
  | tick e0 e2 e3 e4 e5 e6 t => exact ⟨0, 0, 0, e2, by omega, e3, by omega, e4, by omega⟩

set_option maxRecDepth 100000 in
set_option maxHeartbeats 16000000 in
theorem covered_any (x : Option Addr) (cp : Nat) (L : List (Nat → Int)) (w : World) (hT : TabW w) (hR : RawIs w x L) (hl : L.length ≤ 1048575) :
    Calls Tryd.prog 6 #[.slice x L.length cp] w fun e w' => e = .returned (.bool true) ∧ Below w.heap.size w w' := by
  go_enter Tryd.func6, Tryd.ntmps6
  go_wp2_with fail
  refine (opened_run w hT).mono ?_
  rintro e w1 ⟨p, a, b, rfl, R⟩
  go_wp2
  go_loopw [4] (fun i wr => ∃ (k : Nat) (p : Adr) (hv : Value) (S : Led), k ≤ L.length ∧ i = .int .i64 (k : Int) ∧ Run w wr p a b hv S k ∧ Cov S) (fun i _ => L.length - (intOf i).toNat)
  case atStart => exact ⟨0, p, _, _, Nat.zero_le _, rfl, R, cov_zero⟩
  case round =>
    clear R
    obtain ⟨k, p, hv, S, hk, rfl, R, CV⟩ := hrel
    have hB := R.live.below
    by_cases hlt : k < L.length
    · obtain ⟨f, hf⟩ : ∃ f, L[k]? = some f := ⟨L[k], by simp [hlt]⟩
      obtain ⟨g, o, rfl, hg, hbd, c0, c1, c2, c3, c4, c5, c6, c7⟩ := (hR.below hB (Nat.le_refl _)).at hf
      have kI : (k : Int) < (L.length : Int) := by omega
      clear hf hR hT
      go_wp2_with fail
      refine (command_at f k _ hbd (by omega)).mono ?_
      rintro e w2 ⟨F, rfl, HF, hb2⟩
      have R2 := R.below hb2
      have b3 : Below w2.heap.size w2 (w2.alloc (.cells (cmdC F) 23)) := (Below.refl _ _).alloc (Nat.le_refl _) _
      have R3 := R2.below b3
      have hbl := R2.book.b_lt
      have hc3 := R3.book.c0
      have C3 := CmdAt.new w2 F 23
      obtain ⟨q0, q1, q2, q3, q4, q5, q6, q7⟩ := C3.all
      have nck : ¬ KFoot b hv w2.heap.size := fun e => by have := R2.book.lt e; omega
      have ncf : ¬ p.foot w2.heap.size := fun e => by have := R2.live.led.foot_lt e; omega
      obtain ⟨G, Cn, Dy, e2, hG, e3, hCn, e4, hDy⟩ := right_range HF.out.1
      have CV' : ¬ (F 0 = 7 ∧ F 5 < 0) → Cov (doD S F).S := fun h => cov_do CV R3.live.ok h
      obtain ⟨hvx, hvc, ehv⟩ := R3.book.slice
      have h82 := R3.book.ch
      rw [ehv] at h82
      have z3 : w2.heap.size < (w2.alloc (.cells (cmdC F) 23)).heap.size := by simp
      clear R R2 c0 c1 c2 c3 c4 c5 c6 c7 hbd hb2 b3 hB
      have HE : Hid (F 2 = (G : Int) ∧ F 3 = (Cn : Int) ∧ F 4 = (Dy : Int)) := ⟨e2, e3, e4⟩
      clear e2 e3 e4
      go_upto_region 8 with fail
      obtain ⟨w3, ew3⟩ : ∃ w3, w3 = w2.alloc (.cells (cmdC F) 23) := ⟨_, rfl⟩
      rw [← ew3] at R3 hc3 C3 h82 z3 q0 q1 q2 q3 q4 q5 q6 q7
      rw [← ew3]
      clear ew3
      have e2 : F 2 = (G : Int) := HE.out.1
      have e3 : F 3 = (Cn : Int) := HE.out.2.1
      have e4 : F 4 = (Dy : Int) := HE.out.2.2
      by_cases hneg : F 0 = 7 ∧ F 5 < 0
      · obtain ⟨h7, h5⟩ := hneg
        go_wp2
        go_roundw
        case rel => exact ⟨k + 1, p, hv, S, by omega, by go_num, R3.skip, CV⟩
        case measure => simp [intOf]; omega
      · have CV2 := CV' hneg
        go_cut [42] (fun s wx => s = .bool false ∧ w3 = wx)
        case first =>
          by_cases h7 : F 0 = 7
          · have h5 : ¬ F 5 < 0 := fun h => hneg ⟨h7, h⟩
            clear hneg
            go_wp2_with fail
            go_meet
            exact ⟨rfl, rfl⟩
          · clear hneg
            go_wp2_with fail
            go_meet
            exact ⟨rfl, rfl⟩
        case rest =>
          obtain ⟨rfl, rfl⟩ := hcut
          have HP : Hid (F 0 = 4 → ((dec S F).E = 0 ↔ (¬ 60 ≤ S.H.length ∧ F 5 ≤ freeS S G Cn ∧ F 5 ≤ atpS S G Dy))) := fun h44 => by
            have := promise_iff (S := S) (f := F) h44
            rw [e2, e3, e4] at this
            simp only [Int.toNat_natCast] at this
            exact this
          clear hneg CV'
          go_wp2
          have kk2 : w3.cell? ⟨w2.heap.size, 2, none⟩ = some (.int .i64 (G : Int)) := by rw [q2, e2]
          have kk3 : w3.cell? ⟨w2.heap.size, 3, none⟩ = some (.int .i64 (Cn : Int)) := by rw [q3, e3]
          have GI : (G : Int) < 4 := by omega
          have CI : (Cn : Int) < 3 := by omega
          have DI : (Dy : Int) < 16 := by omega
          have cs3 : w3.cell? ⟨b, 70 + G * 3 + Cn, none⟩ = some (.int .i64 (pofG S.G (68 + G * 3 + Cn))) := by
            have := R3.book.nums (68 + G * 3 + Cn) (by omega)
            rwa [show 2 + (68 + G * 3 + Cn) = 70 + G * 3 + Cn by omega] at this
          have bP := pofG_bd S.G R3.live.ok.G (68 + G * 3 + Cn) (by omega)
          have bS := sumL_bd (keepQ G 15 Cn) (keepQ_bd G 15 Cn) S.H (fun x hx => (R3.live.ok.H x hx).1)
          have bl60 := R3.live.led.book.len
          have FE : Hid (freeS S G Cn = pofG S.G (68 + G * 3 + Cn) - sumL (keepQ G 15 Cn) S.H) := freeS_eq S G Cn hG hCn R3.hok.day
          generalize hX : pofG S.G (68 + G * 3 + Cn) = X at *
          generalize hY : sumL (keepQ G 15 Cn) S.H = Y at *
          have hW : IntKind.i64.wrap (X - Y) = X - Y := w64i _ (by omega)
          have HY : Hid (sumL (keepQ G 15 Cn) S.H = Y) := hY
          have D3 := R3.duo
          have D4 := D3.below (w' := w3.drew) (Below.refl _ _).drew
          have bl3 := R3.book.b_lt
          clear q0 q1 q2 q3 q4 q5 q6 q7 hX hY bP bS e2 e3 e4
          go_region_held3 (fun w' => w'.cell? ⟨b, 70 + G * 3 + Cn, none⟩ = some (.int .i64 X) ∧ w'.cell? ⟨w2.heap.size, 2, none⟩ = some (.int .i64 (G : Int)) ∧ w'.cell? ⟨w2.heap.size, 3, none⟩ = some (.int .i64 (Cn : Int))) (first | (go_keep; done) | (simp; done)) (first | (go_at_call 20; refine (duo_counts _ D4 G Cn).mono ?_; rw [HY.out]; rintro e wA ⟨rfl, hbA⟩; have csA : wA.cell? ⟨b, 70 + G * 3 + Cn, none⟩ = some (.int .i64 X) := (hbA.cell (p := ⟨b, 70 + G * 3 + Cn, none⟩) bl3).trans cs3; have kA2 : wA.cell? ⟨w2.heap.size, 2, none⟩ = some (.int .i64 (G : Int)) := (hbA.cell (p := ⟨w2.heap.size, 2, none⟩) z3).trans kk2; have kA3 : wA.cell? ⟨w2.heap.size, 3, none⟩ = some (.int .i64 (Cn : Int)) := (hbA.cell (p := ⟨w2.heap.size, 3, none⟩) z3).trans kk3))
          have BA : Below w3.heap.size w3 wA := (Below.refl _ _).drew.trans hbA
          have RA := R3.below BA
          have CA := C3.below BA z3
          have kA4 : wA.cell? ⟨w2.heap.size, 4, none⟩ = some (.int .i64 (Dy : Int)) := (CA 4 (by omega)).trans (by rw [HE.out.2.2])
          have zA : w2.heap.size < wA.heap.size := Nat.lt_of_lt_of_le z3 BA.size
          clear hbA BA R3 C3 csA kA3 cs3 kk2 kk3 D3 D4 bl3 z3 h82 hc3
          go_wp2_with fail
          refine (duo_left _ RA.duo G Dy hG hDy).mono ?_
          rintro e wB ⟨rfl, hbB⟩
          have RB := RA.below hbB
          have CB := CA.below hbB zA
          have zB : w2.heap.size < wB.heap.size := Nat.lt_of_lt_of_le zA hbB.size
          have kB4 : wB.cell? ⟨w2.heap.size, 4, none⟩ = some (.int .i64 (Dy : Int)) := (CB 4 (by omega)).trans (by rw [HE.out.2.2])
          clear hbB RA CA kA2 kA4 zA
          go_wp2
          go_loopw [8, 9] (fun m d wr => ∃ j : Nat, Dy ≤ j ∧ j ≤ 16 ∧ d = .int .i64 (j : Int) ∧ m = .int .i64 (leastTo (fun i => leftS S G (Dy + i)) (j - Dy)) ∧ Below wB.heap.size wB wr) (fun _ d _ => 16 - (intOf d).toNat)
          case atStart => exact ⟨Dy, Nat.le_refl _, by omega, rfl, int_eq (by rw [Nat.sub_self]; rfl), Below.refl _ _⟩
          case round =>
            obtain ⟨j, hj1, hj2, rfl, rfl, hbj⟩ := hrel
            have RJ := RB.below hbj
            have CJ := CB.below hbj zB
            have zJ : w2.heap.size < wr.heap.size := Nat.lt_of_lt_of_le zB hbj.size
            have kJ2 := (CJ 2 (by omega)).trans (by rw [HE.out.1] : some (Value.int .i64 (F 2)) = some (.int .i64 (G : Int)))
            by_cases hj3 : j < 16
            · have jI : (j : Int) < 16 := by omega
              have hst : Hid (leastTo (fun i => leftS S G (Dy + i)) (j + 1 - Dy) = min (leastTo (fun i => leftS S G (Dy + i)) (j - Dy)) (leftS S G j)) := by
                show _ = _
                rw [show j + 1 - Dy = (j - Dy) + 1 by omega]
                show min _ (leftS S G (Dy + (j - Dy))) = _
                rw [show Dy + (j - Dy) = j by omega]
              go_wp2_with fail
              refine (duo_left _ RJ.duo G j hG hj3).mono ?_
              rintro e wJ ⟨rfl, hbJ⟩
              have BJ := hbj.trans (hbJ.mono hbj.size)
              generalize hm1 : leastTo (fun i => leftS S G (Dy + i)) (j - Dy) = M1 at *
              generalize hm2 : leftS S G j = M2 at *
              clear hm1 hm2 RJ CJ zJ kJ2 hbj hbJ
              by_cases hmm : M2 < M1
              · go_wp2
                go_roundw
                case rel => exact ⟨j + 1, by omega, by omega, by go_num, int_eq (by rw [hst.out]; omega), BJ⟩
                case measure => simp [intOf]; omega
              · go_wp2
                go_roundw
                case rel => exact ⟨j + 1, by omega, by omega, by go_num, int_eq (by rw [hst.out]; omega), BJ⟩
                case measure => simp [intOf]; omega
            · have he : j = 16 := by omega
              subst he
              have hle : leastTo (fun i => leftS S G (Dy + i)) (16 - Dy) = atpS S G Dy := rfl
              rw [hle]
              have R3 := RJ
              have C3 := CJ
              have hc3 := R3.book.c0
              have hbl := R3.book.b_lt
              have nb : ¬ wr.heap.size = b := by omega
              have nc3 : ¬ wr.heap.size = w2.heap.size := by omega
              obtain ⟨d0, d1, d2, d3, d4, d5, d6, d7⟩ := C3.all
              clear RJ CJ kJ2 RB CB kB4 hbj
              go_wp2
              go_cut [11] (fun s wx => ∃ (q : Nat) (p4 : Adr), s = .pointer (some ⟨q, 0, none⟩) ∧ Mid w wx p4 a b hv S (doD S F).S k ∧ Side wx p4 b hv w2.heap.size F q (dec S F).E (dec S F).N ∧ (∀ g, g < wr.heap.size → ¬ p.foot g → wx.heap[g]? = wr.heap[g]? ∧ ¬ p4.foot g) ∧ wr.heap.size ≤ wx.heap.size)
              case first =>
                go_region_held3 (fun w' => w'.cell? ⟨b, 0, none⟩ = some (.pointer (some ⟨a, 0, none⟩)) ∧ w'.cell? ⟨w2.heap.size, 0, none⟩ = some (.int .i64 (F 0)) ∧ w'.cell? ⟨w2.heap.size, 1, none⟩ = some (.int .i64 (F 1)) ∧ w'.cell? ⟨w2.heap.size, 2, none⟩ = some (.int .i64 (F 2)) ∧ w'.cell? ⟨w2.heap.size, 3, none⟩ = some (.int .i64 (F 3)) ∧ w'.cell? ⟨w2.heap.size, 4, none⟩ = some (.int .i64 (F 4)) ∧ w'.cell? ⟨w2.heap.size, 5, none⟩ = some (.int .i64 (F 5)) ∧ w'.cell? ⟨w2.heap.size, 6, none⟩ = some (.int .i64 (F 6)) ∧ w'.cell? ⟨w2.heap.size, 7, none⟩ = some (.int .i64 (F 7))) (first | (go_keep; done) | (simp; done)) (first | (go_at_call 17; refine (do_box w wr _ p a b hv S k F w2.heap.size R3 HF (by omega) C3 zJ ncf nck (by first | exact (Below.refl _ _).drew | exact ((Below.refl _ _).alloc (Nat.le_refl _) _).drew) wr.heap.size rfl).mono ?_; rintro e w4 ⟨rfl, p4, D4⟩; have s4 : wr.heap.size ≤ w4.heap.size := Nat.le_trans (by simp) D4.size; have n4 : ¬ w4.heap.size = b := (by omega); have m4 : ¬ w4.heap.size = w2.heap.size := (by omega); have bx4 := D4.box; have fz4 := D4.frz; have h4 := D4.c0; obtain ⟨r0, r1, r2, r3, r4, r5, r6, r7⟩ := D4.cmd.all))
                · obtain ⟨M5, X5, O5⟩ := D4.new (dec S F).E (dec S F).N (by simp <;> omega) (by simp <;> omega)
                  go_wp2_with fail
                  go_meet
                  exact ⟨_, p4, rfl, M5, X5, O5, by simp; omega⟩
                · obtain ⟨M5, X5, O5⟩ := D4.old (dec S F).E (dec S F).N (by simp <;> omega) (by simp <;> omega) (by omega) (by have := R3.live.below.size; omega) (by simp [go_sem]) (by simp [go_sem])
                  go_wp2_with fail
                  go_meet
                  exact ⟨_, p4, rfl, M5, X5, O5, by simp; omega⟩
              case rest =>
                obtain ⟨w5, rfl⟩ : ∃ w5, w5 = wc := ⟨_, rfl⟩
                obtain ⟨q5, p4, rfl, M5, X5, O5, z5⟩ := hcut
                have hbb := M5.book.c0
                obtain ⟨t0, t1, t2, t3, t4, t5, t6, t7⟩ := X5.cmd.all
                have x0 := X5.a0
                have x1 := X5.a1
                clear R3 hc3 C3 d0 d1 d2 d3 d4 d5 d6 d7
                go_wp2_with fail
                refine (takes_box w _ p4 a b hv S (k) F _ _ M5 HF X5).mono ?_
                rintro e w6 ⟨rfl, hv6, R6, X6, O6, z6⟩
                clear hbb t0 t1 t2 t3 t4 t5 t6 t7 x0 x1
                have xk := X6.cmd 0 (by omega)
                have xq := X6.cmd 5 (by omega)
                have xe := X6.a0
                obtain ⟨S', eS⟩ : ∃ S', S' = (doD S F).S := ⟨_, rfl⟩
                rw [← eS] at R6 CV2
                clear M5 X5 O5 O6 X6 eS z5 z6
                rw [FE.out] at HP
                generalize hAT : atpS S G Dy = AT at *
                clear hAT
                go_upto_region 22 with fail
                go_cut [121] (fun s wx => s = .bool false ∧ w6 = wx)
                case first =>
                  by_cases h04 : F 0 = 4
                  · have HP' := HP.out h04
                    by_cases hE : (dec S F).E = 0
                    · obtain ⟨g1, g2, g3⟩ := HP'.1 hE
                      have g1' : ¬ (60 : Int) ≤ (S.H.length : Int) := by omega
                      clear HP'
                      go_wp2_with fail
                      go_meet
                      exact ⟨rfl, rfl⟩
                    · have hno := fun h => hE (HP'.2 h)
                      clear HP'
                      by_cases g1 : 60 ≤ S.H.length
                      · have g1' : (60 : Int) ≤ (S.H.length : Int) := by omega
                        clear hno
                        go_wp2_with fail
                        go_meet
                        exact ⟨by simp [hE], rfl⟩
                      · have g1' : ¬ (60 : Int) ≤ (S.H.length : Int) := by omega
                        by_cases g2 : F 5 ≤ X - Y
                        · have g3 : ¬ F 5 ≤ AT := fun h => hno ⟨g1, g2, h⟩
                          clear hno
                          go_wp2_with fail
                          go_meet
                          exact ⟨by simp [hE], rfl⟩
                        · clear hno
                          go_wp2_with fail
                          go_meet
                          exact ⟨by simp [hE], rfl⟩
                  · go_wp2_with fail
                    go_meet
                    exact ⟨rfl, rfl⟩
                case rest =>
                  obtain ⟨rfl, rfl⟩ := hcut
                  go_wp2
                  go_loopw [13] (fun g wr => ∃ j : Nat, j ≤ 4 ∧ g = .int .i64 (j : Int) ∧ Below w6.heap.size w6 wr) (fun g _ => 4 - (intOf g).toNat)
                  case atStart => exact ⟨0, Nat.zero_le _, rfl, Below.refl _ _⟩
                  case round =>
                    obtain ⟨j, hj, rfl, hbj⟩ := hrel
                    by_cases hj3 : j < 4
                    · have jI : (j : Int) < 4 := by omega
                      obtain ⟨cv1, cv2⟩ := CV2 j hj3
                      go_wp2
                      go_loopw [14] (fun d wr => ∃ i : Nat, i ≤ 16 ∧ d = .int .i64 (i : Int) ∧ Below w6.heap.size w6 wr) (fun d _ => 16 - (intOf d).toNat)
                      case atStart => exact ⟨0, Nat.zero_le _, rfl, hbj⟩
                      case round =>
                        clear hbj
                        obtain ⟨i, hi, rfl, hbi⟩ := hrel
                        have RI := R6.below hbi
                        have ci := RI.book.c0
                        by_cases hi3 : i < 16
                        · have iI : (i : Int) < 16 := by omega
                          have hpos : ¬ atpS S' j i < 0 := by have := atp_pos S' j i hi3 cv1; omega
                          go_wp2_with fail
                          refine (duo_atp _ RI.duo j i hj3 hi3).mono ?_
                          rintro e wI ⟨rfl, hbI⟩
                          have BI := hbi.trans (hbI.mono hbi.size)
                          clear RI ci hbi hbI
                          go_wp2
                          go_roundw
                          case rel => exact ⟨i + 1, by omega, by go_num, BI⟩
                          case measure => simp [intOf]; omega
                        · clear RI ci
                          go_wp2
                          go_loopw [17] (fun d wr => ∃ i : Nat, i ≤ 3 ∧ d = .int .i64 (i : Int) ∧ Below w6.heap.size w6 wr) (fun d _ => 3 - (intOf d).toNat)
                          case atStart => exact ⟨0, Nat.zero_le _, rfl, hbi⟩
                          case round =>
                            clear hbi
                            obtain ⟨i, hi, rfl, hbi⟩ := hrel
                            have RI := R6.below hbi
                            have ci := RI.book.c0
                            by_cases hi3 : i < 3
                            · have iI : (i : Int) < 3 := by omega
                              have hpos : ¬ freeS S' j i < 0 := by have := cv2 i hi3; omega
                              go_wp2_with fail
                              refine (duo_free _ RI.duo j i hj3 hi3).mono ?_
                              rintro e wI ⟨rfl, hbI⟩
                              have BI := hbi.trans (hbI.mono hbi.size)
                              clear RI ci hbi hbI
                              go_wp2
                              go_roundw
                              case rel => exact ⟨i + 1, by omega, by go_num, BI⟩
                              case measure => simp [intOf]; omega
                            · clear RI ci
                              go_wp2
                              go_roundw
                              case rel => exact ⟨j + 1, by omega, by go_num, hbi⟩
                              case measure => simp [intOf]; omega
                    · have RI := R6.below hbj
                      go_wp2
                      go_roundw
                      case rel => exact ⟨k + 1, p4, hv6, S', by omega, by go_num, RI, CV2⟩
                      case measure => simp [intOf]; omega
    · have he : k = L.length := by omega
      subst he
      go_wp2
      go_ret
      exact ⟨rfl, hB⟩

end Go.Proofs.YtdblmheoghhepaaDoor
