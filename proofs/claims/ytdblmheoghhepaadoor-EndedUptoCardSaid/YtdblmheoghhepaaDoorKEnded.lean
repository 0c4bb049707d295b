/- 'Ended' walked. -/
import Derived.Test.YtdblmheoghhepaaDoorKEndedPure
import Derived.BigRegion
namespace Go.Proofs.YtdblmheoghhepaaDoor
open Go.RowKit

set_option maxRecDepth 100000 in
set_option maxHeartbeats 16000000 in
theorem ended_any (x : Option Addr) (cp : Nat) (L : List (Nat → Int)) (n : Int) (w : World) (hT : TabW w) (hR : RawIs w x L) (hn : -9223372036854775808 ≤ n ∧ n ≤ 9223372036854775807) (hl : L.length ≤ 1048575) :
    Calls Tryd.prog 8 #[.slice x L.length cp, .int .i64 n] w fun e w' => e = .returned (.bool true) ∧ Below w.heap.size w w' := by
  go_enter Tryd.func8, Tryd.ntmps8
  go_wp2_with fail
  refine (opened_run w hT).mono ?_
  rintro e w1 ⟨p, a, b, rfl, R⟩
  go_wp2
  go_loopw [6, 7] (fun ws i wr => ∃ (k : Nat) (p : Adr) (hv : Value) (S : Led) (wx : Option Addr) (wc : Nat), k ≤ L.length ∧ i = .int .i64 (k : Int) ∧ ws = .slice wx S.H.length wc ∧ Run w wr p a b hv S k ∧ Was wr p b hv wx S.H) (fun _ i _ => L.length - (intOf i).toNat)
  case atStart => exact ⟨0, p, _, _, none, 0, Nat.zero_le _, rfl, rfl, R, Or.inl rfl⟩
  case round =>
    clear R
    obtain ⟨k, p, hv, S, wx, wc, hk, rfl, rfl, R, WS⟩ := hrel
    have hB := R.live.below
    by_cases hlt : k < L.length
    · obtain ⟨f, hf⟩ : ∃ f, L[k]? = some f := ⟨L[k], by simp [hlt]⟩
      obtain ⟨g, o, rfl, hg, hbd, c0, c1, c2, c3, c4, c5, c6, c7⟩ := (hR.below hB (Nat.le_refl _)).at hf
      have kI : (k : Int) < (L.length : Int) := by omega
      clear hf hR hT
      go_wp2_with fail
      refine (command_at f k _ hbd (by omega)).mono ?_
      rintro e w2 ⟨F, rfl, HF, hb2⟩
      have R2 := R.below hb2
      have b3 : Below w2.heap.size w2 (w2.alloc (.cells (cmdC F) 23)) := (Below.refl _ _).alloc (Nat.le_refl _) _
      have R3 := R2.below b3
      have hbl := R2.book.b_lt
      have hc3 := R3.book.c0
      have C3 := CmdAt.new w2 F 23
      obtain ⟨q0, q1, q2, q3, q4, q5, q6, q7⟩ := C3.all
      have nb : ¬ w2.heap.size + 1 = b := by omega
      have nck : ¬ KFoot b hv w2.heap.size := fun e => by have := R2.book.lt e; omega
      have ncf : ¬ p.foot w2.heap.size := fun e => by have := R2.live.led.foot_lt e; omega
      have WS3 := (WS.below hb2).below b3
      clear R R2 c0 c1 c2 c3 c4 c5 c6 c7 hbd hb2 b3 hB WS
      go_wp2
      go_region_held3 (fun w' => w'.cell? ⟨b, 0, none⟩ = some (.pointer (some ⟨a, 0, none⟩)) ∧ w'.cell? ⟨w2.heap.size, 0, none⟩ = some (.int .i64 (F 0)) ∧ w'.cell? ⟨w2.heap.size, 1, none⟩ = some (.int .i64 (F 1)) ∧ w'.cell? ⟨w2.heap.size, 2, none⟩ = some (.int .i64 (F 2)) ∧ w'.cell? ⟨w2.heap.size, 3, none⟩ = some (.int .i64 (F 3)) ∧ w'.cell? ⟨w2.heap.size, 4, none⟩ = some (.int .i64 (F 4)) ∧ w'.cell? ⟨w2.heap.size, 5, none⟩ = some (.int .i64 (F 5)) ∧ w'.cell? ⟨w2.heap.size, 6, none⟩ = some (.int .i64 (F 6)) ∧ w'.cell? ⟨w2.heap.size, 7, none⟩ = some (.int .i64 (F 7))) (first | (go_keep; done) | (simp; done)) (first | (go_at_call 17; refine (do_box w (w2.alloc (.cells (cmdC F) 23)) _ p a b hv S k F w2.heap.size R3 HF (by omega) C3 (by simp) ncf nck (by first | exact (Below.refl _ _).drew | exact ((Below.refl _ _).alloc (Nat.le_refl _) _).drew) (w2.heap.size + 1) (by simp)).mono ?_; rintro e w4 ⟨rfl, p4, D4⟩; have s4 : w2.heap.size + 1 ≤ w4.heap.size := Nat.le_trans (by simp) D4.size; have n4 : ¬ w4.heap.size = b := (by omega); have m4 : ¬ w4.heap.size = w2.heap.size := (by omega); have bx4 := D4.box; have fz4 := D4.frz; have h4 := D4.c0; obtain ⟨r0, r1, r2, r3, r4, r5, r6, r7⟩ := D4.cmd.all))
      · obtain ⟨M5, X5, O5⟩ := D4.new (dec S F).E (dec S F).N (by simp <;> omega) (by simp <;> omega)
        have hbb := M5.book.c0
        obtain ⟨t0, t1, t2, t3, t4, t5, t6, t7⟩ := X5.cmd.all
        have x0 := X5.a0
        have x1 := X5.a1
        have z4 : w2.heap.size + 1 ≤ w4.heap.size := s4
        clear D4 bx4 fz4 h4 s4 n4 m4 r0 r1 r2 r3 r4 r5 r6 r7 R3 hc3 C3 q0 q1 q2 q3 q4 q5 q6 q7
        go_wp2_with fail
        refine (takes_box w _ p4 a b hv S k F _ _ M5 HF X5).mono ?_
        rintro e w6 ⟨rfl, hv6, R6, X6, O6, R6sz⟩
        have WS6 : Was w6 p4 b hv6 wx S.H := (WS3.turn (p' := p4) (hv' := hv) (w' := _) (by simp; omega) (fun g hg h1 h2 => ⟨(O5 g (by simpa using hg) h1).1, (O5 g (by simpa using hg) h1).2, h2⟩)).turn R6sz (fun g hg h1 h2 => ⟨(O6 g hg h2).1, h1, (O6 g hg h2).2⟩)
        obtain ⟨S', eS⟩ : ∃ S', S' = (doD S F).S := ⟨_, rfl⟩
        have GR : Grows S.H S'.H := by rw [eS]; exact grows_do S F
        rw [← eS] at R6
        clear M5 X5 X6 O5 O6 hbb t0 t1 t2 t3 t4 t5 t6 t7 x0 x1 WS3 R6sz eS HF
        have c6 := R6.book.c0
        go_wp2_with fail
        refine (duo_holds _ R6.duo).mono ?_
        rintro e w7 ⟨g7, rfl, hg7, hH7, hb7⟩
        have R7 := R6.below hb7
        have WS7 := WS6.below hb7
        have c7 := R7.book.c0
        have ngf : ¬ p4.foot g7 := fun e => by have := R6.live.led.foot_lt e; omega
        have ngk : ¬ KFoot b hv6 g7 := fun e => by have := R6.book.lt e; omega
        clear R6 WS6 hb7 c6 hg7
        go_wp2_with fail
        refine (duo_now _ R7.duo).mono ?_
        rintro e w7' ⟨rfl, rfl⟩
        have l60 := R7.live.led.book.len
        have gle := GR.1
        have hnl : ¬ (S'.H.length : Int) < (S.H.length : Int) := by omega
        go_wp2
        go_loopw [12] (fun i wr => ∃ j : Nat, j ≤ S.H.length ∧ i = .int .i64 (j : Int) ∧ Below w7.heap.size w7 wr) (fun i _ => S.H.length - (intOf i).toNat)
        case atStart => exact ⟨0, Nat.zero_le _, rfl, Below.refl _ _⟩
        case round =>
          obtain ⟨j, hj, rfl, hb⟩ := hrel
          have hsz := hb.size
          by_cases hj3 : j < S.H.length
          · obtain ⟨x, hx⟩ : ∃ x, S.H[j]? = some x := ⟨S.H[j], by simp [hj3]⟩
            obtain ⟨y, hy, hyx, hy7⟩ := GR.2 j x hx
            rcases WS7 with h0 | ⟨gw, rfl, hW, _, _⟩
            · rw [h0] at hj3; simp at hj3
            · have hH2 := hH7.belowB hb hH7.1
              have hW2 := hW.belowB hb hW.1
              obtain ⟨a0, a1, a2, a3, a4, a5, a6, a7⟩ := hH2.all hy
              obtain ⟨d0, d1, d2, d3, d4, d5, d6, d7⟩ := hW2.all hx
              rw [hyx 0 (by omega)] at a0
              rw [hyx 1 (by omega)] at a1
              rw [hyx 2 (by omega)] at a2
              rw [hyx 3 (by omega)] at a3
              rw [hyx 4 (by omega)] at a4
              rw [hyx 5 (by omega)] at a5
              rw [hyx 6 (by omega)] at a6
              have gl := hH2.1
              have gwl := hW2.1
              have jI : (j : Int) < (S.H.length : Int) := by omega
              have jI' : (j : Int) < (S'.H.length : Int) := by omega
              have ne1 : ¬ wr.heap.size = g7 := by omega
              have ne2 : ¬ wr.heap.size = gw := by omega
              clear hH2 hW2 hH7 hW hyx hx hy R7 GR c7
              by_cases h7 : x 7 = 1
              · rw [h7] at d7
                clear hy7 h7
                go_wp2
                go_region
                go_wp2
                go_roundw
                case rel => exact ⟨j + 1, by omega, by go_num, (hb.alloc hsz _).drew⟩
                case measure => simp [intOf]; omega
              · have e7 := hy7 h7
                rw [e7] at a7
                have hx7 : (x 7 == 1) = false := by simpa using h7
                have hx8 : (x 7 != 1) = true := by simpa using h7
                clear hy7 e7
                go_wp2
                go_region
                go_wp2
                go_roundw
                case rel => exact ⟨j + 1, by omega, by go_num, (hb.alloc hsz _).drew⟩
                case measure => simp [intOf]; omega
          · clear WS7
            go_wp2
            go_loopw [14, 15] (fun m i wr => ∃ j : Nat, j ≤ S'.H.length ∧ i = .int .i64 (j : Int) ∧ m = .int .i64 (((S'.H.take j).countP openB : Nat) : Int) ∧ Below w7.heap.size w7 wr) (fun _ i _ => S'.H.length - (intOf i).toNat)
            case atStart => exact ⟨0, Nat.zero_le _, rfl, rfl, hb⟩
            case round =>
              clear hb hsz
              obtain ⟨j, hj, rfl, rfl, hb⟩ := hrel
              have hsz := hb.size
              have hcl := List.countP_le_length (p := openB) (l := S'.H.take j)
              have hcl2 : (S'.H.take j).length ≤ j := List.length_take_le _ _
              by_cases hj3 : j < S'.H.length
              · obtain ⟨y, hy⟩ : ∃ y, S'.H[j]? = some y := ⟨S'.H[j], by simp [hj3]⟩
                have hH2 := hH7.belowB hb hH7.1
                obtain ⟨a0, a1, a2, a3, a4, a5, a6, a7⟩ := hH2.all hy
                have hst : Hid ((S'.H.take (j + 1)).countP openB = (S'.H.take j).countP openB + if openB y = true then 1 else 0) := by
                  show _ = _
                  rw [List.take_add_one, hy, List.countP_append]
                  simp [List.countP_cons]
                have hen := R7.hok.ends y (List.mem_of_getElem? hy)
                have jI' : (j : Int) < (S'.H.length : Int) := by omega
                generalize hC : (S'.H.take j).countP openB = C at *
                clear hC hH2 hy GR c7
                by_cases h7 : y 7 = 1
                · have hx7 : (y 7 == 1) = true := by simpa using h7
                  have hO : Hid (openB y = true) := hx7
                  have hen' : ¬ y 6 ≤ S'.now := by have := hen h7; omega
                  clear hen h7
                  go_wp2
                  go_roundw
                  case rel => exact ⟨j + 1, by omega, by go_num, int_eq (by rw [hst.out, if_pos hO.out]; first | omega | (rw [w64 _ (by omega)]; omega) | (rw [w64i _ (by omega)]; omega)), hb⟩
                  case measure => simp [intOf]; omega
                · have hx7 : (y 7 == 1) = false := by simpa using h7
                  have hO : Hid (openB y = false) := hx7
                  clear hen h7
                  go_wp2
                  go_roundw
                  case rel => exact ⟨j + 1, by omega, by go_num, int_eq (by rw [hst.out, if_neg (by rw [hO.out]; decide)]; omega), hb⟩
                  case measure => simp [intOf]; omega
              · have he : j = S'.H.length := by omega
                subst he
                rw [List.take_length] at hcl
                rw [List.take_length]
                have R8 := R7.below hb
                have c8 := R8.book.c0
                have hag := ages_sum S'.H S'.now
                go_wp2_with fail
                refine (duo_ages _ R8.duo).mono ?_
                rintro e w9 ⟨rfl, hb9⟩
                have R9 := R8.below hb9
                have B9 : Below w7.heap.size w7 w9 := hb.trans (hb9.mono hsz)
                generalize hA0 : ages S'.H S'.now 0 = A0 at *
                generalize hA1 : ages S'.H S'.now 1 = A1 at *
                generalize hA2 : ages S'.H S'.now 2 = A2 at *
                generalize hC : S'.H.countP openB = C at *
                have hs1 : IntKind.i64.wrap ((A0 : Int) + (A1 : Int)) = (A0 : Int) + (A1 : Int) := w64i _ (by omega)
                have hs2 : IntKind.i64.wrap ((A0 : Int) + (A1 : Int) + (A2 : Int)) = (A0 : Int) + (A1 : Int) + (A2 : Int) := w64i _ (by omega)
                have hm : ((C : Nat) : Int) = (A0 : Int) + (A1 : Int) + (A2 : Int) := by omega
                rw [hm]
                have RA := R9.below ((Below.refl _ _).alloc (Nat.le_refl _) (.cells #[.int .i64 (A0 : Int), .int .i64 (A1 : Int), .int .i64 (A2 : Int)] 44))
                have HA : HoldsAt (w9.alloc (.cells #[.int .i64 (A0 : Int), .int .i64 (A1 : Int), .int .i64 (A2 : Int)] 44)) g7 S'.H := (hH7.belowB B9 hH7.1).belowB ((Below.refl w9.heap.size w9).alloc (Nat.le_refl _) _) (Nat.lt_of_lt_of_le hH7.1 B9.size)
                have z9 : g7 < w9.heap.size := Nat.lt_of_lt_of_le hH7.1 B9.size
                clear hb hsz hA0 hA1 hA2 hC R8 c8 hb9 R7 hH7 R9 hcl hcl2 GR hag hm
                go_wp2
                refine ⟨⟨k + 1, p4, hv6, S', some ⟨g7, 0, none⟩, S'.H.length, by omega, by go_num, rfl, RA, Or.inr ⟨g7, rfl, HA, ngf, ngk⟩⟩, by simp [intOf]; omega⟩
      · obtain ⟨M5, X5, O5⟩ := D4.old (dec S F).E (dec S F).N (by simp <;> omega) (by simp <;> omega) (by omega) (by have := R3.live.below.size; simp at this; omega) (by simp [go_sem]) (by simp [go_sem])
        have hbb := M5.book.c0
        obtain ⟨t0, t1, t2, t3, t4, t5, t6, t7⟩ := X5.cmd.all
        have x0 := X5.a0
        have x1 := X5.a1
        have z4 : w2.heap.size + 1 ≤ w4.heap.size := s4
        clear D4 bx4 fz4 h4 s4 n4 m4 r0 r1 r2 r3 r4 r5 r6 r7 R3 hc3 C3 q0 q1 q2 q3 q4 q5 q6 q7
        go_wp2_with fail
        refine (takes_box w _ p4 a b hv S k F _ _ M5 HF X5).mono ?_
        rintro e w6 ⟨rfl, hv6, R6, X6, O6, R6sz⟩
        have WS6 : Was w6 p4 b hv6 wx S.H := (WS3.turn (p' := p4) (hv' := hv) (w' := _) (by simp; omega) (fun g hg h1 h2 => ⟨(O5 g (by simpa using hg) h1).1, (O5 g (by simpa using hg) h1).2, h2⟩)).turn R6sz (fun g hg h1 h2 => ⟨(O6 g hg h2).1, h1, (O6 g hg h2).2⟩)
        obtain ⟨S', eS⟩ : ∃ S', S' = (doD S F).S := ⟨_, rfl⟩
        have GR : Grows S.H S'.H := by rw [eS]; exact grows_do S F
        rw [← eS] at R6
        clear M5 X5 X6 O5 O6 hbb t0 t1 t2 t3 t4 t5 t6 t7 x0 x1 WS3 R6sz eS HF
        have c6 := R6.book.c0
        go_wp2_with fail
        refine (duo_holds _ R6.duo).mono ?_
        rintro e w7 ⟨g7, rfl, hg7, hH7, hb7⟩
        have R7 := R6.below hb7
        have WS7 := WS6.below hb7
        have c7 := R7.book.c0
        have ngf : ¬ p4.foot g7 := fun e => by have := R6.live.led.foot_lt e; omega
        have ngk : ¬ KFoot b hv6 g7 := fun e => by have := R6.book.lt e; omega
        clear R6 WS6 hb7 c6 hg7
        go_wp2_with fail
        refine (duo_now _ R7.duo).mono ?_
        rintro e w7' ⟨rfl, rfl⟩
        have l60 := R7.live.led.book.len
        have gle := GR.1
        have hnl : ¬ (S'.H.length : Int) < (S.H.length : Int) := by omega
        go_wp2
        go_loopw [12] (fun i wr => ∃ j : Nat, j ≤ S.H.length ∧ i = .int .i64 (j : Int) ∧ Below w7.heap.size w7 wr) (fun i _ => S.H.length - (intOf i).toNat)
        case atStart => exact ⟨0, Nat.zero_le _, rfl, Below.refl _ _⟩
        case round =>
          obtain ⟨j, hj, rfl, hb⟩ := hrel
          have hsz := hb.size
          by_cases hj3 : j < S.H.length
          · obtain ⟨x, hx⟩ : ∃ x, S.H[j]? = some x := ⟨S.H[j], by simp [hj3]⟩
            obtain ⟨y, hy, hyx, hy7⟩ := GR.2 j x hx
            rcases WS7 with h0 | ⟨gw, rfl, hW, _, _⟩
            · rw [h0] at hj3; simp at hj3
            · have hH2 := hH7.belowB hb hH7.1
              have hW2 := hW.belowB hb hW.1
              obtain ⟨a0, a1, a2, a3, a4, a5, a6, a7⟩ := hH2.all hy
              obtain ⟨d0, d1, d2, d3, d4, d5, d6, d7⟩ := hW2.all hx
              rw [hyx 0 (by omega)] at a0
              rw [hyx 1 (by omega)] at a1
              rw [hyx 2 (by omega)] at a2
              rw [hyx 3 (by omega)] at a3
              rw [hyx 4 (by omega)] at a4
              rw [hyx 5 (by omega)] at a5
              rw [hyx 6 (by omega)] at a6
              have gl := hH2.1
              have gwl := hW2.1
              have jI : (j : Int) < (S.H.length : Int) := by omega
              have jI' : (j : Int) < (S'.H.length : Int) := by omega
              have ne1 : ¬ wr.heap.size = g7 := by omega
              have ne2 : ¬ wr.heap.size = gw := by omega
              clear hH2 hW2 hH7 hW hyx hx hy R7 GR c7
              by_cases h7 : x 7 = 1
              · rw [h7] at d7
                clear hy7 h7
                go_wp2
                go_region
                go_wp2
                go_roundw
                case rel => exact ⟨j + 1, by omega, by go_num, (hb.alloc hsz _).drew⟩
                case measure => simp [intOf]; omega
              · have e7 := hy7 h7
                rw [e7] at a7
                have hx7 : (x 7 == 1) = false := by simpa using h7
                have hx8 : (x 7 != 1) = true := by simpa using h7
                clear hy7 e7
                go_wp2
                go_region
                go_wp2
                go_roundw
                case rel => exact ⟨j + 1, by omega, by go_num, (hb.alloc hsz _).drew⟩
                case measure => simp [intOf]; omega
          · clear WS7
            go_wp2
            go_loopw [14, 15] (fun m i wr => ∃ j : Nat, j ≤ S'.H.length ∧ i = .int .i64 (j : Int) ∧ m = .int .i64 (((S'.H.take j).countP openB : Nat) : Int) ∧ Below w7.heap.size w7 wr) (fun _ i _ => S'.H.length - (intOf i).toNat)
            case atStart => exact ⟨0, Nat.zero_le _, rfl, rfl, hb⟩
            case round =>
              clear hb hsz
              obtain ⟨j, hj, rfl, rfl, hb⟩ := hrel
              have hsz := hb.size
              have hcl := List.countP_le_length (p := openB) (l := S'.H.take j)
              have hcl2 : (S'.H.take j).length ≤ j := List.length_take_le _ _
              by_cases hj3 : j < S'.H.length
              · obtain ⟨y, hy⟩ : ∃ y, S'.H[j]? = some y := ⟨S'.H[j], by simp [hj3]⟩
                have hH2 := hH7.belowB hb hH7.1
                obtain ⟨a0, a1, a2, a3, a4, a5, a6, a7⟩ := hH2.all hy
                have hst : Hid ((S'.H.take (j + 1)).countP openB = (S'.H.take j).countP openB + if openB y = true then 1 else 0) := by
                  show _ = _
                  rw [List.take_add_one, hy, List.countP_append]
                  simp [List.countP_cons]
                have hen := R7.hok.ends y (List.mem_of_getElem? hy)
                have jI' : (j : Int) < (S'.H.length : Int) := by omega
                generalize hC : (S'.H.take j).countP openB = C at *
                clear hC hH2 hy GR c7
                by_cases h7 : y 7 = 1
                · have hx7 : (y 7 == 1) = true := by simpa using h7
                  have hO : Hid (openB y = true) := hx7
                  have hen' : ¬ y 6 ≤ S'.now := by have := hen h7; omega
                  clear hen h7
                  go_wp2
                  go_roundw
                  case rel => exact ⟨j + 1, by omega, by go_num, int_eq (by rw [hst.out, if_pos hO.out]; first | omega | (rw [w64 _ (by omega)]; omega) | (rw [w64i _ (by omega)]; omega)), hb⟩
                  case measure => simp [intOf]; omega
                · have hx7 : (y 7 == 1) = false := by simpa using h7
                  have hO : Hid (openB y = false) := hx7
                  clear hen h7
                  go_wp2
                  go_roundw
                  case rel => exact ⟨j + 1, by omega, by go_num, int_eq (by rw [hst.out, if_neg (by rw [hO.out]; decide)]; omega), hb⟩
                  case measure => simp [intOf]; omega
              · have he : j = S'.H.length := by omega
                subst he
                rw [List.take_length] at hcl
                rw [List.take_length]
                have R8 := R7.below hb
                have c8 := R8.book.c0
                have hag := ages_sum S'.H S'.now
                go_wp2_with fail
                refine (duo_ages _ R8.duo).mono ?_
                rintro e w9 ⟨rfl, hb9⟩
                have R9 := R8.below hb9
                have B9 : Below w7.heap.size w7 w9 := hb.trans (hb9.mono hsz)
                generalize hA0 : ages S'.H S'.now 0 = A0 at *
                generalize hA1 : ages S'.H S'.now 1 = A1 at *
                generalize hA2 : ages S'.H S'.now 2 = A2 at *
                generalize hC : S'.H.countP openB = C at *
                have hs1 : IntKind.i64.wrap ((A0 : Int) + (A1 : Int)) = (A0 : Int) + (A1 : Int) := w64i _ (by omega)
                have hs2 : IntKind.i64.wrap ((A0 : Int) + (A1 : Int) + (A2 : Int)) = (A0 : Int) + (A1 : Int) + (A2 : Int) := w64i _ (by omega)
                have hm : ((C : Nat) : Int) = (A0 : Int) + (A1 : Int) + (A2 : Int) := by omega
                rw [hm]
                have RA := R9.below ((Below.refl _ _).alloc (Nat.le_refl _) (.cells #[.int .i64 (A0 : Int), .int .i64 (A1 : Int), .int .i64 (A2 : Int)] 44))
                have HA : HoldsAt (w9.alloc (.cells #[.int .i64 (A0 : Int), .int .i64 (A1 : Int), .int .i64 (A2 : Int)] 44)) g7 S'.H := (hH7.belowB B9 hH7.1).belowB ((Below.refl w9.heap.size w9).alloc (Nat.le_refl _) _) (Nat.lt_of_lt_of_le hH7.1 B9.size)
                have z9 : g7 < w9.heap.size := Nat.lt_of_lt_of_le hH7.1 B9.size
                clear hb hsz hA0 hA1 hA2 hC R8 c8 hb9 R7 hH7 R9 hcl hcl2 GR hag hm
                go_wp2
                refine ⟨⟨k + 1, p4, hv6, S', some ⟨g7, 0, none⟩, S'.H.length, by omega, by go_num, rfl, RA, Or.inr ⟨g7, rfl, HA, ngf, ngk⟩⟩, by simp [intOf]; omega⟩
    · have he : k = L.length := by omega
      subst he
      have c0 := R.book.c0
      have hw := pk_bd n 1000 (by omega)
      have hrem : Int.tmod (L.length : Int) 2147483647 = (L.length : Int) := Int.tmod_eq_of_lt (by omega) (by omega)
      have hrem2 : (L.length : Int) % 2147483647 = (L.length : Int) := Int.emod_eq_of_lt (by omega) (by omega)
      have hW : IntKind.i64.wrap (1 + pk n 1000) = 1 + pk n 1000 := w64i _ (by omega)
      have l60 := R.live.led.book.len
      have RD := R.below (w' := wr.drew) (Below.refl _ _).drew
      clear WS hR hT
      go_wp2
      go_region_held3 (fun w' => w'.cell? ⟨b, 0, none⟩ = some (.pointer (some ⟨a, 0, none⟩))) (first | (go_keep; done) | (simp; done)) (first | (go_at_call 15; refine (pick_any n 1000 _ hn.1 hn.2 (by omega) (by omega)).mono ?_; rintro e w' ⟨rfl, rfl⟩) | (go_at_call 17; refine (do_last w _ p a b hv S L.length (1 + pk n 1000) RD (by omega) (by omega)).mono ?_; rintro e w8 ⟨⟨E, N, rfl⟩, p8, S8, V8, HA8, HL8, c8⟩))
      clear R RD c0
      go_wp2_with fail
      refine (holds_last w _ p8 a S8 S.H.length V8 HA8 HL8 l60).mono ?_
      rintro e w9 ⟨g9, rfl, hb9⟩
      have B9 := V8.below.trans (hb9.mono V8.below.size)
      go_wp2
      go_ret
      exact ⟨rfl, B9⟩

end Go.Proofs.YtdblmheoghhepaaDoor
