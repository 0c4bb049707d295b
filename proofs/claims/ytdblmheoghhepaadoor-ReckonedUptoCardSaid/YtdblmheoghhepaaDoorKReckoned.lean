/- 'Reckoned' walked. -/
import Derived.Test.YtdblmheoghhepaaDoorKBoxes
namespace Go.Proofs.YtdblmheoghhepaaDoor
open Go.RowKit

set_option maxRecDepth 100000 in
set_option maxHeartbeats 8000000 in
theorem reckoned_any (x : Option Addr) (cp : Nat) (L : List (Nat → Int)) (w : World) (hT : TabW w) (hR : RawIs w x L) (hl : L.length ≤ 1048575) :
    Calls Tryd.prog 5 #[.slice x L.length cp] w fun e w' => e = .returned (.bool true) ∧ Below w.heap.size w w' := by
  go_enter Tryd.func5, Tryd.ntmps5
  go_wp2_with fail
  refine (opened_run w hT).mono ?_
  rintro e w1 ⟨p, a, b, rfl, R⟩
  go_wp2
  go_loopw [4] (fun i wr => ∃ (k : Nat) (p : Adr) (hv : Value) (S : Led), k ≤ L.length ∧ i = .int .i64 (k : Int) ∧ Run w wr p a b hv S k) (fun i _ => L.length - (intOf i).toNat)
  case atStart => exact ⟨0, p, _, _, Nat.zero_le _, rfl, R⟩
  case round =>
    clear R
    obtain ⟨k, p, hv, S, hk, rfl, R⟩ := hrel
    have hB := R.live.below
    by_cases hlt : k < L.length
    · obtain ⟨f, hf⟩ : ∃ f, L[k]? = some f := ⟨L[k], by simp [hlt]⟩
      obtain ⟨g, o, rfl, hg, hbd, c0, c1, c2, c3, c4, c5, c6, c7⟩ := (hR.below hB (Nat.le_refl _)).at hf
      have kI : (k : Int) < (L.length : Int) := by omega
      clear hf hR hT
      go_wp2_with fail
      refine (command_at f k _ hbd (by omega)).mono ?_
      rintro e w2 ⟨F, rfl, HF, hb2⟩
      have R2 := R.below hb2
      have b3 : Below w2.heap.size w2 (w2.alloc (.cells (cmdC F) 23)) := (Below.refl _ _).alloc (Nat.le_refl _) _
      have R3 := R2.below b3
      have hbl := R2.book.b_lt
      have hc3 := R3.book.c0
      have C3 := CmdAt.new w2 F 23
      obtain ⟨q0, q1, q2, q3, q4, q5, q6, q7⟩ := C3.all
      have nb : ¬ w2.heap.size + 1 = b := by omega
      have nck : ¬ KFoot b hv w2.heap.size := fun e => by have := R2.book.lt e; omega
      have ncf : ¬ p.foot w2.heap.size := fun e => by have := R2.live.led.foot_lt e; omega
      clear R R2 c0 c1 c2 c3 c4 c5 c6 c7 hbd hb2 b3 hB
      go_wp2
      go_region_held3 (fun w' => w'.cell? ⟨b, 0, none⟩ = some (.pointer (some ⟨a, 0, none⟩)) ∧ w'.cell? ⟨w2.heap.size, 0, none⟩ = some (.int .i64 (F 0)) ∧ w'.cell? ⟨w2.heap.size, 1, none⟩ = some (.int .i64 (F 1)) ∧ w'.cell? ⟨w2.heap.size, 2, none⟩ = some (.int .i64 (F 2)) ∧ w'.cell? ⟨w2.heap.size, 3, none⟩ = some (.int .i64 (F 3)) ∧ w'.cell? ⟨w2.heap.size, 4, none⟩ = some (.int .i64 (F 4)) ∧ w'.cell? ⟨w2.heap.size, 5, none⟩ = some (.int .i64 (F 5)) ∧ w'.cell? ⟨w2.heap.size, 6, none⟩ = some (.int .i64 (F 6)) ∧ w'.cell? ⟨w2.heap.size, 7, none⟩ = some (.int .i64 (F 7))) (first | (go_keep; done) | (simp; done)) (first | (go_at_call 17; refine (do_box w (w2.alloc (.cells (cmdC F) 23)) _ p a b hv S k F w2.heap.size R3 HF (by omega) C3 (by simp) ncf nck (by first | exact (Below.refl _ _).drew | exact ((Below.refl _ _).alloc (Nat.le_refl _) _).drew) (w2.heap.size + 1) (by simp)).mono ?_; rintro e w4 ⟨rfl, p4, D4⟩; have s4 : w2.heap.size + 1 ≤ w4.heap.size := Nat.le_trans (by simp) D4.size; have n4 : ¬ w4.heap.size = b := (by omega); have m4 : ¬ w4.heap.size = w2.heap.size := (by omega); have bx4 := D4.box; have fz4 := D4.frz; have h4 := D4.c0; obtain ⟨r0, r1, r2, r3, r4, r5, r6, r7⟩ := D4.cmd.all))
      · obtain ⟨M5, X5, _⟩ := D4.new (dec S F).E (dec S F).N (by simp <;> omega) (by simp <;> omega)
        have hbb := M5.book.c0
        obtain ⟨t0, t1, t2, t3, t4, t5, t6, t7⟩ := X5.cmd.all
        have x0 := X5.a0
        have x1 := X5.a1
        clear D4 bx4 fz4 h4 s4 n4 m4 r0 r1 r2 r3 r4 r5 r6 r7 R3 hc3 C3 q0 q1 q2 q3 q4 q5 q6 q7
        go_wp2_with fail
        refine (takes_box w _ p4 a b hv S k F _ _ M5 HF X5).mono ?_
        rintro e w6 ⟨rfl, hv6, R6, X6, _⟩
        clear M5 X5 hbb t0 t1 t2 t3 t4 t5 t6 t7 x0 x1
        go_wp2_with fail
        refine (kright_any p4 a b hv6 _ _ R6.duo).mono ?_
        rintro e w7 ⟨rfl, hb7⟩
        have R7 := R6.below hb7
        clear R6 X6 hb7
        go_wp2
        go_roundw
        case rel => exact ⟨k + 1, p4, hv6, _, by omega, by go_num, R7⟩
        case measure => simp [intOf]; omega
      · obtain ⟨M5, X5, _⟩ := D4.old (dec S F).E (dec S F).N (by simp <;> omega) (by simp <;> omega) (by omega) (by have := R3.live.below.size; simp at this; omega) (by simp [go_sem]) (by simp [go_sem])
        have hbb := M5.book.c0
        obtain ⟨t0, t1, t2, t3, t4, t5, t6, t7⟩ := X5.cmd.all
        have x0 := X5.a0
        have x1 := X5.a1
        clear D4 bx4 fz4 h4 s4 n4 m4 r0 r1 r2 r3 r4 r5 r6 r7 R3 hc3 C3 q0 q1 q2 q3 q4 q5 q6 q7
        go_wp2_with fail
        refine (takes_box w _ p4 a b hv S k F _ _ M5 HF X5).mono ?_
        rintro e w6 ⟨rfl, hv6, R6, X6, _⟩
        clear M5 X5 hbb t0 t1 t2 t3 t4 t5 t6 t7 x0 x1
        go_wp2_with fail
        refine (kright_any p4 a b hv6 _ _ R6.duo).mono ?_
        rintro e w7 ⟨rfl, hb7⟩
        have R7 := R6.below hb7
        clear R6 X6 hb7
        go_wp2
        go_roundw
        case rel => exact ⟨k + 1, p4, hv6, _, by omega, by go_num, R7⟩
        case measure => simp [intOf]; omega
    · have he : k = L.length := by omega
      subst he
      go_wp2
      go_ret
      exact ⟨rfl, hB⟩

end Go.Proofs.YtdblmheoghhepaaDoor
