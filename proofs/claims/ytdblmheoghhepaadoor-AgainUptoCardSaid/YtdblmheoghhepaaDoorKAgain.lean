/- 'Again' walked. -/
import Derived.Test.YtdblmheoghhepaaDoorKAgainPure
import Derived.Deep.Cut
import Derived.Deep.DeepCutAuto
namespace Go.Proofs.YtdblmheoghhepaaDoor
open Go.RowKit

theorem command_int (f : Nat → Int) (n : Nat) (i : Int) (hi : i = (n : Int)) (w : World) (hf : Bd f) (hn : n ≤ 1048600) :
    Calls Tryd.prog 12 #[cmdV f, .int .i64 i] w fun e w' => ∃ F, e = .returned (cmdV F) ∧ Hid (refOk F = true ∧ F 1 = (n : Int)) ∧ Below w.heap.size w w' := by
  subst hi
  refine (command_any f n w hf (by constructor <;> omega)).mono ?_
  rintro e w' ⟨F, rfl, h1, h2, h3⟩
  refine ⟨F, rfl, ⟨h1, ?_⟩, h2⟩
  rw [h3]
  unfold pk
  rw [if_neg (by omega)]
  omega

theorem right_six {F : Nat → Int} (h : refOk F = true) : 0 ≤ F 6 ∧ 0 ≤ F 7 ∧ F 6 ≤ 4294967295 ∧ F 7 ≤ 1000 := by
  cases (rightC_of F h) using RightC.kinds with
  | receive g hg e0 e2 e3 e4 q e6 e7 => omega
  | adjust g hg e0 e2 e3 e4 q e6 e7 => omega
  | plan g d hg hd e0 e2 e3 e4 q e6 e7 => omega
  | allot g c hg hc e0 e2 e3 e4 q e6 e7 => omega
  | promise g c d hg hc hd e0 e2 e3 e4 q e6 t => omega
  | commit e0 e2 e3 e4 e5 o e7 => omega
  | release e0 e2 e3 e4 e5 o e7 => omega
  | tick e0 e2 e3 e4 e5 e6 t => omega

theorem journal_run {w0 : World} {p : Adr} {a b : Nat} {hv : Value} {S : Led} {n : Nat} (wx : World) (h : Run w0 wx p a b hv S n) : Calls Tryd.prog 24 #[.pointer (some ⟨a, 0, none⟩)] wx fun e w' => e = .returned (.string (strOfNums S.J)) ∧ wx = w' := by
  rw [← h.pa]
  exact journal_any p S wx h.live.led

set_option maxRecDepth 100000 in
set_option maxHeartbeats 16000000 in
theorem again_any (x : Option Addr) (cp : Nat) (L : List (Nat → Int)) (f1 : Nat → Int) (y : Option Addr) (cq : Nat) (Mo : List (Nat → Int)) (w : World) (hT : TabW w) (hR : RawIs w x L) (hf1 : Bd f1) (hM : RawIs w y Mo) (hl : L.length ≤ 1048576) :
    Calls Tryd.prog 7 #[.slice x L.length cp, cmdV f1, .slice y Mo.length cq] w fun e w' => e = .returned (.bool true) ∧ Below w.heap.size w w' := by
  go_enter Tryd.func7, Tryd.ntmps7
  go_wp2_with fail
  have B0 : Below w.heap.size w (w.alloc (.cells (cmdC f1) 23)) := (Below.refl _ _).alloc (Nat.le_refl _) _
  have C0 := CmdAt.new w f1 23
  have z0 : w.heap.size < (w.alloc (.cells (cmdC f1) 23)).heap.size := by simp
  refine (opened_run _ (hT.alloc _)).mono ?_
  obtain ⟨w0, ew0⟩ : ∃ w0, w0 = w.alloc (.cells (cmdC f1) 23) := ⟨_, rfl⟩
  rw [← ew0] at B0 C0 z0 ⊢
  clear ew0
  rintro e w1 ⟨p, a, b, rfl, R⟩
  have hR0 := hR.below B0 (Nat.le_refl _)
  have hM0 := hM.below B0 (Nat.le_refl _)
  clear hR hM hT
  go_wp2
  go_loopw [8] (fun i wr => ∃ (k : Nat) (p : Adr) (hv : Value) (S : Led), k ≤ L.length ∧ i = .int .i64 (k : Int) ∧ Run w0 wr p a b hv S k) (fun i _ => L.length - (intOf i).toNat)
  case atStart => exact ⟨0, p, _, _, Nat.zero_le _, rfl, R⟩
  case round =>
    clear R
    obtain ⟨k, p, hv, S, hk, rfl, R⟩ := hrel
    have hB := R.live.below
    by_cases hlt : k < L.length
    · obtain ⟨f, hf⟩ : ∃ f, L[k]? = some f := ⟨L[k], by simp [hlt]⟩
      obtain ⟨g, o, rfl, hg, hbd, c0, c1, c2, c3, c4, c5, c6, c7⟩ := (hR0.below hB (Nat.le_refl _)).at hf
      have kI : (k : Int) < (L.length : Int) := by omega
      clear hf hR0 hM0 C0 B0
      go_wp2_with fail
      refine (command_int f (k) _ (by omega) _ hbd (by omega)).mono ?_
      rintro e w2 ⟨F, rfl, HF, hb2⟩
      have R2 := R.below hb2
      have b3 : Below w2.heap.size w2 (w2.alloc (.cells (cmdC F) 23)) := (Below.refl _ _).alloc (Nat.le_refl _) _
      have R3 := R2.below b3
      have C3 := CmdAt.new w2 F 23
      have z3 : w2.heap.size < (w2.alloc (.cells (cmdC F) 23)).heap.size := by simp
      have nck : ¬ KFoot b hv w2.heap.size := fun e => by have := R2.book.lt e; omega
      have ncf : ¬ p.foot w2.heap.size := fun e => by have := R2.live.led.foot_lt e; omega
      clear c0 c1 c2 c3 c4 c5 c6 c7 hB
      go_upto_region 8 with fail
      obtain ⟨w3, ew3⟩ : ∃ w3, w3 = w2.alloc (.cells (cmdC F) 23) := ⟨_, rfl⟩
      rw [← ew3] at R3 C3 z3
      rw [← ew3]
      clear ew3 b3 R R2 hb2 hbd
      have hc3 := R3.book.c0
      have hbl := R3.book.b_lt
      obtain ⟨d0, d1, d2, d3, d4, d5, d6, d7⟩ := C3.all
      have nb : ¬ w3.heap.size = b := by omega
      have nc3 : ¬ w3.heap.size = w2.heap.size := by omega
      go_cut [10] (fun s wx => ∃ (q : Nat) (p4 : Adr), s = .pointer (some ⟨q, 0, none⟩) ∧ Mid w0 wx p4 a b hv S (doD S F).S k ∧ Side wx p4 b hv w2.heap.size F q (dec S F).E (dec S F).N ∧ (∀ g, g < w3.heap.size → ¬ p.foot g → wx.heap[g]? = w3.heap[g]? ∧ ¬ p4.foot g) ∧ w3.heap.size ≤ wx.heap.size)
      case first =>
        go_region_held3 (fun w' => w'.cell? ⟨b, 0, none⟩ = some (.pointer (some ⟨a, 0, none⟩)) ∧ w'.cell? ⟨w2.heap.size, 0, none⟩ = some (.int .i64 (F 0)) ∧ w'.cell? ⟨w2.heap.size, 1, none⟩ = some (.int .i64 (F 1)) ∧ w'.cell? ⟨w2.heap.size, 2, none⟩ = some (.int .i64 (F 2)) ∧ w'.cell? ⟨w2.heap.size, 3, none⟩ = some (.int .i64 (F 3)) ∧ w'.cell? ⟨w2.heap.size, 4, none⟩ = some (.int .i64 (F 4)) ∧ w'.cell? ⟨w2.heap.size, 5, none⟩ = some (.int .i64 (F 5)) ∧ w'.cell? ⟨w2.heap.size, 6, none⟩ = some (.int .i64 (F 6)) ∧ w'.cell? ⟨w2.heap.size, 7, none⟩ = some (.int .i64 (F 7))) (first | (go_keep; done) | (simp; done)) (first | (go_at_call 17; refine (do_box w0 w3 _ p a b hv S k F w2.heap.size R3 HF (by omega) C3 z3 ncf nck (by first | exact (Below.refl _ _).drew | exact ((Below.refl _ _).alloc (Nat.le_refl _) _).drew) w3.heap.size rfl).mono ?_; rintro e w4 ⟨rfl, p4, D4⟩; have s4 : w3.heap.size ≤ w4.heap.size := Nat.le_trans (by simp) D4.size; have n4 : ¬ w4.heap.size = b := (by omega); have m4 : ¬ w4.heap.size = w2.heap.size := (by omega); have bx4 := D4.box; have fz4 := D4.frz; have h4 := D4.c0; obtain ⟨r0, r1, r2, r3, r4, r5, r6, r7⟩ := D4.cmd.all))
        · obtain ⟨M5, X5, O5⟩ := D4.new (dec S F).E (dec S F).N (by simp <;> omega) (by simp <;> omega)
          go_wp2_with fail
          go_meet
          exact ⟨_, p4, rfl, M5, X5, O5, by simp; omega⟩
        · obtain ⟨M5, X5, O5⟩ := D4.old (dec S F).E (dec S F).N (by simp <;> omega) (by simp <;> omega) (by omega) (by have := R3.live.below.size; omega) (by simp [go_sem]) (by simp [go_sem])
          go_wp2_with fail
          go_meet
          exact ⟨_, p4, rfl, M5, X5, O5, by simp; omega⟩
      case rest =>
        obtain ⟨w5, rfl⟩ : ∃ w5, w5 = wc := ⟨_, rfl⟩
        obtain ⟨q5, p4, rfl, M5, X5, O5, z5⟩ := hcut
        have hbb := M5.book.c0
        obtain ⟨t0, t1, t2, t3, t4, t5, t6, t7⟩ := X5.cmd.all
        have x0 := X5.a0
        have x1 := X5.a1
        clear R3 hc3 C3 d0 d1 d2 d3 d4 d5 d6 d7
        go_wp2_with fail
        refine (takes_box w0 _ p4 a b hv S (k) F _ _ M5 HF X5).mono ?_
        rintro e w6 ⟨rfl, hv6, R6, X6, O6, z6⟩
        clear hbb t0 t1 t2 t3 t4 t5 t6 t7 x0 x1
        go_wp2
        go_roundw
        case rel => exact ⟨k + 1, p4, hv6, _, by omega, by go_num, R6⟩
        case measure => simp [intOf]; omega
    · have he : k = L.length := by omega
      subst he
      have hbd := hf1
      have CO := C0.below hB z0
      obtain ⟨c0, c1, c2, c3, c4, c5, c6, c7⟩ := CO.all
      go_wp2_with fail
      refine (command_int f1 (L.length) _ (by omega) _ hbd (by omega)).mono ?_
      rintro e w2 ⟨F, rfl, HF, hb2⟩
      have R2 := R.below hb2
      have b3 : Below w2.heap.size w2 (w2.alloc (.cells (cmdC F) 23)) := (Below.refl _ _).alloc (Nat.le_refl _) _
      have R3 := R2.below b3
      have C3 := CmdAt.new w2 F 23
      have z3 : w2.heap.size < (w2.alloc (.cells (cmdC F) 23)).heap.size := by simp
      have nck : ¬ KFoot b hv w2.heap.size := fun e => by have := R2.book.lt e; omega
      have ncf : ¬ p.foot w2.heap.size := fun e => by have := R2.live.led.foot_lt e; omega
      clear c0 c1 c2 c3 c4 c5 c6 c7 CO C0
      go_upto_region 11 with fail
      obtain ⟨w3, ew3⟩ : ∃ w3, w3 = w2.alloc (.cells (cmdC F) 23) := ⟨_, rfl⟩
      rw [← ew3] at R3 C3 z3
      rw [← ew3]
      clear ew3 b3 R R2 hb2 hbd
      have hc3 := R3.book.c0
      have hbl := R3.book.b_lt
      obtain ⟨d0, d1, d2, d3, d4, d5, d6, d7⟩ := C3.all
      have nb : ¬ w3.heap.size = b := by omega
      have nc3 : ¬ w3.heap.size = w2.heap.size := by omega
      go_cut [12] (fun s wx => ∃ (q : Nat) (p4 : Adr), s = .pointer (some ⟨q, 0, none⟩) ∧ Mid w0 wx p4 a b hv S (doD S F).S L.length ∧ Side wx p4 b hv w2.heap.size F q (dec S F).E (dec S F).N ∧ (∀ g, g < w3.heap.size → ¬ p.foot g → wx.heap[g]? = w3.heap[g]? ∧ ¬ p4.foot g) ∧ w3.heap.size ≤ wx.heap.size)
      case first =>
        go_region_held3 (fun w' => w'.cell? ⟨b, 0, none⟩ = some (.pointer (some ⟨a, 0, none⟩)) ∧ w'.cell? ⟨w2.heap.size, 0, none⟩ = some (.int .i64 (F 0)) ∧ w'.cell? ⟨w2.heap.size, 1, none⟩ = some (.int .i64 (F 1)) ∧ w'.cell? ⟨w2.heap.size, 2, none⟩ = some (.int .i64 (F 2)) ∧ w'.cell? ⟨w2.heap.size, 3, none⟩ = some (.int .i64 (F 3)) ∧ w'.cell? ⟨w2.heap.size, 4, none⟩ = some (.int .i64 (F 4)) ∧ w'.cell? ⟨w2.heap.size, 5, none⟩ = some (.int .i64 (F 5)) ∧ w'.cell? ⟨w2.heap.size, 6, none⟩ = some (.int .i64 (F 6)) ∧ w'.cell? ⟨w2.heap.size, 7, none⟩ = some (.int .i64 (F 7))) (first | (go_keep; done) | (simp; done)) (first | (go_at_call 17; refine (do_box w0 w3 _ p a b hv S L.length F w2.heap.size R3 HF (by omega) C3 z3 ncf nck (by first | exact (Below.refl _ _).drew | exact ((Below.refl _ _).alloc (Nat.le_refl _) _).drew) w3.heap.size rfl).mono ?_; rintro e w4 ⟨rfl, p4, D4⟩; have s4 : w3.heap.size ≤ w4.heap.size := Nat.le_trans (by simp) D4.size; have n4 : ¬ w4.heap.size = b := (by omega); have m4 : ¬ w4.heap.size = w2.heap.size := (by omega); have bx4 := D4.box; have fz4 := D4.frz; have h4 := D4.c0; obtain ⟨r0, r1, r2, r3, r4, r5, r6, r7⟩ := D4.cmd.all))
        · obtain ⟨M5, X5, O5⟩ := D4.new (dec S F).E (dec S F).N (by simp <;> omega) (by simp <;> omega)
          go_wp2_with fail
          go_meet
          exact ⟨_, p4, rfl, M5, X5, O5, by simp; omega⟩
        · obtain ⟨M5, X5, O5⟩ := D4.old (dec S F).E (dec S F).N (by simp <;> omega) (by simp <;> omega) (by omega) (by have := R3.live.below.size; omega) (by simp [go_sem]) (by simp [go_sem])
          go_wp2_with fail
          go_meet
          exact ⟨_, p4, rfl, M5, X5, O5, by simp; omega⟩
      case rest =>
        obtain ⟨w5, rfl⟩ : ∃ w5, w5 = wc := ⟨_, rfl⟩
        obtain ⟨q5, p4, rfl, M5, X5, O5, z5⟩ := hcut
        have hbb := M5.book.c0
        obtain ⟨t0, t1, t2, t3, t4, t5, t6, t7⟩ := X5.cmd.all
        have x0 := X5.a0
        have x1 := X5.a1
        clear R3 hc3 C3 d0 d1 d2 d3 d4 d5 d6 d7
        go_wp2_with fail
        refine (takes_box w0 _ p4 a b hv S (L.length) F _ _ M5 HF X5).mono ?_
        rintro e w6 ⟨rfl, hv6, R6, X6, O6, z6⟩
        clear hbb t0 t1 t2 t3 t4 t5 t6 t7 x0 x1
        have KP : (dec S F).E = 0 → Kept (doD S F).S.A F (dec S F).N 0 := fun hE => by
          have hi : hitOf S.A (F 1) = none := by rw [HF.out.2]; exact ids_hit M5.ids
          unfold doD
          rw [if_pos HF.out.1, hi]
          simp only [hE, if_true]
          exact kept_new M5.ids HF.out.2 _
        obtain ⟨S1, eS1⟩ : ∃ S1, S1 = (doD S F).S := ⟨_, rfl⟩
        rw [← eS1] at KP R6
        generalize hEE : (dec S F).E = E at *
        generalize hNN : (dec S F).N = N at *
        have HF1 := HF
        obtain ⟨cb, ecb⟩ : ∃ cb, cb = w2.heap.size := ⟨_, rfl⟩
        rw [← ecb] at X6
        rw [← ecb]
        clear M5 X5 O5 O6 z5 z6 eS1 hEE hNN ncf nck nb nc3 z3 hbl HF ecb
        go_wp2
        go_loopw [13] (fun i wr => ∃ (j : Nat) (p : Adr) (hv : Value) (S : Led), j ≤ Mo.length ∧ j ≤ 7 ∧ i = .int .i64 (j : Int) ∧ Run w0 wr p a b hv S (L.length + 1 + j) ∧ Side wr p b hv cb F q5 E N ∧ (E = 0 → Kept S.A F N j)) (fun i _ => 7 - (intOf i).toNat)
        case atStart => exact ⟨0, p4, _, _, Nat.zero_le _, by omega, rfl, R6, X6, KP⟩
        case round =>
          clear R6 X6 KP S1 hB
          obtain ⟨j, p, hv, S, hj, hj7, rfl, R, X, KP⟩ := hrel
          have hB := R.live.below
          have hcb := X.cl
          by_cases hlt : j < Mo.length ∧ j < 7
          · obtain ⟨hlt1, hlt2⟩ := hlt
            obtain ⟨f, hf⟩ : ∃ f, Mo[j]? = some f := ⟨Mo[j], by simp [hlt1]⟩
            obtain ⟨g, o, rfl, hg, hbd, c0, c1, c2, c3, c4, c5, c6, c7⟩ := (hM0.below hB (Nat.le_refl _)).at hf
            have jI : (j : Int) < (Mo.length : Int) := by omega
            have jI7 : (j : Int) < 7 := by omega
            have hwa : IntKind.i64.wrap ((L.length : Int) + 1) = (L.length : Int) + 1 := w64i _ (by omega)
            have hwb : IntKind.i64.wrap ((L.length : Int) + 1 + (j : Int)) = (L.length : Int) + 1 + (j : Int) := w64i _ (by omega)
            have HF0 := HF1
            obtain ⟨F0, eF0⟩ : ∃ F0, F0 = F := ⟨_, rfl⟩
            rw [← eF0] at HF0 HF1 X KP
            clear hf hM0 hR0 B0 HF1
            go_wp2_with fail
            refine (command_int f (L.length + 1 + j) _ (by omega) _ hbd (by omega)).mono ?_
            rintro e w2 ⟨F, rfl, HF, hb2⟩
            have R2 := R.below hb2
            have b3 : Below w2.heap.size w2 (w2.alloc (.cells (cmdC F) 23)) := (Below.refl _ _).alloc (Nat.le_refl _) _
            have R3 := R2.below b3
            have C3 := CmdAt.new w2 F 23
            have z3 : w2.heap.size < (w2.alloc (.cells (cmdC F) 23)).heap.size := by simp
            have nck : ¬ KFoot b hv w2.heap.size := fun e => by have := R2.book.lt e; omega
            have ncf : ¬ p.foot w2.heap.size := fun e => by have := R2.live.led.foot_lt e; omega
            have X3 := (X.below hb2).below b3
            clear c0 c1 c2 c3 c4 c5 c6 c7 hB X
            go_upto_region 17 with fail
            obtain ⟨w3, ew3⟩ : ∃ w3, w3 = w2.alloc (.cells (cmdC F) 23) := ⟨_, rfl⟩
            rw [← ew3] at R3 C3 z3 X3
            rw [← ew3]
            clear ew3 b3 R R2 hb2 hbd
            have hc3 := R3.book.c0
            have hbl := R3.book.b_lt
            obtain ⟨d0, d1, d2, d3, d4, d5, d6, d7⟩ := C3.all
            have nb : ¬ w3.heap.size = b := by omega
            have nc3 : ¬ w3.heap.size = w2.heap.size := by omega
            go_cut [15] (fun s wx => ∃ (q : Nat) (p4 : Adr), s = .pointer (some ⟨q, 0, none⟩) ∧ Mid w0 wx p4 a b hv S (doD S F).S (L.length + 1 + j) ∧ Side wx p4 b hv w2.heap.size F q (dec S F).E (dec S F).N ∧ (∀ g, g < w3.heap.size → ¬ p.foot g → wx.heap[g]? = w3.heap[g]? ∧ ¬ p4.foot g) ∧ w3.heap.size ≤ wx.heap.size)
            case first =>
              go_region_held3 (fun w' => w'.cell? ⟨b, 0, none⟩ = some (.pointer (some ⟨a, 0, none⟩)) ∧ w'.cell? ⟨w2.heap.size, 0, none⟩ = some (.int .i64 (F 0)) ∧ w'.cell? ⟨w2.heap.size, 1, none⟩ = some (.int .i64 (F 1)) ∧ w'.cell? ⟨w2.heap.size, 2, none⟩ = some (.int .i64 (F 2)) ∧ w'.cell? ⟨w2.heap.size, 3, none⟩ = some (.int .i64 (F 3)) ∧ w'.cell? ⟨w2.heap.size, 4, none⟩ = some (.int .i64 (F 4)) ∧ w'.cell? ⟨w2.heap.size, 5, none⟩ = some (.int .i64 (F 5)) ∧ w'.cell? ⟨w2.heap.size, 6, none⟩ = some (.int .i64 (F 6)) ∧ w'.cell? ⟨w2.heap.size, 7, none⟩ = some (.int .i64 (F 7))) (first | (go_keep; done) | (simp; done)) (first | (go_at_call 17; refine (do_box w0 w3 _ p a b hv S (L.length + 1 + j) F w2.heap.size R3 HF (by omega) C3 z3 ncf nck (by first | exact (Below.refl _ _).drew | exact ((Below.refl _ _).alloc (Nat.le_refl _) _).drew) w3.heap.size rfl).mono ?_; rintro e w4 ⟨rfl, p4, D4⟩; have s4 : w3.heap.size ≤ w4.heap.size := Nat.le_trans (by simp) D4.size; have n4 : ¬ w4.heap.size = b := (by omega); have m4 : ¬ w4.heap.size = w2.heap.size := (by omega); have bx4 := D4.box; have fz4 := D4.frz; have h4 := D4.c0; obtain ⟨r0, r1, r2, r3, r4, r5, r6, r7⟩ := D4.cmd.all))
              · obtain ⟨M5, X5, O5⟩ := D4.new (dec S F).E (dec S F).N (by simp <;> omega) (by simp <;> omega)
                go_wp2_with fail
                go_meet
                exact ⟨_, p4, rfl, M5, X5, O5, by simp; omega⟩
              · obtain ⟨M5, X5, O5⟩ := D4.old (dec S F).E (dec S F).N (by simp <;> omega) (by simp <;> omega) (by omega) (by have := R3.live.below.size; omega) (by simp [go_sem]) (by simp [go_sem])
                go_wp2_with fail
                go_meet
                exact ⟨_, p4, rfl, M5, X5, O5, by simp; omega⟩
            case rest =>
              obtain ⟨w5, rfl⟩ : ∃ w5, w5 = wc := ⟨_, rfl⟩
              obtain ⟨q5, p4, rfl, M5, X5, O5, z5⟩ := hcut
              have XA := X3.turn (p' := p4) (hv' := hv) z5 (fun g hg h1 h2 => ⟨(O5 g hg h1).1, (O5 g hg h1).2, h2⟩)
              have hbb := M5.book.c0
              obtain ⟨t0, t1, t2, t3, t4, t5, t6, t7⟩ := X5.cmd.all
              have x0 := X5.a0
              have x1 := X5.a1
              clear R3 hc3 C3 d0 d1 d2 d3 d4 d5 d6 d7
              go_wp2_with fail
              refine (takes_box w0 _ p4 a b hv S (L.length + 1 + j) F _ _ M5 HF X5).mono ?_
              rintro e w6 ⟨rfl, hv6, R6, X6, O6, z6⟩
              clear hbb t0 t1 t2 t3 t4 t5 t6 t7 x0 x1
              have XB := XA.turn (p' := p4) (hv' := hv6) z6 (fun g hg h1 h2 => ⟨(O6 g hg h2).1, h1, (O6 g hg h2).2⟩)
              have KP2 : E = 0 → Kept (doD S F).S.A F0 N (j + 1) := fun hE => kept_do (KP hE) (by rw [HF.out.2, HF0.out.2]; omega)
              clear M5 X5 O5 O6 X3 XA KP HF HF0
              go_wp2
              go_roundw
              case rel => exact ⟨j + 1, p4, hv6, _, by omega, by omega, by go_num, R6, by rw [← eF0]; exact XB, by rw [← eF0]; exact KP2⟩
              case measure => simp [intOf]; omega
          · have xe := X.a0
            go_upto_region 14 with fail
            go_cut [68] (fun s wx => s = .bool false ∧ wr = wx)
            case first =>
              by_cases hlt1 : j < Mo.length
              · have hlt2 : ¬ (j : Int) < 7 := by omega
                have jI : (j : Int) < (Mo.length : Int) := by omega
                go_wp2_with fail
                go_meet
                exact ⟨rfl, rfl⟩
              · have jI : ¬ (j : Int) < (Mo.length : Int) := by omega
                go_wp2_with fail
                go_meet
                exact ⟨rfl, rfl⟩
            case rest =>
              obtain ⟨rfl, rfl⟩ := hcut
              by_cases hE : E = 0
              · have K0 := KP hE
                have x1 := X.a1
                have hm7 : j ≤ 7 := hj7
                subst hE
                have hc := R.book.c0
                clear hM0 hR0 KP hB hlt
                have lj := R.jl
                go_wp2_with fail
                refine (journal_run _ R).mono ?_
                rintro e wj ⟨rfl, rfl⟩
                have R3 := R
                have C3 := X.cmd
                have z3 := X.cl
                have ncf := X.cf
                have nck := X.ck
                have hc3 := R3.book.c0
                have hbl := R3.book.b_lt
                obtain ⟨q0, q1, q2, q3, q4, q5', q6, q7⟩ := C3.all
                have nb : ¬ wr.heap.size = b := by omega
                have nc3 : ¬ wr.heap.size = cb := by omega
                have HD : Hid (doD S F = ⟨S, 0, N⟩) := do_again K0 hm7 HF1.out.1
                have hn9 : L.length + 1 + j ≤ 1048600 := by omega
                go_wp2
                go_cut [17] (fun s wx => ∃ (q : Nat) (p4 : Adr), s = .pointer (some ⟨q, 0, none⟩) ∧ Mid w0 wx p4 a b hv S S (L.length + 1 + j) ∧ Side wx p4 b hv cb F q 0 N ∧ (∀ g, g < wr.heap.size → ¬ p.foot g → wx.heap[g]? = wr.heap[g]? ∧ ¬ p4.foot g) ∧ wr.heap.size ≤ wx.heap.size)
                case first =>
                  go_region_held3 (fun w' => w'.cell? ⟨b, 0, none⟩ = some (.pointer (some ⟨a, 0, none⟩)) ∧ w'.cell? ⟨cb, 0, none⟩ = some (.int .i64 (F 0)) ∧ w'.cell? ⟨cb, 1, none⟩ = some (.int .i64 (F 1)) ∧ w'.cell? ⟨cb, 2, none⟩ = some (.int .i64 (F 2)) ∧ w'.cell? ⟨cb, 3, none⟩ = some (.int .i64 (F 3)) ∧ w'.cell? ⟨cb, 4, none⟩ = some (.int .i64 (F 4)) ∧ w'.cell? ⟨cb, 5, none⟩ = some (.int .i64 (F 5)) ∧ w'.cell? ⟨cb, 6, none⟩ = some (.int .i64 (F 6)) ∧ w'.cell? ⟨cb, 7, none⟩ = some (.int .i64 (F 7))) (first | (go_keep; done) | (simp; done)) (first | (go_at_call 17; refine (do_still w0 wr _ p a b hv S (L.length + 1 + j) F 0 N cb R3 HD hn9 C3 z3 ncf nck (by first | exact (Below.refl _ _).drew | exact ((Below.refl _ _).alloc (Nat.le_refl _) _).drew) wr.heap.size rfl).mono ?_; rintro e w4 ⟨rfl, p4, D4⟩; have s4 : wr.heap.size ≤ w4.heap.size := Nat.le_trans (by simp) D4.size; have n4 : ¬ w4.heap.size = b := (by omega); have m4 : ¬ w4.heap.size = cb := (by omega); have bx4 := D4.box; have fz4 := D4.frz; have h4 := D4.c0; obtain ⟨r0, r1, r2, r3, r4, r5, r6, r7⟩ := D4.cmd.all))
                  · obtain ⟨M5, X5, O5⟩ := D4.new 0 N (by simp <;> omega) (by simp <;> omega)
                    go_wp2_with fail
                    go_meet
                    exact ⟨_, p4, rfl, M5, X5, O5, by simp; omega⟩
                  · obtain ⟨M5, X5, O5⟩ := D4.old 0 N (by simp <;> omega) (by simp <;> omega) (by omega) (by have := R3.live.below.size; omega) (by simp [go_sem]) (by simp [go_sem])
                    go_wp2_with fail
                    go_meet
                    exact ⟨_, p4, rfl, M5, X5, O5, by simp; omega⟩
                case rest =>
                  obtain ⟨w5, rfl⟩ : ∃ w5, w5 = wc := ⟨_, rfl⟩
                  obtain ⟨q5, p4, rfl, M5, X5, O5, z5⟩ := hcut
                  have XA := X.turn (p' := p4) (hv' := hv) z5 (fun g hg h1 h2 => ⟨(O5 g hg h1).1, (O5 g hg h1).2, h2⟩)
                  have R5 := M5.run
                  have cc5 := X5.cl
                  obtain ⟨t0, t1, t2, t3, t4, t5, t6, t7⟩ := X5.cmd.all
                  clear M5 O5 R3 C3 q0 q1 q2 q3 q4 q5' q6 q7 hc3 R X HD nb nc3 z3 ncf nck hbl xe x1 hc
                  have hF6 : 0 ≤ F 6 := (right_six HF1.out.1).1
                  have hF7 : 0 ≤ F 7 := (right_six HF1.out.1).2.1
                  have hF6b : F 6 ≤ 4294967295 := (right_six HF1.out.1).2.2.1
                  have hF7b : F 7 ≤ 1000 := (right_six HF1.out.1).2.2.2
                  have tm6 : Int.tmod (F 6) 60 = F 6 % 60 := Int.tmod_eq_emod_of_nonneg hF6
                  have tm7 : Int.tmod (F 7) 1000 = F 7 % 1000 := Int.tmod_eq_emod_of_nonneg hF7
                  have hw6 : IntKind.i64.wrap (F 6 % 60 + 1) = F 6 % 60 + 1 := w64i _ (by omega)
                  have hw7 : IntKind.i64.wrap (F 7 % 1000 + 1) = F 7 % 1000 + 1 := w64i _ (by omega)
                  by_cases k56 : F 0 = 5 ∨ F 0 = 6
                  · go_upto_region 24 with fail
                    go_cut [115] (fun s wx => s = .bool true ∧ (w5.alloc (.cells (cmdC F) 23)) = wx)
                    case first =>
                      by_cases k5 : F 0 = 5
                      · have k5' : (F 0 == 5) = true := by simpa using k5
                        clear k5 k56
                        go_wp2_with fail
                        go_meet
                        exact ⟨rfl, rfl⟩
                      · have k6 : F 0 = 6 := by omega
                        have k5' : (F 0 == 5) = false := by simpa using k5
                        have k6' : (F 0 == 6) = true := by simpa using k6
                        clear k5 k6 k56
                        go_wp2_with fail
                        go_meet
                        exact ⟨rfl, rfl⟩
                    case rest =>
                      obtain ⟨rfl, rfl⟩ := hcut
                      have b6 : Below w5.heap.size w5 (w5.alloc (.cells #[.int .i64 (F 0), .int .i64 (F 1), .int .i64 (F 2), .int .i64 (F 3), .int .i64 (F 4), .int .i64 (F 5), .int .i64 (F 6 % 60 + 1), .int .i64 (F 7)] 23)) := (Below.refl _ _).alloc (Nat.le_refl _) _
                      have R6 := R5.below b6
                      have XA6 := XA.below b6
                      have X6 := X5.below b6
                      have C6 : CmdAt (w5.alloc (.cells #[.int .i64 (F 0), .int .i64 (F 1), .int .i64 (F 2), .int .i64 (F 3), .int .i64 (F 4), .int .i64 (F 5), .int .i64 (F 6 % 60 + 1), .int .i64 (F 7)] 23)) w5.heap.size (eight (F 0) (F 1) (F 2) (F 3) (F 4) (F 5) (F 6 % 60 + 1) (F 7)) := CmdAt.new w5 (eight (F 0) (F 1) (F 2) (F 3) (F 4) (F 5) (F 6 % 60 + 1) (F 7)) 23
                      have z6 : w5.heap.size < (w5.alloc (.cells #[.int .i64 (F 0), .int .i64 (F 1), .int .i64 (F 2), .int .i64 (F 3), .int .i64 (F 4), .int .i64 (F 5), .int .i64 (F 6 % 60 + 1), .int .i64 (F 7)] 23)).heap.size := by simp
                      have ncf6 : ¬ p4.foot w5.heap.size := fun e => by have := R5.live.led.foot_lt e; omega
                      have nck6 : ¬ KFoot b hv w5.heap.size := fun e => by have := R5.book.lt e; omega
                      have HD6 : Hid (doD S (eight (F 0) (F 1) (F 2) (F 3) (F 4) (F 5) (F 6 % 60 + 1) (F 7)) = ⟨S, 1, 0⟩) := do_diff K0 hm7 HF1.out.1 rfl 6 (by omega) (by show F 6 % 60 + 1 ≠ F 6; omega)
                      go_upto_region 27 with fail
                      obtain ⟨w7, ew7⟩ : ∃ w7, w7 = (w5.alloc (.cells #[.int .i64 (F 0), .int .i64 (F 1), .int .i64 (F 2), .int .i64 (F 3), .int .i64 (F 4), .int .i64 (F 5), .int .i64 (F 6 % 60 + 1), .int .i64 (F 7)] 23)) := ⟨_, rfl⟩
                      rw [← ew7] at R6 XA6 X6 C6 z6
                      rw [← ew7]
                      obtain ⟨ob, eob⟩ : ∃ ob, ob = w5.heap.size := ⟨_, rfl⟩
                      rw [← eob] at C6 z6 ncf6 nck6
                      rw [← eob]
                      clear ew7 eob b6 R5 XA X5 t0 t1 t2 t3 t4 t5 t6 t7
                      have hc6 := R6.book.c0
                      have hbl6 := R6.book.b_lt
                      obtain ⟨q0, q1, q2, q3, q4, q6', q6, q7⟩ := C6.all
                      have nb6 : ¬ w7.heap.size = b := by omega
                      have nc6 : ¬ w7.heap.size = ob := by omega
                      go_cut [19] (fun s wx => ∃ (q : Nat) (p5 : Adr), s = .pointer (some ⟨q, 0, none⟩) ∧ Mid w0 wx p5 a b hv S S (L.length + 1 + j) ∧ Side wx p5 b hv ob (eight (F 0) (F 1) (F 2) (F 3) (F 4) (F 5) (F 6 % 60 + 1) (F 7)) q 1 0 ∧ (∀ g, g < w7.heap.size → ¬ p4.foot g → wx.heap[g]? = w7.heap[g]? ∧ ¬ p5.foot g) ∧ w7.heap.size ≤ wx.heap.size)
                      case first =>
                        go_region_held3 (fun w' => w'.cell? ⟨b, 0, none⟩ = some (.pointer (some ⟨a, 0, none⟩)) ∧ w'.cell? ⟨ob, 0, none⟩ = some (.int .i64 ((eight (F 0) (F 1) (F 2) (F 3) (F 4) (F 5) (F 6 % 60 + 1) (F 7)) 0)) ∧ w'.cell? ⟨ob, 1, none⟩ = some (.int .i64 ((eight (F 0) (F 1) (F 2) (F 3) (F 4) (F 5) (F 6 % 60 + 1) (F 7)) 1)) ∧ w'.cell? ⟨ob, 2, none⟩ = some (.int .i64 ((eight (F 0) (F 1) (F 2) (F 3) (F 4) (F 5) (F 6 % 60 + 1) (F 7)) 2)) ∧ w'.cell? ⟨ob, 3, none⟩ = some (.int .i64 ((eight (F 0) (F 1) (F 2) (F 3) (F 4) (F 5) (F 6 % 60 + 1) (F 7)) 3)) ∧ w'.cell? ⟨ob, 4, none⟩ = some (.int .i64 ((eight (F 0) (F 1) (F 2) (F 3) (F 4) (F 5) (F 6 % 60 + 1) (F 7)) 4)) ∧ w'.cell? ⟨ob, 5, none⟩ = some (.int .i64 ((eight (F 0) (F 1) (F 2) (F 3) (F 4) (F 5) (F 6 % 60 + 1) (F 7)) 5)) ∧ w'.cell? ⟨ob, 6, none⟩ = some (.int .i64 ((eight (F 0) (F 1) (F 2) (F 3) (F 4) (F 5) (F 6 % 60 + 1) (F 7)) 6)) ∧ w'.cell? ⟨ob, 7, none⟩ = some (.int .i64 ((eight (F 0) (F 1) (F 2) (F 3) (F 4) (F 5) (F 6 % 60 + 1) (F 7)) 7))) (first | (go_keep; done) | (simp; done)) (first | (go_at_call 17; refine (do_still w0 w7 _ p4 a b hv S (L.length + 1 + j) (eight (F 0) (F 1) (F 2) (F 3) (F 4) (F 5) (F 6 % 60 + 1) (F 7)) 1 0 ob R6 HD6 hn9 C6 z6 ncf6 nck6 (by first | exact (Below.refl _ _).drew | exact ((Below.refl _ _).alloc (Nat.le_refl _) _).drew) w7.heap.size rfl).mono ?_; rintro e w4 ⟨rfl, p5, D4⟩; have s4 : w7.heap.size ≤ w4.heap.size := Nat.le_trans (by simp) D4.size; have n4 : ¬ w4.heap.size = b := (by omega); have m4 : ¬ w4.heap.size = ob := (by omega); have bx4 := D4.box; have fz4 := D4.frz; have h4 := D4.c0; obtain ⟨r0, r1, r2, r3, r4, r5, r6, r7⟩ := D4.cmd.all))
                        · obtain ⟨M5, X5, O5⟩ := D4.new 1 0 (by simp <;> omega) (by simp <;> omega)
                          go_wp2_with fail
                          go_meet
                          exact ⟨_, p5, rfl, M5, X5, O5, by simp; omega⟩
                        · obtain ⟨M5, X5, O5⟩ := D4.old 1 0 (by simp <;> omega) (by simp <;> omega) (by omega) (by have := R6.live.below.size; omega) (by simp [go_sem]) (by simp [go_sem])
                          go_wp2_with fail
                          go_meet
                          exact ⟨_, p5, rfl, M5, X5, O5, by simp; omega⟩
                      case rest =>
                        obtain ⟨w9, rfl⟩ : ∃ w9, w9 = wc := ⟨_, rfl⟩
                        obtain ⟨q9, p5, rfl, M9, X9, O9, z9⟩ := hcut
                        have XB := XA6.turn (p' := p5) (hv' := hv) z9 (fun g hg h1 h2 => ⟨(O9 g hg h1).1, (O9 g hg h1).2, h2⟩)
                        have XC := X6.turn (p' := p5) (hv' := hv) z9 (fun g hg h1 h2 => ⟨(O9 g hg h1).1, (O9 g hg h1).2, h2⟩)
                        have R9 := M9.run
                        have c9 := R9.book.c0
                        clear M9 O9 R6 C6 hc6 q0 q1 q2 q3 q4 q6' q6 q7 XA6 X6 HD6 nb6 nc6 z6 hbl6 ncf6 nck6
                        go_wp2_with fail
                        refine (journal_run _ R9).mono ?_
                        rintro e wj ⟨rfl, rfl⟩
                        go_wp2_with fail
                        refine (kright_any p5 a b hv S _ R9.duo).mono ?_
                        rintro e w10 ⟨rfl, hb10⟩
                        have XB1 := XB.below hb10
                        have XC1 := XC.below hb10
                        have X91 := X9.below hb10
                        have BB := (R9.below hb10).live.below
                        have BW : Below w.heap.size w w10 := B0.trans (BB.mono (Nat.le_of_lt z0))
                        have u0 := XB1.a0
                        have u1 := XB1.a1
                        have v0 := XC1.a0
                        have v1 := XC1.a1
                        have s0 := X91.a0
                        have s1 := X91.a1
                        clear XB XC X9 R9 c9 hb10 XB1 XC1 X91 BB
                        go_wp2
                        go_ret
                        exact ⟨rfl, BW⟩

                  · have k5' : (F 0 == 5) = false := by
                      have : ¬ F 0 = 5 := fun h => k56 (Or.inl h)
                      simpa using this
                    have k6' : (F 0 == 6) = false := by
                      have : ¬ F 0 = 6 := fun h => k56 (Or.inr h)
                      simpa using this
                    clear k56
                    have b6 : Below w5.heap.size w5 (w5.alloc (.cells #[.int .i64 8, .int .i64 (F 1), .int .i64 0, .int .i64 0, .int .i64 0, .int .i64 0, .int .i64 0, .int .i64 (F 7 % 1000 + 1)] 23)) := (Below.refl _ _).alloc (Nat.le_refl _) _
                    have R6 := R5.below b6
                    have XA6 := XA.below b6
                    have X6 := X5.below b6
                    have C6 : CmdAt (w5.alloc (.cells #[.int .i64 8, .int .i64 (F 1), .int .i64 0, .int .i64 0, .int .i64 0, .int .i64 0, .int .i64 0, .int .i64 (F 7 % 1000 + 1)] 23)) w5.heap.size (eight 8 (F 1) 0 0 0 0 0 (F 7 % 1000 + 1)) := CmdAt.new w5 (eight 8 (F 1) 0 0 0 0 0 (F 7 % 1000 + 1)) 23
                    have z6 : w5.heap.size < (w5.alloc (.cells #[.int .i64 8, .int .i64 (F 1), .int .i64 0, .int .i64 0, .int .i64 0, .int .i64 0, .int .i64 0, .int .i64 (F 7 % 1000 + 1)] 23)).heap.size := by simp
                    have ncf6 : ¬ p4.foot w5.heap.size := fun e => by have := R5.live.led.foot_lt e; omega
                    have nck6 : ¬ KFoot b hv w5.heap.size := fun e => by have := R5.book.lt e; omega
                    have HD6 : Hid (doD S (eight 8 (F 1) 0 0 0 0 0 (F 7 % 1000 + 1)) = ⟨S, 1, 0⟩) := do_diff K0 hm7 HF1.out.1 rfl 7 (by omega) (by show F 7 % 1000 + 1 ≠ F 7; omega)
                    go_upto_region 27 with fail
                    obtain ⟨w7, ew7⟩ : ∃ w7, w7 = (w5.alloc (.cells #[.int .i64 8, .int .i64 (F 1), .int .i64 0, .int .i64 0, .int .i64 0, .int .i64 0, .int .i64 0, .int .i64 (F 7 % 1000 + 1)] 23)) := ⟨_, rfl⟩
                    rw [← ew7] at R6 XA6 X6 C6 z6
                    rw [← ew7]
                    obtain ⟨ob, eob⟩ : ∃ ob, ob = w5.heap.size := ⟨_, rfl⟩
                    rw [← eob] at C6 z6 ncf6 nck6
                    rw [← eob]
                    clear ew7 eob b6 R5 XA X5 t0 t1 t2 t3 t4 t5 t6 t7
                    have hc6 := R6.book.c0
                    have hbl6 := R6.book.b_lt
                    obtain ⟨q0, q1, q2, q3, q4, q6', q6, q7⟩ := C6.all
                    have nb6 : ¬ w7.heap.size = b := by omega
                    have nc6 : ¬ w7.heap.size = ob := by omega
                    go_cut [19] (fun s wx => ∃ (q : Nat) (p5 : Adr), s = .pointer (some ⟨q, 0, none⟩) ∧ Mid w0 wx p5 a b hv S S (L.length + 1 + j) ∧ Side wx p5 b hv ob (eight 8 (F 1) 0 0 0 0 0 (F 7 % 1000 + 1)) q 1 0 ∧ (∀ g, g < w7.heap.size → ¬ p4.foot g → wx.heap[g]? = w7.heap[g]? ∧ ¬ p5.foot g) ∧ w7.heap.size ≤ wx.heap.size)
                    case first =>
                      go_region_held3 (fun w' => w'.cell? ⟨b, 0, none⟩ = some (.pointer (some ⟨a, 0, none⟩)) ∧ w'.cell? ⟨ob, 0, none⟩ = some (.int .i64 ((eight 8 (F 1) 0 0 0 0 0 (F 7 % 1000 + 1)) 0)) ∧ w'.cell? ⟨ob, 1, none⟩ = some (.int .i64 ((eight 8 (F 1) 0 0 0 0 0 (F 7 % 1000 + 1)) 1)) ∧ w'.cell? ⟨ob, 2, none⟩ = some (.int .i64 ((eight 8 (F 1) 0 0 0 0 0 (F 7 % 1000 + 1)) 2)) ∧ w'.cell? ⟨ob, 3, none⟩ = some (.int .i64 ((eight 8 (F 1) 0 0 0 0 0 (F 7 % 1000 + 1)) 3)) ∧ w'.cell? ⟨ob, 4, none⟩ = some (.int .i64 ((eight 8 (F 1) 0 0 0 0 0 (F 7 % 1000 + 1)) 4)) ∧ w'.cell? ⟨ob, 5, none⟩ = some (.int .i64 ((eight 8 (F 1) 0 0 0 0 0 (F 7 % 1000 + 1)) 5)) ∧ w'.cell? ⟨ob, 6, none⟩ = some (.int .i64 ((eight 8 (F 1) 0 0 0 0 0 (F 7 % 1000 + 1)) 6)) ∧ w'.cell? ⟨ob, 7, none⟩ = some (.int .i64 ((eight 8 (F 1) 0 0 0 0 0 (F 7 % 1000 + 1)) 7))) (first | (go_keep; done) | (simp; done)) (first | (go_at_call 17; refine (do_still w0 w7 _ p4 a b hv S (L.length + 1 + j) (eight 8 (F 1) 0 0 0 0 0 (F 7 % 1000 + 1)) 1 0 ob R6 HD6 hn9 C6 z6 ncf6 nck6 (by first | exact (Below.refl _ _).drew | exact ((Below.refl _ _).alloc (Nat.le_refl _) _).drew) w7.heap.size rfl).mono ?_; rintro e w4 ⟨rfl, p5, D4⟩; have s4 : w7.heap.size ≤ w4.heap.size := Nat.le_trans (by simp) D4.size; have n4 : ¬ w4.heap.size = b := (by omega); have m4 : ¬ w4.heap.size = ob := (by omega); have bx4 := D4.box; have fz4 := D4.frz; have h4 := D4.c0; obtain ⟨r0, r1, r2, r3, r4, r5, r6, r7⟩ := D4.cmd.all))
                      · obtain ⟨M5, X5, O5⟩ := D4.new 1 0 (by simp <;> omega) (by simp <;> omega)
                        go_wp2_with fail
                        go_meet
                        exact ⟨_, p5, rfl, M5, X5, O5, by simp; omega⟩
                      · obtain ⟨M5, X5, O5⟩ := D4.old 1 0 (by simp <;> omega) (by simp <;> omega) (by omega) (by have := R6.live.below.size; omega) (by simp [go_sem]) (by simp [go_sem])
                        go_wp2_with fail
                        go_meet
                        exact ⟨_, p5, rfl, M5, X5, O5, by simp; omega⟩
                    case rest =>
                      obtain ⟨w9, rfl⟩ : ∃ w9, w9 = wc := ⟨_, rfl⟩
                      obtain ⟨q9, p5, rfl, M9, X9, O9, z9⟩ := hcut
                      have XB := XA6.turn (p' := p5) (hv' := hv) z9 (fun g hg h1 h2 => ⟨(O9 g hg h1).1, (O9 g hg h1).2, h2⟩)
                      have XC := X6.turn (p' := p5) (hv' := hv) z9 (fun g hg h1 h2 => ⟨(O9 g hg h1).1, (O9 g hg h1).2, h2⟩)
                      have R9 := M9.run
                      have c9 := R9.book.c0
                      clear M9 O9 R6 C6 hc6 q0 q1 q2 q3 q4 q6' q6 q7 XA6 X6 HD6 nb6 nc6 z6 hbl6 ncf6 nck6
                      go_wp2_with fail
                      refine (journal_run _ R9).mono ?_
                      rintro e wj ⟨rfl, rfl⟩
                      go_wp2_with fail
                      refine (kright_any p5 a b hv S _ R9.duo).mono ?_
                      rintro e w10 ⟨rfl, hb10⟩
                      have XB1 := XB.below hb10
                      have XC1 := XC.below hb10
                      have X91 := X9.below hb10
                      have BB := (R9.below hb10).live.below
                      have BW : Below w.heap.size w w10 := B0.trans (BB.mono (Nat.le_of_lt z0))
                      have u0 := XB1.a0
                      have u1 := XB1.a1
                      have v0 := XC1.a0
                      have v1 := XC1.a1
                      have s0 := X91.a0
                      have s1 := X91.a1
                      clear XB XC X9 R9 c9 hb10 XB1 XC1 X91 BB
                      go_wp2
                      go_ret
                      exact ⟨rfl, BW⟩
              · clear hM0 hR0 KP hlt
                go_wp2_with fail
                refine (kright_any p a b hv S _ R.duo).mono ?_
                rintro e w10 ⟨rfl, hb10⟩
                have BB := (R.below hb10).live.below
                have BW : Below w.heap.size w w10 := B0.trans (BB.mono (Nat.le_of_lt z0))
                clear R X hb10 BB
                go_wp2
                go_ret
                exact ⟨rfl, BW⟩

end Go.Proofs.YtdblmheoghhepaaDoor
