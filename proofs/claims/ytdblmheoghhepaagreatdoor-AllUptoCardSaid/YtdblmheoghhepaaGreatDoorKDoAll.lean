/- 'Do': commands that are not right; commands sent again. -/
import Derived.Test.YtdblmheoghhepaaGreatDoorKSpec
import Derived.Test.YtdblmheoghhepaaGreatDoorKJournal
namespace Go.Proofs.YtdblmheoghhepaaGreatDoor
open Go.RowKit

def frS (f : Nat → Int) : ByteArray := strOfNums (frameL f)
def hitOf (A : Nat → Int) (id : Int) : Option Nat := (List.range 8).find? (hitA A id)
def ten (a0 a1 a2 a3 a4 a5 a6 a7 a8 a9 : Int) : Nat → Int
  | 0 => a0 | 1 => a1 | 2 => a2 | 3 => a3 | 4 => a4 | 5 => a5 | 6 => a6 | 7 => a7 | 8 => a8 | _ => a9
def ansRow (f : Nat → Int) (E N : Int) : Nat → Int := ten (f 0) (f 1) (f 2) (f 3) (f 4) (f 5) (f 6) (f 7) E N
/-- What 'Do' does and answers. -/
def doD (S : Led) (f : Nat → Int) : Dec :=
  if refOk f = true then
    match hitOf S.A (f 1) with
    | some i => if same8 (rowA S.A i) f = true then ⟨S, rowA S.A i 8, rowA S.A i 9⟩ else ⟨S, 1, 0⟩
    | none => if (dec S f).E = 0 then ⟨{ (dec S f).S with A := pushA S.A (ansRow f 0 (dec S f).N), J := S.J ++ bytesS (frS f) }, 0, (dec S f).N⟩ else ⟨S, (dec S f).E, (dec S f).N⟩
  else ⟨S, 1, 0⟩

/-- What holds behind 'Do'. -/
def Done (w : World) (p : Adr) (D : Dec) (e : Ending) (w' : World) : Prop :=
  ∃ p' : Adr, e = .returned (ansV D.E D.N) ∧ LedAt w' p' D.S ∧ Turned p.foot w w' ∧ (∀ k, p'.foot k → p.foot k ∨ w.heap.size ≤ k) ∧ p'.a = p.a

theorem TabW.turned {F : Nat → Prop} {w w' : World} (h : TabW w) (hT : Turned F w w') (h0 : ¬ F 0) : TabW w' := by
  have hp := h.pos
  obtain ⟨tt, fr, hg⟩ := h
  exact ⟨tt, fr, (hT.block 0 hp h0).trans hg⟩

theorem done_below {w w' : World} {p : Adr} {S : Led} {E N : Int} (h : LedAt w p S) (hb : Below w.heap.size w w') : Done w p ⟨S, E, N⟩ (.returned (ansV E N)) w' :=
  ⟨p, rfl, h.below hb, Turned.ofBelow hb, fun _ hk => Or.inl hk, rfl⟩

theorem hitOf_some {A : Nat → Int} {id : Int} {i : Nat} (h : hitOf A id = some i) : i < 8 ∧ hitA A id i = true ∧ ∀ j, j < i → hitA A id j = false := by
  unfold hitOf at h
  have h1 := List.find?_some h
  have h2 := List.mem_of_find?_eq_some h
  refine ⟨by simpa using h2, h1, fun j hj => ?_⟩
  rw [List.find?_range_eq_some] at h
  have := h.2.2 j hj
  simpa using this
theorem hitOf_none {A : Nat → Int} {id : Int} (h : hitOf A id = none) : ∀ j, j < 8 → hitA A id j = false := by
  unfold hitOf at h
  rw [List.find?_eq_none] at h
  intro j hj
  have := h j (by simpa using hj)
  simpa using this

theorem of_hit (b o : Nat) (A : Nat → Int) (id : Int) (w : World) (h : NumsAt w b o 80 A) (hR : Rows8 A) (i : Nat) (hi : hitOf A id = some i) :
    Calls Tryz.prog 50 #[.pointer (some ⟨b, o, none⟩), .int .i64 id] w fun e w' => e = .returned (.tuple #[tenV (rowA A i), .bool true]) ∧ Below w.heap.size w w' := by
  obtain ⟨i1, i2, i3⟩ := hitOf_some hi
  refine (of_any b o A id w h hR).mono ?_
  rintro e w' ⟨⟨k, k1, k2, k3, rfl⟩ | ⟨k1, rfl⟩, hb⟩
  · have : k = i := by
      rcases Nat.lt_trichotomy k i with h1 | h1 | h1
      · rw [i3 k h1] at k2; cases k2
      · exact h1
      · rw [k3 i h1] at i2; cases i2
    subst this
    exact ⟨rfl, hb⟩
  · rw [k1 i i1] at i2; cases i2
theorem of_none (b o : Nat) (A : Nat → Int) (id : Int) (w : World) (h : NumsAt w b o 80 A) (hR : Rows8 A) (hi : hitOf A id = none) :
    Calls Tryz.prog 50 #[.pointer (some ⟨b, o, none⟩), .int .i64 id] w fun e w' => e = .returned (.tuple #[tenV zeroH, .bool false]) ∧ Below w.heap.size w w' := by
  have h0 := hitOf_none hi
  refine (of_any b o A id w h hR).mono ?_
  rintro e w' ⟨⟨k, k1, k2, k3, rfl⟩ | ⟨k1, rfl⟩, hb⟩
  · rw [h0 k k1] at k2; cases k2
  · exact ⟨rfl, hb⟩

theorem nums_set10 {w : World} {b : Nat} {Z : Nat → Int} (h : NumsAt w b 0 10 Z) (R : Nat → Int) :
    NumsAt ((((((((((w.setCell ⟨b, 0, none⟩ (.int .i64 (R 0))).setCell ⟨b, 1, none⟩ (.int .i64 (R 1))).setCell ⟨b, 2, none⟩ (.int .i64 (R 2))).setCell ⟨b, 3, none⟩ (.int .i64 (R 3))).setCell ⟨b, 4, none⟩ (.int .i64 (R 4))).setCell ⟨b, 5, none⟩ (.int .i64 (R 5))).setCell ⟨b, 6, none⟩ (.int .i64 (R 6))).setCell ⟨b, 7, none⟩ (.int .i64 (R 7))).setCell ⟨b, 8, none⟩ (.int .i64 (R 8))).setCell ⟨b, 9, none⟩ (.int .i64 (R 9))) b 0 10 R := by
  show NumsAt (w.setCells b 0 (tenL R)) b 0 10 R
  intro k hk
  rw [World.cell?_setCells_in b (tenL R) 0 w (fun i hi => by rw [h i (by simpa using hi)]; rfl) k (by simpa using hk), (numList_ten R).get]

set_option maxRecDepth 100000 in
set_option maxHeartbeats 2000000 in
theorem do_bad (p : Adr) (S : Led) (f : Nat → Int) (w : World) (hT : TabW w) (h : LedAt w p S) (hr : refOk f = false) :
    Calls Tryz.prog 29 #[.pointer (some ⟨p.a, 0, none⟩), cmdV f] w (Done w p ⟨S, 1, 0⟩) := by
  have hT1 := (hT.alloc (.cells (cmdC f) 33)).alloc (.cells #[.int .i64 0, .int .i64 0] 66)
  have B1 : Below w.heap.size w ((w.alloc (.cells (cmdC f) 33)).alloc (.cells #[.int .i64 0, .int .i64 0] 66)) := ((Below.refl _ _).alloc (Nat.le_refl _) _).alloc (by simp) _
  go_enter Tryz.func29, Tryz.ntmps29
  go_wp2_with fail
  refine (frame_no f _ hT1 (by rw [right_ref]; exact hr)).mono ?_
  rintro e w1 ⟨rfl, hb1⟩
  have a0 : w1.cell? ⟨w.heap.size + 1, 0, none⟩ = some (.int .i64 0) := (hb1.cell (p := ⟨w.heap.size + 1, 0, none⟩) (by simp)).trans (by simp [go_sem])
  have a1 : w1.cell? ⟨w.heap.size + 1, 1, none⟩ = some (.int .i64 0) := (hb1.cell (p := ⟨w.heap.size + 1, 1, none⟩) (by simp)).trans (by simp [go_sem])
  have f0 : w1.frozen? ⟨w.heap.size + 1, 0, none⟩ = false := (hb1.frozen (p := ⟨w.heap.size + 1, 0, none⟩) (by simp)).trans (by simp [go_sem])
  have f1 : w1.frozen? ⟨w.heap.size + 1, 1, none⟩ = false := (hb1.frozen (p := ⟨w.heap.size + 1, 1, none⟩) (by simp)).trans (by simp [go_sem])
  have BB := B1.trans (hb1.mono (by simp; omega))
  have B2 := (BB.setCell (p := ⟨w.heap.size + 1, 0, none⟩) (Nat.le_succ _) (.int .i64 1)).setCell (p := ⟨w.heap.size + 1, 1, none⟩) (Nat.le_succ _) (.int .i64 0)
  have DD := done_below (E := 1) (N := 0) h B2
  clear hT hT1 B1 hb1 BB B2 h
  go_wp2
  exact bodyPost_ret (v := ansV 1 0) (by simp [results, Tryz.results29, go_sem, a0, a1]) rfl DD

theorem same8_eq {g f : Nat → Int} (h : same8 g f = true) : g 0 = f 0 ∧ g 1 = f 1 ∧ g 2 = f 2 ∧ g 3 = f 3 ∧ g 4 = f 4 ∧ g 5 = f 5 ∧ g 6 = f 6 ∧ g 7 = f 7 := by
  simpa [same8] using h
theorem done_ans {w W : World} {p : Adr} {S' : Led} (hfp : ∀ k, p.foot k → k < w.heap.size) (h : LedAt W p S') (hT : Turned p.foot w W) (b : Nat) (hb : w.heap.size ≤ b) (E N : Int) :
    Done w p ⟨S', E, N⟩ (.returned (ansV E N)) ((W.setCell ⟨b, 0, none⟩ (.int .i64 E)).setCell ⟨b, 1, none⟩ (.int .i64 N)) := by
  obtain ⟨L3, T3⟩ := ans_set hfp h hT b hb (.int .i64 E) (.int .i64 N)
  exact ⟨p, rfl, L3, T3, fun _ hk => Or.inl hk, rfl⟩

set_option maxRecDepth 100000 in
set_option maxHeartbeats 2000000 in
theorem do_same (p : Adr) (S : Led) (f : Nat → Int) (w : World) (hT : TabW w) (h : LedAt w p S) (hO : LOk S) (hr : refOk f = true) (i : Nat) (hi : hitOf S.A (f 1) = some i) (hs : same8 (rowA S.A i) f = true) :
    Calls Tryz.prog 29 #[.pointer (some ⟨p.a, 0, none⟩), cmdV f] w (Done w p ⟨S, rowA S.A i 8, rowA S.A i 9⟩) := by
  have hT1 := (hT.alloc (.cells (cmdC f) 33)).alloc (.cells #[.int .i64 0, .int .i64 0] 66)
  have B1 : Below w.heap.size w ((w.alloc (.cells (cmdC f) 33)).alloc (.cells #[.int .i64 0, .int .i64 0] 66)) := ((Below.refl _ _).alloc (Nat.le_refl _) _).alloc (by simp) _
  have h1 := (h.alloc (.cells (cmdC f) 33)).alloc (.cells #[.int .i64 0, .int .i64 0] 66)
  have hrB : rightB f = true := by rw [right_ref]; exact hr
  have hal := h.a_lt
  have hfp : ∀ k, p.foot k → k < w.heap.size := fun k hk => h.foot_lt hk
  go_enter Tryz.func29, Tryz.ntmps29
  go_wp2_with fail
  refine (frame_yes f _ hT1 hrB (fun p hp => (partsL_ok _ p hp).1) (right_fits f hrB)).mono ?_
  rintro e w1 ⟨rfl, hb1⟩
  have hs1 := hb1.size
  simp only [World.size_alloc] at hs1
  have a0 : w1.cell? ⟨w.heap.size + 1, 0, none⟩ = some (.int .i64 0) := (hb1.cell (p := ⟨w.heap.size + 1, 0, none⟩) (by simp)).trans (by simp [go_sem])
  have a1 : w1.cell? ⟨w.heap.size + 1, 1, none⟩ = some (.int .i64 0) := (hb1.cell (p := ⟨w.heap.size + 1, 1, none⟩) (by simp)).trans (by simp [go_sem])
  have f0 : w1.frozen? ⟨w.heap.size + 1, 0, none⟩ = false := (hb1.frozen (p := ⟨w.heap.size + 1, 0, none⟩) (by simp)).trans (by simp [go_sem])
  have f1 : w1.frozen? ⟨w.heap.size + 1, 1, none⟩ = false := (hb1.frozen (p := ⟨w.heap.size + 1, 1, none⟩) (by simp)).trans (by simp [go_sem])
  have CX : CmdAt w1 w.heap.size f := ((CmdAt.new w f 33).alloc _ (by simp)).below hb1 (by simp; omega)
  have BB := B1.trans (hb1.mono (by simp; omega))
  have hA := h1.below hb1
  have x1 := CX 1 (by omega)
  clear hT hT1 B1 hb1 h1
  have hAd := hA.drew
  have hAe := (hA.alloc (.cells (tenC zeroH) 68)).drew
  have X : ∀ W, Turned p.foot w1 W → CmdAt W w.heap.size f ∧ (W.cell? ⟨w.heap.size + 1, 0, none⟩ = some (.int .i64 0) ∧ W.cell? ⟨w.heap.size + 1, 1, none⟩ = some (.int .i64 0)) ∧ (W.frozen? ⟨w.heap.size + 1, 0, none⟩ = false ∧ W.frozen? ⟨w.heap.size + 1, 1, none⟩ = false) ∧ Turned p.foot w W := fun W hW => by
    have m0 : ¬ p.foot w.heap.size := fun e => by have := hfp _ e; omega
    have m1 : ¬ p.foot (w.heap.size + 1) := fun e => by have := hfp _ e; omega
    refine ⟨fun j hj => (hW.cell (b := w.heap.size) (by omega) m0 j).trans (CX j hj), ⟨(hW.cell (b := w.heap.size + 1) (by omega) m1 0).trans a0, (hW.cell (b := w.heap.size + 1) (by omega) m1 1).trans a1⟩, ⟨(World.frozen?_of_block (hW.block (w.heap.size + 1) (by omega) m1)).trans f0, (World.frozen?_of_block (hW.block (w.heap.size + 1) (by omega) m1)).trans f1⟩, (Turned.ofBelow BB).trans hW⟩
  have q1 : ¬ w.heap.size = w1.heap.size := by omega
  have q2 : ¬ w1.heap.size = w.heap.size := by omega
  have HZ : Hid (LedAt w p S) := h
  have HA : Hid (LedAt w1 p S) := hA
  clear CX a0 a1 f0 f1 BB hA h
  go_wp2
  go_region_held3 (fun w' => w'.cell? ⟨w.heap.size, 1, none⟩ = some (.int .i64 (f 1))) (first | (go_keep; done) | (simp; done)) (first | (go_at_call 50; refine (of_hit p.a 82 S.A (f 1) w1.drew hAd.last hO.rows i hi).mono ?_; rintro e w2 ⟨rfl, hb2⟩; have K : Below w1.heap.size w1 w2 := ((Below.refl _ _).drew.trans hb2); have y1 : w2.cell? ⟨w.heap.size, 1, none⟩ = some (.int .i64 (f 1)) := (X w2 (Turned.ofBelow K)).1 1 (by omega); have r1 : w.heap.size < w2.heap.size := (by have := K.size; omega)) | (go_at_call 50; refine (of_hit p.a 82 S.A (f 1) ((w1.alloc (.cells (tenC zeroH) 68)).drew) hAe.last hO.rows i hi).mono ?_; rintro e w2 ⟨rfl, hb2⟩; have K : Below w1.heap.size w1 w2 := (((Below.refl _ _).alloc (Nat.le_refl _) _).drew.trans (hb2.mono (by simp))); have y1 : w2.cell? ⟨w.heap.size, 1, none⟩ = some (.int .i64 (f 1)) := (X w2 (Turned.ofBelow K)).1 1 (by omega); have N2 : NumsAt w2 w1.heap.size 0 10 zeroH := (nums_new10 w1 zeroH 68).same (hb2.block w1.heap.size (by simp)); have F2 : Free w2 w1.heap.size := (fun j => (hb2.frozen (p := ⟨w1.heap.size, j, none⟩) (by simp)).trans (free_new w1 (tenC zeroH) 68 j)); obtain ⟨z0, z1, z2, z3, z4, z5, z6, z7, z8, z9⟩ := nums10 N2 (k := 0) (by omega); simp only [Nat.zero_mul, Nat.add_zero, Nat.zero_add] at z0 z1 z2 z3 z4 z5 z6 z7 z8 z9; have g0 := F2 0; have g1 := F2 1; have g2 := F2 2; have g3 := F2 3; have g4 := F2 4; have g5 := F2 5; have g6 := F2 6; have g7 := F2 7; have g8 := F2 8; have g9 := F2 9))
  all_goals clear hAd hAe hb2 y1
  · have NW := nums_new10 w2 (rowA S.A i) 68
    have KW : Below w1.heap.size w1 (w2.alloc (.cells (tenC (rowA S.A i)) 68)) := K.alloc K.size _
    generalize hbb : w2.heap.size = b at NW ⊢
    generalize hWW : w2.alloc (.cells (tenC (rowA S.A i)) 68) = W at NW KW ⊢
    have HK : Hid (Below w1.heap.size w1 W) := KW
    clear hWW hbb K r1 KW
    obtain ⟨C2, ⟨a0, a1⟩, ⟨f0, f1⟩, TT⟩ := X W (Turned.ofBelow HK.out)
    obtain ⟨y0, y1, y2, y3, y4, y5, y6, y7⟩ := C2.all
    obtain ⟨z0, z1, z2, z3, z4, z5, z6, z7, z8, z9⟩ := nums10 NW (k := 0) (by omega)
    simp only [Nat.zero_mul, Nat.add_zero, Nat.zero_add] at z0 z1 z2 z3 z4 z5 z6 z7 z8 z9
    have LW := HA.out.below HK.out
    obtain ⟨s0, s1, s2, s3, s4, s5, s6, s7⟩ := same8_eq hs
    rw [s0] at z0
    rw [s1] at z1
    rw [s2] at z2
    rw [s3] at z3
    rw [s4] at z4
    rw [s5] at z5
    rw [s6] at z6
    rw [s7] at z7
    have DD := done_ans hfp LW TT (w.heap.size + 1) (Nat.le_succ _) (rowA S.A i 8) (rowA S.A i 9)
    clear s0 s1 s2 s3 s4 s5 s6 s7 hs X NW C2 x1 q1 q2 TT LW
    go_wp2
    exact bodyPost_ret (v := ansV (rowA S.A i 8) (rowA S.A i 9)) (by simp [results, Tryz.results29, go_sem, a0, a1]) rfl DD
  · have NW := nums_set10 N2 (rowA S.A i)
    have KW := below10 K (Nat.le_refl _) (.int .i64 ((rowA S.A i) 0)) (.int .i64 ((rowA S.A i) 1)) (.int .i64 ((rowA S.A i) 2)) (.int .i64 ((rowA S.A i) 3)) (.int .i64 ((rowA S.A i) 4)) (.int .i64 ((rowA S.A i) 5)) (.int .i64 ((rowA S.A i) 6)) (.int .i64 ((rowA S.A i) 7)) (.int .i64 ((rowA S.A i) 8)) (.int .i64 ((rowA S.A i) 9))
    clear N2 F2 g0 g1 g2 g3 g4 g5 g6 g7 g8 g9 z0 z1 z2 z3 z4 z5 z6 z7 z8 z9
    generalize hWW : ((((((((((w2.setCell ⟨w1.heap.size, 0, none⟩ (.int .i64 ((rowA S.A i) 0))).setCell ⟨w1.heap.size, 1, none⟩ (.int .i64 ((rowA S.A i) 1))).setCell ⟨w1.heap.size, 2, none⟩ (.int .i64 ((rowA S.A i) 2))).setCell ⟨w1.heap.size, 3, none⟩ (.int .i64 ((rowA S.A i) 3))).setCell ⟨w1.heap.size, 4, none⟩ (.int .i64 ((rowA S.A i) 4))).setCell ⟨w1.heap.size, 5, none⟩ (.int .i64 ((rowA S.A i) 5))).setCell ⟨w1.heap.size, 6, none⟩ (.int .i64 ((rowA S.A i) 6))).setCell ⟨w1.heap.size, 7, none⟩ (.int .i64 ((rowA S.A i) 7))).setCell ⟨w1.heap.size, 8, none⟩ (.int .i64 ((rowA S.A i) 8))).setCell ⟨w1.heap.size, 9, none⟩ (.int .i64 ((rowA S.A i) 9))) = W at NW KW ⊢
    generalize hbb : w1.heap.size = b at NW ⊢
    have HK : Hid (Below w1.heap.size w1 W) := KW
    clear hWW hbb K KW
    obtain ⟨C2, ⟨a0, a1⟩, ⟨f0, f1⟩, TT⟩ := X W (Turned.ofBelow HK.out)
    obtain ⟨y0, y1, y2, y3, y4, y5, y6, y7⟩ := C2.all
    obtain ⟨z0, z1, z2, z3, z4, z5, z6, z7, z8, z9⟩ := nums10 NW (k := 0) (by omega)
    simp only [Nat.zero_mul, Nat.add_zero, Nat.zero_add] at z0 z1 z2 z3 z4 z5 z6 z7 z8 z9
    have LW := HA.out.below HK.out
    obtain ⟨s0, s1, s2, s3, s4, s5, s6, s7⟩ := same8_eq hs
    rw [s0] at z0
    rw [s1] at z1
    rw [s2] at z2
    rw [s3] at z3
    rw [s4] at z4
    rw [s5] at z5
    rw [s6] at z6
    rw [s7] at z7
    have DD := done_ans hfp LW TT (w.heap.size + 1) (Nat.le_succ _) (rowA S.A i 8) (rowA S.A i 9)
    clear s0 s1 s2 s3 s4 s5 s6 s7 hs X NW C2 x1 q1 q2 TT LW
    go_wp2
    exact bodyPost_ret (v := ansV (rowA S.A i 8) (rowA S.A i 9)) (by simp [results, Tryz.results29, go_sem, a0, a1]) rfl DD

end Go.Proofs.YtdblmheoghhepaaGreatDoor

/- 'Do': another command with an Id of the last. -/
namespace Go.Proofs.YtdblmheoghhepaaGreatDoor
open Go.RowKit

set_option maxRecDepth 100000 in
set_option maxHeartbeats 2000000 in
theorem do_other (p : Adr) (S : Led) (f : Nat → Int) (w : World) (hT : TabW w) (h : LedAt w p S) (hO : LOk S) (hr : refOk f = true) (i : Nat) (hi : hitOf S.A (f 1) = some i) (hs : same8 (rowA S.A i) f = false) :
    Calls Tryz.prog 29 #[.pointer (some ⟨p.a, 0, none⟩), cmdV f] w (Done w p ⟨S, 1, 0⟩) := by
  have hT1 := (hT.alloc (.cells (cmdC f) 33)).alloc (.cells #[.int .i64 0, .int .i64 0] 66)
  have B1 : Below w.heap.size w ((w.alloc (.cells (cmdC f) 33)).alloc (.cells #[.int .i64 0, .int .i64 0] 66)) := ((Below.refl _ _).alloc (Nat.le_refl _) _).alloc (by simp) _
  have h1 := (h.alloc (.cells (cmdC f) 33)).alloc (.cells #[.int .i64 0, .int .i64 0] 66)
  have hrB : rightB f = true := by rw [right_ref]; exact hr
  have hal := h.a_lt
  have hfp : ∀ k, p.foot k → k < w.heap.size := fun k hk => h.foot_lt hk
  go_enter Tryz.func29, Tryz.ntmps29
  go_wp2_with fail
  refine (frame_yes f _ hT1 hrB (fun p hp => (partsL_ok _ p hp).1) (right_fits f hrB)).mono ?_
  rintro e w1 ⟨rfl, hb1⟩
  have hs1 := hb1.size
  simp only [World.size_alloc] at hs1
  have a0 : w1.cell? ⟨w.heap.size + 1, 0, none⟩ = some (.int .i64 0) := (hb1.cell (p := ⟨w.heap.size + 1, 0, none⟩) (by simp)).trans (by simp [go_sem])
  have a1 : w1.cell? ⟨w.heap.size + 1, 1, none⟩ = some (.int .i64 0) := (hb1.cell (p := ⟨w.heap.size + 1, 1, none⟩) (by simp)).trans (by simp [go_sem])
  have f0 : w1.frozen? ⟨w.heap.size + 1, 0, none⟩ = false := (hb1.frozen (p := ⟨w.heap.size + 1, 0, none⟩) (by simp)).trans (by simp [go_sem])
  have f1 : w1.frozen? ⟨w.heap.size + 1, 1, none⟩ = false := (hb1.frozen (p := ⟨w.heap.size + 1, 1, none⟩) (by simp)).trans (by simp [go_sem])
  have CX : CmdAt w1 w.heap.size f := ((CmdAt.new w f 33).alloc _ (by simp)).below hb1 (by simp; omega)
  have BB := B1.trans (hb1.mono (by simp; omega))
  have hA := h1.below hb1
  have x1 := CX 1 (by omega)
  clear hT hT1 B1 hb1 h1
  have hAd := hA.drew
  have hAe := (hA.alloc (.cells (tenC zeroH) 68)).drew
  have X : ∀ W, Turned p.foot w1 W → CmdAt W w.heap.size f ∧ (W.cell? ⟨w.heap.size + 1, 0, none⟩ = some (.int .i64 0) ∧ W.cell? ⟨w.heap.size + 1, 1, none⟩ = some (.int .i64 0)) ∧ (W.frozen? ⟨w.heap.size + 1, 0, none⟩ = false ∧ W.frozen? ⟨w.heap.size + 1, 1, none⟩ = false) ∧ Turned p.foot w W := fun W hW => by
    have m0 : ¬ p.foot w.heap.size := fun e => by have := hfp _ e; omega
    have m1 : ¬ p.foot (w.heap.size + 1) := fun e => by have := hfp _ e; omega
    refine ⟨fun j hj => (hW.cell (b := w.heap.size) (by omega) m0 j).trans (CX j hj), ⟨(hW.cell (b := w.heap.size + 1) (by omega) m1 0).trans a0, (hW.cell (b := w.heap.size + 1) (by omega) m1 1).trans a1⟩, ⟨(World.frozen?_of_block (hW.block (w.heap.size + 1) (by omega) m1)).trans f0, (World.frozen?_of_block (hW.block (w.heap.size + 1) (by omega) m1)).trans f1⟩, (Turned.ofBelow BB).trans hW⟩
  have q1 : ¬ w.heap.size = w1.heap.size := by omega
  have q2 : ¬ w1.heap.size = w.heap.size := by omega
  have HZ : Hid (LedAt w p S) := h
  have HA : Hid (LedAt w1 p S) := hA
  clear CX a0 a1 f0 f1 BB hA h
  go_wp2
  go_region_held3 (fun w' => w'.cell? ⟨w.heap.size, 1, none⟩ = some (.int .i64 (f 1))) (first | (go_keep; done) | (simp; done)) (first | (go_at_call 50; refine (of_hit p.a 82 S.A (f 1) w1.drew hAd.last hO.rows i hi).mono ?_; rintro e w2 ⟨rfl, hb2⟩; have K : Below w1.heap.size w1 w2 := ((Below.refl _ _).drew.trans hb2); have y1 : w2.cell? ⟨w.heap.size, 1, none⟩ = some (.int .i64 (f 1)) := (X w2 (Turned.ofBelow K)).1 1 (by omega); have r1 : w.heap.size < w2.heap.size := (by have := K.size; omega)) | (go_at_call 50; refine (of_hit p.a 82 S.A (f 1) ((w1.alloc (.cells (tenC zeroH) 68)).drew) hAe.last hO.rows i hi).mono ?_; rintro e w2 ⟨rfl, hb2⟩; have K : Below w1.heap.size w1 w2 := (((Below.refl _ _).alloc (Nat.le_refl _) _).drew.trans (hb2.mono (by simp))); have y1 : w2.cell? ⟨w.heap.size, 1, none⟩ = some (.int .i64 (f 1)) := (X w2 (Turned.ofBelow K)).1 1 (by omega); have N2 : NumsAt w2 w1.heap.size 0 10 zeroH := (nums_new10 w1 zeroH 68).same (hb2.block w1.heap.size (by simp)); have F2 : Free w2 w1.heap.size := (fun j => (hb2.frozen (p := ⟨w1.heap.size, j, none⟩) (by simp)).trans (free_new w1 (tenC zeroH) 68 j)); obtain ⟨z0, z1, z2, z3, z4, z5, z6, z7, z8, z9⟩ := nums10 N2 (k := 0) (by omega); simp only [Nat.zero_mul, Nat.add_zero, Nat.zero_add] at z0 z1 z2 z3 z4 z5 z6 z7 z8 z9; have g0 := F2 0; have g1 := F2 1; have g2 := F2 2; have g3 := F2 3; have g4 := F2 4; have g5 := F2 5; have g6 := F2 6; have g7 := F2 7; have g8 := F2 8; have g9 := F2 9))
  all_goals clear hAd hAe hb2 y1
  · have NW := nums_new10 w2 (rowA S.A i) 68
    have KW : Below w1.heap.size w1 (w2.alloc (.cells (tenC (rowA S.A i)) 68)) := K.alloc K.size _
    generalize hbb : w2.heap.size = b at NW ⊢
    generalize hWW : w2.alloc (.cells (tenC (rowA S.A i)) 68) = W at NW KW ⊢
    have HK : Hid (Below w1.heap.size w1 W) := KW
    clear hWW hbb K r1 KW
    obtain ⟨C2, ⟨a0, a1⟩, ⟨f0, f1⟩, TT⟩ := X W (Turned.ofBelow HK.out)
    obtain ⟨y0, y1, y2, y3, y4, y5, y6, y7⟩ := C2.all
    obtain ⟨z0, z1, z2, z3, z4, z5, z6, z7, z8, z9⟩ := nums10 NW (k := 0) (by omega)
    simp only [Nat.zero_mul, Nat.add_zero, Nat.zero_add] at z0 z1 z2 z3 z4 z5 z6 z7 z8 z9
    have LW := HA.out.below HK.out
    have DD := done_ans hfp LW TT (w.heap.size + 1) (Nat.le_succ _) 1 0
    have HS : Hid (¬ (rowA S.A i 0 = f 0 ∧ rowA S.A i 1 = f 1 ∧ rowA S.A i 2 = f 2 ∧ rowA S.A i 3 = f 3 ∧ rowA S.A i 4 = f 4 ∧ rowA S.A i 5 = f 5 ∧ rowA S.A i 6 = f 6 ∧ rowA S.A i 7 = f 7)) := fun ⟨s0, s1, s2, s3, s4, s5, s6, s7⟩ => by
      simp [same8, s0, s1, s2, s3, s4, s5, s6, s7] at hs
    clear X NW C2 x1 q1 q2 TT LW hs
    by_cases s0 : rowA S.A i 0 = f 0
    · have e0 : Hid (rowA S.A i 0 = f 0) := s0
      rw [s0] at z0
      clear s0
      by_cases s1 : rowA S.A i 1 = f 1
      · have e1 : Hid (rowA S.A i 1 = f 1) := s1
        rw [s1] at z1
        clear s1
        by_cases s2 : rowA S.A i 2 = f 2
        · have e2 : Hid (rowA S.A i 2 = f 2) := s2
          rw [s2] at z2
          clear s2
          by_cases s3 : rowA S.A i 3 = f 3
          · have e3 : Hid (rowA S.A i 3 = f 3) := s3
            rw [s3] at z3
            clear s3
            by_cases s4 : rowA S.A i 4 = f 4
            · have e4 : Hid (rowA S.A i 4 = f 4) := s4
              rw [s4] at z4
              clear s4
              by_cases s5 : rowA S.A i 5 = f 5
              · have e5 : Hid (rowA S.A i 5 = f 5) := s5
                rw [s5] at z5
                clear s5
                by_cases s6 : rowA S.A i 6 = f 6
                · have e6 : Hid (rowA S.A i 6 = f 6) := s6
                  rw [s6] at z6
                  clear s6
                  by_cases s7 : rowA S.A i 7 = f 7
                  · have e7 : Hid (rowA S.A i 7 = f 7) := s7
                    rw [s7] at z7
                    clear s7
                    exact absurd ⟨e0.out, e1.out, e2.out, e3.out, e4.out, e5.out, e6.out, e7.out⟩ HS.out
                  · have d7 : (rowA S.A i 7 == f 7) = false := by simpa using s7
                    clear s7
                    go_wp2
                    exact bodyPost_ret (v := ansV 1 0) (by simp [results, Tryz.results29, go_sem, a0, a1]) rfl DD
                · have d6 : (rowA S.A i 6 == f 6) = false := by simpa using s6
                  clear s6
                  go_wp2
                  exact bodyPost_ret (v := ansV 1 0) (by simp [results, Tryz.results29, go_sem, a0, a1]) rfl DD
              · have d5 : (rowA S.A i 5 == f 5) = false := by simpa using s5
                clear s5
                go_wp2
                exact bodyPost_ret (v := ansV 1 0) (by simp [results, Tryz.results29, go_sem, a0, a1]) rfl DD
            · have d4 : (rowA S.A i 4 == f 4) = false := by simpa using s4
              clear s4
              go_wp2
              exact bodyPost_ret (v := ansV 1 0) (by simp [results, Tryz.results29, go_sem, a0, a1]) rfl DD
          · have d3 : (rowA S.A i 3 == f 3) = false := by simpa using s3
            clear s3
            go_wp2
            exact bodyPost_ret (v := ansV 1 0) (by simp [results, Tryz.results29, go_sem, a0, a1]) rfl DD
        · have d2 : (rowA S.A i 2 == f 2) = false := by simpa using s2
          clear s2
          go_wp2
          exact bodyPost_ret (v := ansV 1 0) (by simp [results, Tryz.results29, go_sem, a0, a1]) rfl DD
      · have d1 : (rowA S.A i 1 == f 1) = false := by simpa using s1
        clear s1
        go_wp2
        exact bodyPost_ret (v := ansV 1 0) (by simp [results, Tryz.results29, go_sem, a0, a1]) rfl DD
    · have d0 : (rowA S.A i 0 == f 0) = false := by simpa using s0
      clear s0
      go_wp2
      exact bodyPost_ret (v := ansV 1 0) (by simp [results, Tryz.results29, go_sem, a0, a1]) rfl DD
  · have NW := nums_set10 N2 (rowA S.A i)
    have KW := below10 K (Nat.le_refl _) (.int .i64 ((rowA S.A i) 0)) (.int .i64 ((rowA S.A i) 1)) (.int .i64 ((rowA S.A i) 2)) (.int .i64 ((rowA S.A i) 3)) (.int .i64 ((rowA S.A i) 4)) (.int .i64 ((rowA S.A i) 5)) (.int .i64 ((rowA S.A i) 6)) (.int .i64 ((rowA S.A i) 7)) (.int .i64 ((rowA S.A i) 8)) (.int .i64 ((rowA S.A i) 9))
    clear N2 F2 g0 g1 g2 g3 g4 g5 g6 g7 g8 g9 z0 z1 z2 z3 z4 z5 z6 z7 z8 z9
    generalize hWW : ((((((((((w2.setCell ⟨w1.heap.size, 0, none⟩ (.int .i64 ((rowA S.A i) 0))).setCell ⟨w1.heap.size, 1, none⟩ (.int .i64 ((rowA S.A i) 1))).setCell ⟨w1.heap.size, 2, none⟩ (.int .i64 ((rowA S.A i) 2))).setCell ⟨w1.heap.size, 3, none⟩ (.int .i64 ((rowA S.A i) 3))).setCell ⟨w1.heap.size, 4, none⟩ (.int .i64 ((rowA S.A i) 4))).setCell ⟨w1.heap.size, 5, none⟩ (.int .i64 ((rowA S.A i) 5))).setCell ⟨w1.heap.size, 6, none⟩ (.int .i64 ((rowA S.A i) 6))).setCell ⟨w1.heap.size, 7, none⟩ (.int .i64 ((rowA S.A i) 7))).setCell ⟨w1.heap.size, 8, none⟩ (.int .i64 ((rowA S.A i) 8))).setCell ⟨w1.heap.size, 9, none⟩ (.int .i64 ((rowA S.A i) 9))) = W at NW KW ⊢
    generalize hbb : w1.heap.size = b at NW ⊢
    have HK : Hid (Below w1.heap.size w1 W) := KW
    clear hWW hbb K KW
    obtain ⟨C2, ⟨a0, a1⟩, ⟨f0, f1⟩, TT⟩ := X W (Turned.ofBelow HK.out)
    obtain ⟨y0, y1, y2, y3, y4, y5, y6, y7⟩ := C2.all
    obtain ⟨z0, z1, z2, z3, z4, z5, z6, z7, z8, z9⟩ := nums10 NW (k := 0) (by omega)
    simp only [Nat.zero_mul, Nat.add_zero, Nat.zero_add] at z0 z1 z2 z3 z4 z5 z6 z7 z8 z9
    have LW := HA.out.below HK.out
    have DD := done_ans hfp LW TT (w.heap.size + 1) (Nat.le_succ _) 1 0
    have HS : Hid (¬ (rowA S.A i 0 = f 0 ∧ rowA S.A i 1 = f 1 ∧ rowA S.A i 2 = f 2 ∧ rowA S.A i 3 = f 3 ∧ rowA S.A i 4 = f 4 ∧ rowA S.A i 5 = f 5 ∧ rowA S.A i 6 = f 6 ∧ rowA S.A i 7 = f 7)) := fun ⟨s0, s1, s2, s3, s4, s5, s6, s7⟩ => by
      simp [same8, s0, s1, s2, s3, s4, s5, s6, s7] at hs
    clear X NW C2 x1 q1 q2 TT LW hs
    by_cases s0 : rowA S.A i 0 = f 0
    · have e0 : Hid (rowA S.A i 0 = f 0) := s0
      rw [s0] at z0
      clear s0
      by_cases s1 : rowA S.A i 1 = f 1
      · have e1 : Hid (rowA S.A i 1 = f 1) := s1
        rw [s1] at z1
        clear s1
        by_cases s2 : rowA S.A i 2 = f 2
        · have e2 : Hid (rowA S.A i 2 = f 2) := s2
          rw [s2] at z2
          clear s2
          by_cases s3 : rowA S.A i 3 = f 3
          · have e3 : Hid (rowA S.A i 3 = f 3) := s3
            rw [s3] at z3
            clear s3
            by_cases s4 : rowA S.A i 4 = f 4
            · have e4 : Hid (rowA S.A i 4 = f 4) := s4
              rw [s4] at z4
              clear s4
              by_cases s5 : rowA S.A i 5 = f 5
              · have e5 : Hid (rowA S.A i 5 = f 5) := s5
                rw [s5] at z5
                clear s5
                by_cases s6 : rowA S.A i 6 = f 6
                · have e6 : Hid (rowA S.A i 6 = f 6) := s6
                  rw [s6] at z6
                  clear s6
                  by_cases s7 : rowA S.A i 7 = f 7
                  · have e7 : Hid (rowA S.A i 7 = f 7) := s7
                    rw [s7] at z7
                    clear s7
                    exact absurd ⟨e0.out, e1.out, e2.out, e3.out, e4.out, e5.out, e6.out, e7.out⟩ HS.out
                  · have d7 : (rowA S.A i 7 == f 7) = false := by simpa using s7
                    clear s7
                    go_wp2
                    exact bodyPost_ret (v := ansV 1 0) (by simp [results, Tryz.results29, go_sem, a0, a1]) rfl DD
                · have d6 : (rowA S.A i 6 == f 6) = false := by simpa using s6
                  clear s6
                  go_wp2
                  exact bodyPost_ret (v := ansV 1 0) (by simp [results, Tryz.results29, go_sem, a0, a1]) rfl DD
              · have d5 : (rowA S.A i 5 == f 5) = false := by simpa using s5
                clear s5
                go_wp2
                exact bodyPost_ret (v := ansV 1 0) (by simp [results, Tryz.results29, go_sem, a0, a1]) rfl DD
            · have d4 : (rowA S.A i 4 == f 4) = false := by simpa using s4
              clear s4
              go_wp2
              exact bodyPost_ret (v := ansV 1 0) (by simp [results, Tryz.results29, go_sem, a0, a1]) rfl DD
          · have d3 : (rowA S.A i 3 == f 3) = false := by simpa using s3
            clear s3
            go_wp2
            exact bodyPost_ret (v := ansV 1 0) (by simp [results, Tryz.results29, go_sem, a0, a1]) rfl DD
        · have d2 : (rowA S.A i 2 == f 2) = false := by simpa using s2
          clear s2
          go_wp2
          exact bodyPost_ret (v := ansV 1 0) (by simp [results, Tryz.results29, go_sem, a0, a1]) rfl DD
      · have d1 : (rowA S.A i 1 == f 1) = false := by simpa using s1
        clear s1
        go_wp2
        exact bodyPost_ret (v := ansV 1 0) (by simp [results, Tryz.results29, go_sem, a0, a1]) rfl DD
    · have d0 : (rowA S.A i 0 == f 0) = false := by simpa using s0
      clear s0
      go_wp2
      exact bodyPost_ret (v := ansV 1 0) (by simp [results, Tryz.results29, go_sem, a0, a1]) rfl DD

end Go.Proofs.YtdblmheoghhepaaGreatDoor

/- 'Do': a command that is decided and refused. -/
namespace Go.Proofs.YtdblmheoghhepaaGreatDoor
open Go.RowKit

theorem Done.alloc {w W : World} {p : Adr} {D : Dec} {e : Ending} (h : Done w p D e W) (o : Obj) : Done w p D e (W.alloc o) := by
  obtain ⟨p', h1, h2, h3, h4, h5⟩ := h
  exact ⟨p', h1, h2.alloc o, h3.alloc o, h4, h5⟩

set_option maxRecDepth 100000 in
set_option maxHeartbeats 2000000 in
theorem do_no (p : Adr) (S : Led) (f : Nat → Int) (w : World) (hT : TabW w) (h : LedAt w p S) (hO : LOk S) (hr : refOk f = true) (hi : hitOf S.A (f 1) = none) (hE : (dec S f).E ≠ 0) :
    Calls Tryz.prog 29 #[.pointer (some ⟨p.a, 0, none⟩), cmdV f] w (Done w p ⟨S, (dec S f).E, (dec S f).N⟩) := by
  have hT1 := (hT.alloc (.cells (cmdC f) 33)).alloc (.cells #[.int .i64 0, .int .i64 0] 66)
  have B1 : Below w.heap.size w ((w.alloc (.cells (cmdC f) 33)).alloc (.cells #[.int .i64 0, .int .i64 0] 66)) := ((Below.refl _ _).alloc (Nat.le_refl _) _).alloc (by simp) _
  have h1 := (h.alloc (.cells (cmdC f) 33)).alloc (.cells #[.int .i64 0, .int .i64 0] 66)
  have hrB : rightB f = true := by rw [right_ref]; exact hr
  have hal := h.a_lt
  have hfp : ∀ k, p.foot k → k < w.heap.size := fun k hk => h.foot_lt hk
  go_enter Tryz.func29, Tryz.ntmps29
  go_wp2_with fail
  refine (frame_yes f _ hT1 hrB (fun p hp => (partsL_ok _ p hp).1) (right_fits f hrB)).mono ?_
  rintro e w1 ⟨rfl, hb1⟩
  have hs1 := hb1.size
  simp only [World.size_alloc] at hs1
  have a0 : w1.cell? ⟨w.heap.size + 1, 0, none⟩ = some (.int .i64 0) := (hb1.cell (p := ⟨w.heap.size + 1, 0, none⟩) (by simp)).trans (by simp [go_sem])
  have a1 : w1.cell? ⟨w.heap.size + 1, 1, none⟩ = some (.int .i64 0) := (hb1.cell (p := ⟨w.heap.size + 1, 1, none⟩) (by simp)).trans (by simp [go_sem])
  have f0 : w1.frozen? ⟨w.heap.size + 1, 0, none⟩ = false := (hb1.frozen (p := ⟨w.heap.size + 1, 0, none⟩) (by simp)).trans (by simp [go_sem])
  have f1 : w1.frozen? ⟨w.heap.size + 1, 1, none⟩ = false := (hb1.frozen (p := ⟨w.heap.size + 1, 1, none⟩) (by simp)).trans (by simp [go_sem])
  have CX : CmdAt w1 w.heap.size f := ((CmdAt.new w f 33).alloc _ (by simp)).below hb1 (by simp; omega)
  have BB := B1.trans (hb1.mono (by simp; omega))
  have hA := h1.below hb1
  have x1 := CX 1 (by omega)
  clear hT hT1 B1 hb1 h1
  have hAd := hA.drew
  have hAe := (hA.alloc (.cells (tenC zeroH) 68)).drew
  have X : ∀ W, Turned p.foot w1 W → CmdAt W w.heap.size f ∧ (W.cell? ⟨w.heap.size + 1, 0, none⟩ = some (.int .i64 0) ∧ W.cell? ⟨w.heap.size + 1, 1, none⟩ = some (.int .i64 0)) ∧ (W.frozen? ⟨w.heap.size + 1, 0, none⟩ = false ∧ W.frozen? ⟨w.heap.size + 1, 1, none⟩ = false) ∧ Turned p.foot w W := fun W hW => by
    have m0 : ¬ p.foot w.heap.size := fun e => by have := hfp _ e; omega
    have m1 : ¬ p.foot (w.heap.size + 1) := fun e => by have := hfp _ e; omega
    refine ⟨fun j hj => (hW.cell (b := w.heap.size) (by omega) m0 j).trans (CX j hj), ⟨(hW.cell (b := w.heap.size + 1) (by omega) m1 0).trans a0, (hW.cell (b := w.heap.size + 1) (by omega) m1 1).trans a1⟩, ⟨(World.frozen?_of_block (hW.block (w.heap.size + 1) (by omega) m1)).trans f0, (World.frozen?_of_block (hW.block (w.heap.size + 1) (by omega) m1)).trans f1⟩, (Turned.ofBelow BB).trans hW⟩
  have q1 : ¬ w.heap.size = w1.heap.size := by omega
  have q2 : ¬ w1.heap.size = w.heap.size := by omega
  have HZ : Hid (LedAt w p S) := h
  have HA : Hid (LedAt w1 p S) := hA
  clear CX a0 a1 f0 f1 BB hA h
  go_wp2
  go_region_held3 (fun w' => w'.cell? ⟨w.heap.size, 1, none⟩ = some (.int .i64 (f 1))) (first | (go_keep; done) | (simp; done)) (first | (go_at_call 50; refine (of_none p.a 82 S.A (f 1) w1.drew hAd.last hO.rows hi).mono ?_; rintro e w2 ⟨rfl, hb2⟩; have K : Below w1.heap.size w1 w2 := ((Below.refl _ _).drew.trans hb2); have y1 : w2.cell? ⟨w.heap.size, 1, none⟩ = some (.int .i64 (f 1)) := (X w2 (Turned.ofBelow K)).1 1 (by omega); have r1 : w.heap.size < w2.heap.size := (by have := K.size; omega)) | (go_at_call 50; refine (of_none p.a 82 S.A (f 1) ((w1.alloc (.cells (tenC zeroH) 68)).drew) hAe.last hO.rows hi).mono ?_; rintro e w2 ⟨rfl, hb2⟩; have K : Below w1.heap.size w1 w2 := (((Below.refl _ _).alloc (Nat.le_refl _) _).drew.trans (hb2.mono (by simp))); have y1 : w2.cell? ⟨w.heap.size, 1, none⟩ = some (.int .i64 (f 1)) := (X w2 (Turned.ofBelow K)).1 1 (by omega); have N2 : NumsAt w2 w1.heap.size 0 10 zeroH := (nums_new10 w1 zeroH 68).same (hb2.block w1.heap.size (by simp)); have F2 : Free w2 w1.heap.size := (fun j => (hb2.frozen (p := ⟨w1.heap.size, j, none⟩) (by simp)).trans (free_new w1 (tenC zeroH) 68 j)); obtain ⟨z0, z1, z2, z3, z4, z5, z6, z7, z8, z9⟩ := nums10 N2 (k := 0) (by omega); simp only [Nat.zero_mul, Nat.add_zero, Nat.zero_add] at z0 z1 z2 z3 z4 z5 z6 z7 z8 z9; have g0 := F2 0; have g1 := F2 1; have g2 := F2 2; have g3 := F2 3; have g4 := F2 4; have g5 := F2 5; have g6 := F2 6; have g7 := F2 7; have g8 := F2 8; have g9 := F2 9))
  all_goals clear hAd hAe hb2 y1
  · have NW := nums_new10 w2 (zeroH) 68
    have KW : Below w1.heap.size w1 (w2.alloc (.cells (tenC (zeroH)) 68)) := K.alloc K.size _
    generalize hbb : w2.heap.size = b at NW ⊢
    generalize hWW : w2.alloc (.cells (tenC (zeroH)) 68) = W at NW KW ⊢
    have HK : Hid (Below w1.heap.size w1 W) := KW
    clear hWW hbb K r1 KW
    obtain ⟨C2, ⟨a0, a1⟩, ⟨f0, f1⟩, TT⟩ := X W (Turned.ofBelow HK.out)
    obtain ⟨y0, y1, y2, y3, y4, y5, y6, y7⟩ := C2.all
    have LW := HA.out.below HK.out
    go_wp2_with fail
    refine (decide_any p S f W LW hO (rightC_of f hr)).mono ?_
    rintro e w3 ⟨rfl, L3, T3⟩
    rw [dec_err S f hE] at L3
    have Tw : Turned p.foot w1 w3 := (Turned.ofBelow HK.out).trans T3
    obtain ⟨C3, ⟨b0, b1⟩, ⟨h0, h1⟩, TT3⟩ := X w3 Tw
    have DD := (done_ans hfp L3 TT3 (w.heap.size + 1) (Nat.le_succ _) (dec S f).E (dec S f).N).alloc (.cells #[.int .i64 (dec S f).E, .int .i64 (dec S f).N] 66)
    have hz := Tw.size
    have r3 : w.heap.size + 1 < w3.heap.size := by omega
    have n3 : ¬ w3.heap.size = w.heap.size + 1 := by omega
    have n4 : ¬ w.heap.size + 1 = w3.heap.size := by omega
    generalize dec S f = D at *
    have hE' : (D.E == 0) = false := by simpa using hE
    clear X NW C2 C3 x1 q1 q2 TT LW L3 T3 TT3 Tw a0 a1 f0 f1 y0 y1 y2 y3 y4 y5 y6 y7
    go_wp2
    exact bodyPost_ret (v := ansV D.E D.N) (by simp [results, Tryz.results29, go_sem, b0, b1, r3]) rfl DD
  · have NW := nums_set10 N2 (zeroH)
    have KW := below10 K (Nat.le_refl _) (.int .i64 ((zeroH) 0)) (.int .i64 ((zeroH) 1)) (.int .i64 ((zeroH) 2)) (.int .i64 ((zeroH) 3)) (.int .i64 ((zeroH) 4)) (.int .i64 ((zeroH) 5)) (.int .i64 ((zeroH) 6)) (.int .i64 ((zeroH) 7)) (.int .i64 ((zeroH) 8)) (.int .i64 ((zeroH) 9))
    clear N2 F2 g0 g1 g2 g3 g4 g5 g6 g7 g8 g9 z0 z1 z2 z3 z4 z5 z6 z7 z8 z9
    generalize hWW : ((((((((((w2.setCell ⟨w1.heap.size, 0, none⟩ (.int .i64 ((zeroH) 0))).setCell ⟨w1.heap.size, 1, none⟩ (.int .i64 ((zeroH) 1))).setCell ⟨w1.heap.size, 2, none⟩ (.int .i64 ((zeroH) 2))).setCell ⟨w1.heap.size, 3, none⟩ (.int .i64 ((zeroH) 3))).setCell ⟨w1.heap.size, 4, none⟩ (.int .i64 ((zeroH) 4))).setCell ⟨w1.heap.size, 5, none⟩ (.int .i64 ((zeroH) 5))).setCell ⟨w1.heap.size, 6, none⟩ (.int .i64 ((zeroH) 6))).setCell ⟨w1.heap.size, 7, none⟩ (.int .i64 ((zeroH) 7))).setCell ⟨w1.heap.size, 8, none⟩ (.int .i64 ((zeroH) 8))).setCell ⟨w1.heap.size, 9, none⟩ (.int .i64 ((zeroH) 9))) = W at NW KW ⊢
    generalize hbb : w1.heap.size = b at NW ⊢
    have HK : Hid (Below w1.heap.size w1 W) := KW
    clear hWW hbb K KW
    obtain ⟨C2, ⟨a0, a1⟩, ⟨f0, f1⟩, TT⟩ := X W (Turned.ofBelow HK.out)
    obtain ⟨y0, y1, y2, y3, y4, y5, y6, y7⟩ := C2.all
    have LW := HA.out.below HK.out
    go_wp2_with fail
    refine (decide_any p S f W LW hO (rightC_of f hr)).mono ?_
    rintro e w3 ⟨rfl, L3, T3⟩
    rw [dec_err S f hE] at L3
    have Tw : Turned p.foot w1 w3 := (Turned.ofBelow HK.out).trans T3
    obtain ⟨C3, ⟨b0, b1⟩, ⟨h0, h1⟩, TT3⟩ := X w3 Tw
    have DD := (done_ans hfp L3 TT3 (w.heap.size + 1) (Nat.le_succ _) (dec S f).E (dec S f).N).alloc (.cells #[.int .i64 (dec S f).E, .int .i64 (dec S f).N] 66)
    have hz := Tw.size
    have r3 : w.heap.size + 1 < w3.heap.size := by omega
    have n3 : ¬ w3.heap.size = w.heap.size + 1 := by omega
    have n4 : ¬ w.heap.size + 1 = w3.heap.size := by omega
    generalize dec S f = D at *
    have hE' : (D.E == 0) = false := by simpa using hE
    clear X NW C2 C3 x1 q1 q2 TT LW L3 T3 TT3 Tw a0 a1 f0 f1 y0 y1 y2 y3 y4 y5 y6 y7
    go_wp2
    exact bodyPost_ret (v := ansV D.E D.N) (by simp [results, Tryz.results29, go_sem, b0, b1, r3]) rfl DD

end Go.Proofs.YtdblmheoghhepaaGreatDoor

/- 'Do': a command that is accepted. -/
namespace Go.Proofs.YtdblmheoghhepaaGreatDoor
open Go.RowKit

theorem dec_AJ (S : Led) (f : Nat → Int) : (dec S f).S.A = S.A ∧ (dec S f).S.J = S.J := by
  have hm : ∀ i q, (moveD S i q).S.A = S.A ∧ (moveD S i q).S.J = S.J := fun i q => by unfold moveD moveS; split <;> exact ⟨rfl, rfl⟩
  have hc : ∀ o s, (closeD S o s).S.A = S.A ∧ (closeD S o s).S.J = S.J := fun o s => by unfold closeD; split <;> exact ⟨rfl, rfl⟩
  unfold dec
  split
  · exact hm _ _
  · split
    · exact hm _ _
    · split
      · exact hm _ _
      · split
        · unfold promiseD; split <;> exact ⟨rfl, rfl⟩
        · split
          · exact hc _ _
          · split
            · exact hc _ _
            · unfold tickD; split <;> exact ⟨rfl, rfl⟩
theorem push10 (b o : Nat) (A : Nat → Int) (a0 a1 a2 a3 a4 a5 a6 a7 a8 a9 : Int) (w : World) (h : NumsAt w b o 80 A) (hf : Free w b) :
    Calls Tryz.prog 52 #[.pointer (some ⟨b, o, none⟩), .agg #[.int .i64 a0, .int .i64 a1, .int .i64 a2, .int .i64 a3, .int .i64 a4, .int .i64 a5, .int .i64 a6, .int .i64 a7, .int .i64 a8, .int .i64 a9]] w fun e w' => e = .returned (.tuple #[]) ∧ Pushed w w' b o A (ten a0 a1 a2 a3 a4 a5 a6 a7 a8 a9) :=
  push_any b o A (ten a0 a1 a2 a3 a4 a5 a6 a7 a8 a9) w h hf
theorem frS_size (f : Nat → Int) : (frS f).size = 1 + wsum (partsL (f 0)) := by
  rw [frS, strOfNums_size, frameL, List.length_cons, body_length]
  omega
theorem frS_pos (f : Nat → Int) : 0 < (strOfNums (frameL f)).size := by have := frS_size f; unfold frS at this; omega
theorem frS_le (f : Nat → Int) : (frS f).size ≤ 37 := by
  have h1 := frS_size f
  have h2 := wsum_le (partsL (f 0)) (fun p hp => (partsL_ok _ p hp).1)
  have h3 := partsL_len (f 0)
  omega
theorem wp_append_str (w : World) {ops : Array Oper} {rest : List Oper} {o : Oper} {a : Act} {Q : Exit → Act → World → Prop} (hg : o.guard = none) (m x : Operand) (hop : o.op = Op.call { callee := Callee.builtin Builtin.append, args := #[m, x], argTypes := #[71, 9] })
    (base : Nat) (v : Value) (n : Nat) (xs : List Value) (hm : a.eval m = v) (hown : w.ownsRow base 5 1 v n xs) (s : ByteArray) (hx : a.eval x = .string s) (hs : 0 < s.size) (hb : n + s.size ≤ 140737488355328) (hbase : base ≤ w.heap.size)
    (hK : ∀ v' w', w'.ownsRow base 5 1 v' (n + s.size) (xs ++ Lib.strCells s) → w.grownBy w' v.ownBlock → (v'.ownBlock = v.ownBlock ∨ v'.ownBlock = some w.heap.size) → wpList Tryz.prog ops Q rest (a.put o.dst v') w') :
    wpList Tryz.prog ops Q (o :: rest) a w := by
  refine wpList_plain hg fun K hK' => ?_
  obtain ⟨v', w', hr, h2, h3, h4⟩ := append_str_loc w o.type base v n xs hown s hs hb hbase
  unfold Oper.wp execOp
  simp only [hop, resolve, invoke, builtin, Sem.run_bind, Sem.run_pure, Result.andThen_ok, List.map_toArray, List.map_cons, List.map_nil, hm, hx, hr]
  exact hK' _ _ (hK v' w' h2 h3 h4)
theorem done_more {w W : World} {p p' : Adr} {S' : Led} (hfp : ∀ k, p.foot k → k < w.heap.size) (h : LedAt W p' S') (hT : Turned p.foot w W) (hk : ∀ k, p'.foot k → p.foot k ∨ w.heap.size + 2 ≤ k) (ha : p'.a = p.a) (b : Nat) (hb : w.heap.size ≤ b) (hb2 : b < w.heap.size + 2) (E N : Int) :
    Done w p ⟨S', E, N⟩ (.returned (ansV E N)) ((W.setCell ⟨b, 0, none⟩ (.int .i64 E)).setCell ⟨b, 1, none⟩ (.int .i64 N)) := by
  refine ⟨p', rfl, h.same (fun k hk' => ?_), (hT.setCell (p := ⟨b, 0, none⟩) (Or.inr hb) _).setCell (p := ⟨b, 1, none⟩) (Or.inr hb) _, fun k hk' => by
    rcases hk k hk' with h1 | h1
    · exact Or.inl h1
    · exact Or.inr (by omega), ha⟩
  have hne : k ≠ b := by
    rcases hk k hk' with h1 | h1
    · have := hfp k h1; omega
    · omega
  rw [Below.heap_setCell _ _ _ _ hne, Below.heap_setCell _ _ _ _ hne]

set_option maxRecDepth 100000 in
set_option maxHeartbeats 2000000 in
theorem do_yes (p : Adr) (S : Led) (f : Nat → Int) (w : World) (hT : TabW w) (h : LedAt w p S) (hO : LOk S) (hr : refOk f = true) (hJ : S.J.length ≤ 140737488355000) (hi : hitOf S.A (f 1) = none) (hE : (dec S f).E = 0) :
    Calls Tryz.prog 29 #[.pointer (some ⟨p.a, 0, none⟩), cmdV f] w (Done w p ⟨{ (dec S f).S with A := pushA S.A (ansRow f 0 (dec S f).N), J := S.J ++ bytesS (frS f) }, 0, (dec S f).N⟩) := by
  have hT1 := (hT.alloc (.cells (cmdC f) 33)).alloc (.cells #[.int .i64 0, .int .i64 0] 66)
  have B1 : Below w.heap.size w ((w.alloc (.cells (cmdC f) 33)).alloc (.cells #[.int .i64 0, .int .i64 0] 66)) := ((Below.refl _ _).alloc (Nat.le_refl _) _).alloc (by simp) _
  have h1 := (h.alloc (.cells (cmdC f) 33)).alloc (.cells #[.int .i64 0, .int .i64 0] 66)
  have hrB : rightB f = true := by rw [right_ref]; exact hr
  have hal := h.a_lt
  have hfp : ∀ k, p.foot k → k < w.heap.size := fun k hk => h.foot_lt hk
  go_enter Tryz.func29, Tryz.ntmps29
  go_wp2_with fail
  refine (frame_yes f _ hT1 hrB (fun p hp => (partsL_ok _ p hp).1) (right_fits f hrB)).mono ?_
  rintro e w1 ⟨rfl, hb1⟩
  have hs1 := hb1.size
  simp only [World.size_alloc] at hs1
  have a0 : w1.cell? ⟨w.heap.size + 1, 0, none⟩ = some (.int .i64 0) := (hb1.cell (p := ⟨w.heap.size + 1, 0, none⟩) (by simp)).trans (by simp [go_sem])
  have a1 : w1.cell? ⟨w.heap.size + 1, 1, none⟩ = some (.int .i64 0) := (hb1.cell (p := ⟨w.heap.size + 1, 1, none⟩) (by simp)).trans (by simp [go_sem])
  have f0 : w1.frozen? ⟨w.heap.size + 1, 0, none⟩ = false := (hb1.frozen (p := ⟨w.heap.size + 1, 0, none⟩) (by simp)).trans (by simp [go_sem])
  have f1 : w1.frozen? ⟨w.heap.size + 1, 1, none⟩ = false := (hb1.frozen (p := ⟨w.heap.size + 1, 1, none⟩) (by simp)).trans (by simp [go_sem])
  have CX : CmdAt w1 w.heap.size f := ((CmdAt.new w f 33).alloc _ (by simp)).below hb1 (by simp; omega)
  have BB := B1.trans (hb1.mono (by simp; omega))
  have hA := h1.below hb1
  have x1 := CX 1 (by omega)
  clear hT hT1 B1 hb1 h1
  have hAd := hA.drew
  have hAe := (hA.alloc (.cells (tenC zeroH) 68)).drew
  have X : ∀ W, Turned p.foot w1 W → CmdAt W w.heap.size f ∧ (W.cell? ⟨w.heap.size + 1, 0, none⟩ = some (.int .i64 0) ∧ W.cell? ⟨w.heap.size + 1, 1, none⟩ = some (.int .i64 0)) ∧ (W.frozen? ⟨w.heap.size + 1, 0, none⟩ = false ∧ W.frozen? ⟨w.heap.size + 1, 1, none⟩ = false) ∧ Turned p.foot w W := fun W hW => by
    have m0 : ¬ p.foot w.heap.size := fun e => by have := hfp _ e; omega
    have m1 : ¬ p.foot (w.heap.size + 1) := fun e => by have := hfp _ e; omega
    refine ⟨fun j hj => (hW.cell (b := w.heap.size) (by omega) m0 j).trans (CX j hj), ⟨(hW.cell (b := w.heap.size + 1) (by omega) m1 0).trans a0, (hW.cell (b := w.heap.size + 1) (by omega) m1 1).trans a1⟩, ⟨(World.frozen?_of_block (hW.block (w.heap.size + 1) (by omega) m1)).trans f0, (World.frozen?_of_block (hW.block (w.heap.size + 1) (by omega) m1)).trans f1⟩, (Turned.ofBelow BB).trans hW⟩
  have q1 : ¬ w.heap.size = w1.heap.size := by omega
  have q2 : ¬ w1.heap.size = w.heap.size := by omega
  have HZ : Hid (LedAt w p S) := h
  have HA : Hid (LedAt w1 p S) := hA
  clear CX a0 a1 f0 f1 BB hA h
  go_wp2
  go_region_held3 (fun w' => w'.cell? ⟨w.heap.size, 1, none⟩ = some (.int .i64 (f 1))) (first | (go_keep; done) | (simp; done)) (first | (go_at_call 50; refine (of_none p.a 82 S.A (f 1) w1.drew hAd.last hO.rows hi).mono ?_; rintro e w2 ⟨rfl, hb2⟩; have K : Below w1.heap.size w1 w2 := ((Below.refl _ _).drew.trans hb2); have y1 : w2.cell? ⟨w.heap.size, 1, none⟩ = some (.int .i64 (f 1)) := (X w2 (Turned.ofBelow K)).1 1 (by omega); have r1 : w.heap.size < w2.heap.size := (by have := K.size; omega)) | (go_at_call 50; refine (of_none p.a 82 S.A (f 1) ((w1.alloc (.cells (tenC zeroH) 68)).drew) hAe.last hO.rows hi).mono ?_; rintro e w2 ⟨rfl, hb2⟩; have K : Below w1.heap.size w1 w2 := (((Below.refl _ _).alloc (Nat.le_refl _) _).drew.trans (hb2.mono (by simp))); have y1 : w2.cell? ⟨w.heap.size, 1, none⟩ = some (.int .i64 (f 1)) := (X w2 (Turned.ofBelow K)).1 1 (by omega); have N2 : NumsAt w2 w1.heap.size 0 10 zeroH := (nums_new10 w1 zeroH 68).same (hb2.block w1.heap.size (by simp)); have F2 : Free w2 w1.heap.size := (fun j => (hb2.frozen (p := ⟨w1.heap.size, j, none⟩) (by simp)).trans (free_new w1 (tenC zeroH) 68 j)); obtain ⟨z0, z1, z2, z3, z4, z5, z6, z7, z8, z9⟩ := nums10 N2 (k := 0) (by omega); simp only [Nat.zero_mul, Nat.add_zero, Nat.zero_add] at z0 z1 z2 z3 z4 z5 z6 z7 z8 z9; have g0 := F2 0; have g1 := F2 1; have g2 := F2 2; have g3 := F2 3; have g4 := F2 4; have g5 := F2 5; have g6 := F2 6; have g7 := F2 7; have g8 := F2 8; have g9 := F2 9))
  all_goals clear hAd hAe hb2 y1
  · have NW := nums_new10 w2 (zeroH) 68
    have KW : Below w1.heap.size w1 (w2.alloc (.cells (tenC (zeroH)) 68)) := K.alloc K.size _
    generalize hbb : w2.heap.size = b at NW ⊢
    generalize hWW : w2.alloc (.cells (tenC (zeroH)) 68) = W at NW KW ⊢
    have HK : Hid (Below w1.heap.size w1 W) := KW
    clear hWW hbb K r1 KW
    obtain ⟨C2, ⟨a0, a1⟩, ⟨f0, f1⟩, TT⟩ := X W (Turned.ofBelow HK.out)
    obtain ⟨y0, y1, y2, y3, y4, y5, y6, y7⟩ := C2.all
    have LW := HA.out.below HK.out
    go_wp2_with fail
    refine (decide_any p S f W LW hO (rightC_of f hr)).mono ?_
    rintro e w3 ⟨rfl, L3, T3⟩
    have Tw : Turned p.foot w1 w3 := (Turned.ofBelow HK.out).trans T3
    obtain ⟨C3, ⟨b0, b1⟩, ⟨h0, h1⟩, TT3⟩ := X w3 Tw
    have hz := Tw.size
    obtain ⟨dA, dJ⟩ := dec_AJ S f
    generalize dec S f = D at *
    clear X NW C2 x1 q1 q2 TT LW T3 Tw a0 a1 f0 f1 y0 y1 y2 y3 y4 y5 y6 y7
    have r2 : w.heap.size < w3.heap.size := by omega
    have r3 : w.heap.size + 1 < w3.heap.size := by omega
    have n3 : ¬ w3.heap.size = w.heap.size + 1 := by omega
    have n4 : ¬ w.heap.size + 1 = w3.heap.size := by omega
    obtain ⟨y0, y1, y2, y3, y4, y5, y6, y7⟩ := C3.all
    have HD : Hid (D.S.A = S.A ∧ D.S.J = S.J) := ⟨dA, dJ⟩
    clear dA dJ
    have L4 := L3.alloc (.cells #[.int .i64 0, .int .i64 D.N] 66)
    have L4d := L4.drew
    have al4 := L4.a_lt
    have T4 : Turned p.foot w ((w3.alloc (.cells #[.int .i64 0, .int .i64 D.N] 66)).drew) := (TT3.alloc _).drew
    have hE' : D.E = 0 := hE
    go_wp2
    go_region_held3 (fun w' => w'.cell? ⟨w.heap.size, 0, none⟩ = some (.int .i64 (f 0)) ∧ w'.cell? ⟨w.heap.size, 1, none⟩ = some (.int .i64 (f 1)) ∧ w'.cell? ⟨w.heap.size, 2, none⟩ = some (.int .i64 (f 2)) ∧ w'.cell? ⟨w.heap.size, 3, none⟩ = some (.int .i64 (f 3)) ∧ w'.cell? ⟨w.heap.size, 4, none⟩ = some (.int .i64 (f 4)) ∧ w'.cell? ⟨w.heap.size, 5, none⟩ = some (.int .i64 (f 5)) ∧ w'.cell? ⟨w.heap.size, 6, none⟩ = some (.int .i64 (f 6)) ∧ w'.cell? ⟨w.heap.size, 7, none⟩ = some (.int .i64 (f 7)) ∧ w'.cell? ⟨w3.heap.size, 0, none⟩ = some (.int .i64 0) ∧ w'.cell? ⟨w3.heap.size, 1, none⟩ = some (.int .i64 D.N)) (first | (go_keep; done) | (simp; done)) (first | (go_at_call 52; refine (push10 p.a 82 D.S.A (f 0) (f 1) (f 2) (f 3) (f 4) (f 5) (f 6) (f 7) 0 D.N _ L4d.last L4d.free).mono ?_; rintro e w5 ⟨rfl, hP⟩; have cx : ∀ b j, b < w3.heap.size + 1 → b ≠ p.a → w5.cell? ⟨b, j, none⟩ = ((w3.alloc (.cells #[.int .i64 0, .int .i64 D.N] 66)).drew).cell? ⟨b, j, none⟩ := (fun b j hb hn => hP.turned.cell (by simpa using hb) hn j); have x0 : w5.cell? ⟨w.heap.size, 0, none⟩ = some (.int .i64 (f 0)) := (cx _ 0 (by omega) (by omega)).trans (by simp [go_sem, r2, y0]); have x1 : w5.cell? ⟨w.heap.size, 1, none⟩ = some (.int .i64 (f 1)) := (cx _ 1 (by omega) (by omega)).trans (by simp [go_sem, r2, y1]); have x2 : w5.cell? ⟨w.heap.size, 2, none⟩ = some (.int .i64 (f 2)) := (cx _ 2 (by omega) (by omega)).trans (by simp [go_sem, r2, y2]); have x3 : w5.cell? ⟨w.heap.size, 3, none⟩ = some (.int .i64 (f 3)) := (cx _ 3 (by omega) (by omega)).trans (by simp [go_sem, r2, y3]); have x4 : w5.cell? ⟨w.heap.size, 4, none⟩ = some (.int .i64 (f 4)) := (cx _ 4 (by omega) (by omega)).trans (by simp [go_sem, r2, y4]); have x5 : w5.cell? ⟨w.heap.size, 5, none⟩ = some (.int .i64 (f 5)) := (cx _ 5 (by omega) (by omega)).trans (by simp [go_sem, r2, y5]); have x6 : w5.cell? ⟨w.heap.size, 6, none⟩ = some (.int .i64 (f 6)) := (cx _ 6 (by omega) (by omega)).trans (by simp [go_sem, r2, y6]); have x7 : w5.cell? ⟨w.heap.size, 7, none⟩ = some (.int .i64 (f 7)) := (cx _ 7 (by omega) (by omega)).trans (by simp [go_sem, r2, y7]); have v0 : w5.cell? ⟨w3.heap.size, 0, none⟩ = some (.int .i64 0) := (cx _ 0 (by omega) (by omega)).trans (by simp [go_sem]); have v1 : w5.cell? ⟨w3.heap.size, 1, none⟩ = some (.int .i64 D.N) := (cx _ 1 (by omega) (by omega)).trans (by simp [go_sem]); have u0 : w5.cell? ⟨w.heap.size + 1, 0, none⟩ = some (.int .i64 0) := (cx _ 0 (by omega) (by omega)).trans (by simp [go_sem, r3, b0]); have u1 : w5.cell? ⟨w.heap.size + 1, 1, none⟩ = some (.int .i64 0) := (cx _ 1 (by omega) (by omega)).trans (by simp [go_sem, r3, b1]); have k0 : w5.frozen? ⟨w.heap.size + 1, 0, none⟩ = false := (World.frozen?_of_block (hP.turned.block (w.heap.size + 1) (by simp; omega) (by omega))).trans (by simp [go_sem, r3, h0]); have k1 : w5.frozen? ⟨w.heap.size + 1, 1, none⟩ = false := (World.frozen?_of_block (hP.turned.block (w.heap.size + 1) (by simp; omega) (by omega))).trans (by simp [go_sem, r3, h1])))
    obtain ⟨L5, T5⟩ := L4d.push hP
    have TT5 := T4.trans T5
    have cj := L5.cj
    have fj := L5.free 162
    have hal5 := L5.a_lt
    have hsz := hP.turned.size
    simp only [World.size_drew, World.size_alloc] at hsz
    have HJL : Hid (D.S.J.length = S.J.length) := by show _ = _; rw [HD.out.2]
    clear cx hP L3 L4 L4d T4 TT3 T5 y0 y1 y2 y3 y4 y5 y6 y7 x0 x1 x2 x3 x4 x5 x6 x7 b0 b1 h0 h1 C3
    go_wp2_with (at_builtin; refine wp_append_str _ rfl _ _ rfl 0 p.jv D.S.J.length (D.S.J.map (Value.int .u8)) rfl L5.jour (strOfNums (frameL f)) rfl (frS_pos f) (by have h1 := frS_le f; have h2 : D.S.J.length = S.J.length := HJL.out; unfold frS at h1; omega) (Nat.zero_le _) ?_)
    intro v' w6 hown6 hg6 hl6
    obtain ⟨g6, cap6, ev⟩ : ∃ g cap, v' = .slice (some ⟨g, 0, none⟩) (D.S.J.length + (strOfNums (frameL f)).size) cap := by
      rcases hown6.2 with ⟨_, e⟩ | ⟨g, cap, cur, e, _⟩
      · have := frS_pos f
        omega
      · exact ⟨g, cap, e⟩
    generalize hJJ : D.S.J.length + (strOfNums (frameL f)).size = nJ at ev
    subst ev
    obtain ⟨L7, T7, Q7⟩ := L5.journal hown6 hg6 hl6
    have cj6 : w6.cell? ⟨p.a, 162, none⟩ = some p.jv := (World.cell?_of_block (hg6.block p.a hal5 (fun e => (L5.j_ne e.symm).1 rfl))).trans cj
    have fj6 : w6.frozen? ⟨p.a, 162, none⟩ = false := (World.frozen?_of_block (hg6.block p.a hal5 (fun e => (L5.j_ne e.symm).1 rfl))).trans fj
    have kp : ∀ b j, w.heap.size ≤ b → b < w5.heap.size → w6.cell? ⟨b, j, none⟩ = w5.cell? ⟨b, j, none⟩ ∧ w6.frozen? ⟨b, j, none⟩ = w5.frozen? ⟨b, j, none⟩ := fun b j hb hb5 => by
      have hne : some b ≠ p.jv.ownBlock := fun e => by
        have := hfp b (Or.inr (Or.inr (Or.inr (Or.inr e.symm))))
        omega
      exact ⟨World.cell?_of_block (a := ⟨b, j, none⟩) (hg6.block b hb5 hne), World.frozen?_of_block (a := ⟨b, j, none⟩) (hg6.block b hb5 hne)⟩
    have c0 := (kp w3.heap.size 0 (by omega) (by omega)).1.trans v0
    have c1 := (kp w3.heap.size 1 (by omega) (by omega)).1.trans v1
    have d0 := (kp (w.heap.size + 1) 0 (by omega) (by omega)).1.trans u0
    have d1 := (kp (w.heap.size + 1) 1 (by omega) (by omega)).1.trans u1
    have m0 := (kp (w.heap.size + 1) 0 (by omega) (by omega)).2.trans k0
    have m1 := (kp (w.heap.size + 1) 1 (by omega) (by omega)).2.trans k1
    have o1 : ¬ p.a = w3.heap.size := by omega
    have o2 : ¬ w3.heap.size = p.a := by omega
    have o3 : ¬ p.a = w.heap.size + 1 := by omega
    have o4 : ¬ w.heap.size + 1 = p.a := by omega
    have DD := done_more hfp (p' := { p with jv := .slice (some ⟨g6, 0, none⟩) nJ cap6 }) L7 (TT5.trans T7) (fun k hk => by
      rcases Q7 k hk with h | h
      · exact Or.inl h
      · exact Or.inr (by omega)) rfl (w.heap.size + 1) (Nat.le_succ _) (by omega) 0 D.N
    clear hJJ kp v0 v1 u0 u1 k0 k1 L5 L7 T7 Q7 TT5 hown6 hg6 hl6 cj fj
    go_wp2
    rw [HD.out.1, HD.out.2] at DD
    exact bodyPost_ret (v := ansV 0 D.N) (by simp [results, Tryz.results29, go_sem, d0, d1]) rfl DD
  · have NW := nums_set10 N2 (zeroH)
    have KW := below10 K (Nat.le_refl _) (.int .i64 ((zeroH) 0)) (.int .i64 ((zeroH) 1)) (.int .i64 ((zeroH) 2)) (.int .i64 ((zeroH) 3)) (.int .i64 ((zeroH) 4)) (.int .i64 ((zeroH) 5)) (.int .i64 ((zeroH) 6)) (.int .i64 ((zeroH) 7)) (.int .i64 ((zeroH) 8)) (.int .i64 ((zeroH) 9))
    clear N2 F2 g0 g1 g2 g3 g4 g5 g6 g7 g8 g9 z0 z1 z2 z3 z4 z5 z6 z7 z8 z9
    generalize hWW : ((((((((((w2.setCell ⟨w1.heap.size, 0, none⟩ (.int .i64 ((zeroH) 0))).setCell ⟨w1.heap.size, 1, none⟩ (.int .i64 ((zeroH) 1))).setCell ⟨w1.heap.size, 2, none⟩ (.int .i64 ((zeroH) 2))).setCell ⟨w1.heap.size, 3, none⟩ (.int .i64 ((zeroH) 3))).setCell ⟨w1.heap.size, 4, none⟩ (.int .i64 ((zeroH) 4))).setCell ⟨w1.heap.size, 5, none⟩ (.int .i64 ((zeroH) 5))).setCell ⟨w1.heap.size, 6, none⟩ (.int .i64 ((zeroH) 6))).setCell ⟨w1.heap.size, 7, none⟩ (.int .i64 ((zeroH) 7))).setCell ⟨w1.heap.size, 8, none⟩ (.int .i64 ((zeroH) 8))).setCell ⟨w1.heap.size, 9, none⟩ (.int .i64 ((zeroH) 9))) = W at NW KW ⊢
    generalize hbb : w1.heap.size = b at NW ⊢
    have HK : Hid (Below w1.heap.size w1 W) := KW
    clear hWW hbb K KW
    obtain ⟨C2, ⟨a0, a1⟩, ⟨f0, f1⟩, TT⟩ := X W (Turned.ofBelow HK.out)
    obtain ⟨y0, y1, y2, y3, y4, y5, y6, y7⟩ := C2.all
    have LW := HA.out.below HK.out
    go_wp2_with fail
    refine (decide_any p S f W LW hO (rightC_of f hr)).mono ?_
    rintro e w3 ⟨rfl, L3, T3⟩
    have Tw : Turned p.foot w1 w3 := (Turned.ofBelow HK.out).trans T3
    obtain ⟨C3, ⟨b0, b1⟩, ⟨h0, h1⟩, TT3⟩ := X w3 Tw
    have hz := Tw.size
    obtain ⟨dA, dJ⟩ := dec_AJ S f
    generalize dec S f = D at *
    clear X NW C2 x1 q1 q2 TT LW T3 Tw a0 a1 f0 f1 y0 y1 y2 y3 y4 y5 y6 y7
    have r2 : w.heap.size < w3.heap.size := by omega
    have r3 : w.heap.size + 1 < w3.heap.size := by omega
    have n3 : ¬ w3.heap.size = w.heap.size + 1 := by omega
    have n4 : ¬ w.heap.size + 1 = w3.heap.size := by omega
    obtain ⟨y0, y1, y2, y3, y4, y5, y6, y7⟩ := C3.all
    have HD : Hid (D.S.A = S.A ∧ D.S.J = S.J) := ⟨dA, dJ⟩
    clear dA dJ
    have L4 := L3.alloc (.cells #[.int .i64 0, .int .i64 D.N] 66)
    have L4d := L4.drew
    have al4 := L4.a_lt
    have T4 : Turned p.foot w ((w3.alloc (.cells #[.int .i64 0, .int .i64 D.N] 66)).drew) := (TT3.alloc _).drew
    have hE' : D.E = 0 := hE
    go_wp2
    go_region_held3 (fun w' => w'.cell? ⟨w.heap.size, 0, none⟩ = some (.int .i64 (f 0)) ∧ w'.cell? ⟨w.heap.size, 1, none⟩ = some (.int .i64 (f 1)) ∧ w'.cell? ⟨w.heap.size, 2, none⟩ = some (.int .i64 (f 2)) ∧ w'.cell? ⟨w.heap.size, 3, none⟩ = some (.int .i64 (f 3)) ∧ w'.cell? ⟨w.heap.size, 4, none⟩ = some (.int .i64 (f 4)) ∧ w'.cell? ⟨w.heap.size, 5, none⟩ = some (.int .i64 (f 5)) ∧ w'.cell? ⟨w.heap.size, 6, none⟩ = some (.int .i64 (f 6)) ∧ w'.cell? ⟨w.heap.size, 7, none⟩ = some (.int .i64 (f 7)) ∧ w'.cell? ⟨w3.heap.size, 0, none⟩ = some (.int .i64 0) ∧ w'.cell? ⟨w3.heap.size, 1, none⟩ = some (.int .i64 D.N)) (first | (go_keep; done) | (simp; done)) (first | (go_at_call 52; refine (push10 p.a 82 D.S.A (f 0) (f 1) (f 2) (f 3) (f 4) (f 5) (f 6) (f 7) 0 D.N _ L4d.last L4d.free).mono ?_; rintro e w5 ⟨rfl, hP⟩; have cx : ∀ b j, b < w3.heap.size + 1 → b ≠ p.a → w5.cell? ⟨b, j, none⟩ = ((w3.alloc (.cells #[.int .i64 0, .int .i64 D.N] 66)).drew).cell? ⟨b, j, none⟩ := (fun b j hb hn => hP.turned.cell (by simpa using hb) hn j); have x0 : w5.cell? ⟨w.heap.size, 0, none⟩ = some (.int .i64 (f 0)) := (cx _ 0 (by omega) (by omega)).trans (by simp [go_sem, r2, y0]); have x1 : w5.cell? ⟨w.heap.size, 1, none⟩ = some (.int .i64 (f 1)) := (cx _ 1 (by omega) (by omega)).trans (by simp [go_sem, r2, y1]); have x2 : w5.cell? ⟨w.heap.size, 2, none⟩ = some (.int .i64 (f 2)) := (cx _ 2 (by omega) (by omega)).trans (by simp [go_sem, r2, y2]); have x3 : w5.cell? ⟨w.heap.size, 3, none⟩ = some (.int .i64 (f 3)) := (cx _ 3 (by omega) (by omega)).trans (by simp [go_sem, r2, y3]); have x4 : w5.cell? ⟨w.heap.size, 4, none⟩ = some (.int .i64 (f 4)) := (cx _ 4 (by omega) (by omega)).trans (by simp [go_sem, r2, y4]); have x5 : w5.cell? ⟨w.heap.size, 5, none⟩ = some (.int .i64 (f 5)) := (cx _ 5 (by omega) (by omega)).trans (by simp [go_sem, r2, y5]); have x6 : w5.cell? ⟨w.heap.size, 6, none⟩ = some (.int .i64 (f 6)) := (cx _ 6 (by omega) (by omega)).trans (by simp [go_sem, r2, y6]); have x7 : w5.cell? ⟨w.heap.size, 7, none⟩ = some (.int .i64 (f 7)) := (cx _ 7 (by omega) (by omega)).trans (by simp [go_sem, r2, y7]); have v0 : w5.cell? ⟨w3.heap.size, 0, none⟩ = some (.int .i64 0) := (cx _ 0 (by omega) (by omega)).trans (by simp [go_sem]); have v1 : w5.cell? ⟨w3.heap.size, 1, none⟩ = some (.int .i64 D.N) := (cx _ 1 (by omega) (by omega)).trans (by simp [go_sem]); have u0 : w5.cell? ⟨w.heap.size + 1, 0, none⟩ = some (.int .i64 0) := (cx _ 0 (by omega) (by omega)).trans (by simp [go_sem, r3, b0]); have u1 : w5.cell? ⟨w.heap.size + 1, 1, none⟩ = some (.int .i64 0) := (cx _ 1 (by omega) (by omega)).trans (by simp [go_sem, r3, b1]); have k0 : w5.frozen? ⟨w.heap.size + 1, 0, none⟩ = false := (World.frozen?_of_block (hP.turned.block (w.heap.size + 1) (by simp; omega) (by omega))).trans (by simp [go_sem, r3, h0]); have k1 : w5.frozen? ⟨w.heap.size + 1, 1, none⟩ = false := (World.frozen?_of_block (hP.turned.block (w.heap.size + 1) (by simp; omega) (by omega))).trans (by simp [go_sem, r3, h1])))
    obtain ⟨L5, T5⟩ := L4d.push hP
    have TT5 := T4.trans T5
    have cj := L5.cj
    have fj := L5.free 162
    have hal5 := L5.a_lt
    have hsz := hP.turned.size
    simp only [World.size_drew, World.size_alloc] at hsz
    have HJL : Hid (D.S.J.length = S.J.length) := by show _ = _; rw [HD.out.2]
    clear cx hP L3 L4 L4d T4 TT3 T5 y0 y1 y2 y3 y4 y5 y6 y7 x0 x1 x2 x3 x4 x5 x6 x7 b0 b1 h0 h1 C3
    go_wp2_with (at_builtin; refine wp_append_str _ rfl _ _ rfl 0 p.jv D.S.J.length (D.S.J.map (Value.int .u8)) rfl L5.jour (strOfNums (frameL f)) rfl (frS_pos f) (by have h1 := frS_le f; have h2 : D.S.J.length = S.J.length := HJL.out; unfold frS at h1; omega) (Nat.zero_le _) ?_)
    intro v' w6 hown6 hg6 hl6
    obtain ⟨g6, cap6, ev⟩ : ∃ g cap, v' = .slice (some ⟨g, 0, none⟩) (D.S.J.length + (strOfNums (frameL f)).size) cap := by
      rcases hown6.2 with ⟨_, e⟩ | ⟨g, cap, cur, e, _⟩
      · have := frS_pos f
        omega
      · exact ⟨g, cap, e⟩
    generalize hJJ : D.S.J.length + (strOfNums (frameL f)).size = nJ at ev
    subst ev
    obtain ⟨L7, T7, Q7⟩ := L5.journal hown6 hg6 hl6
    have cj6 : w6.cell? ⟨p.a, 162, none⟩ = some p.jv := (World.cell?_of_block (hg6.block p.a hal5 (fun e => (L5.j_ne e.symm).1 rfl))).trans cj
    have fj6 : w6.frozen? ⟨p.a, 162, none⟩ = false := (World.frozen?_of_block (hg6.block p.a hal5 (fun e => (L5.j_ne e.symm).1 rfl))).trans fj
    have kp : ∀ b j, w.heap.size ≤ b → b < w5.heap.size → w6.cell? ⟨b, j, none⟩ = w5.cell? ⟨b, j, none⟩ ∧ w6.frozen? ⟨b, j, none⟩ = w5.frozen? ⟨b, j, none⟩ := fun b j hb hb5 => by
      have hne : some b ≠ p.jv.ownBlock := fun e => by
        have := hfp b (Or.inr (Or.inr (Or.inr (Or.inr e.symm))))
        omega
      exact ⟨World.cell?_of_block (a := ⟨b, j, none⟩) (hg6.block b hb5 hne), World.frozen?_of_block (a := ⟨b, j, none⟩) (hg6.block b hb5 hne)⟩
    have c0 := (kp w3.heap.size 0 (by omega) (by omega)).1.trans v0
    have c1 := (kp w3.heap.size 1 (by omega) (by omega)).1.trans v1
    have d0 := (kp (w.heap.size + 1) 0 (by omega) (by omega)).1.trans u0
    have d1 := (kp (w.heap.size + 1) 1 (by omega) (by omega)).1.trans u1
    have m0 := (kp (w.heap.size + 1) 0 (by omega) (by omega)).2.trans k0
    have m1 := (kp (w.heap.size + 1) 1 (by omega) (by omega)).2.trans k1
    have o1 : ¬ p.a = w3.heap.size := by omega
    have o2 : ¬ w3.heap.size = p.a := by omega
    have o3 : ¬ p.a = w.heap.size + 1 := by omega
    have o4 : ¬ w.heap.size + 1 = p.a := by omega
    have DD := done_more hfp (p' := { p with jv := .slice (some ⟨g6, 0, none⟩) nJ cap6 }) L7 (TT5.trans T7) (fun k hk => by
      rcases Q7 k hk with h | h
      · exact Or.inl h
      · exact Or.inr (by omega)) rfl (w.heap.size + 1) (Nat.le_succ _) (by omega) 0 D.N
    clear hJJ kp v0 v1 u0 u1 k0 k1 L5 L7 T7 Q7 TT5 hown6 hg6 hl6 cj fj
    go_wp2
    rw [HD.out.1, HD.out.2] at DD
    exact bodyPost_ret (v := ansV 0 D.N) (by simp [results, Tryz.results29, go_sem, d0, d1]) rfl DD

end Go.Proofs.YtdblmheoghhepaaGreatDoor

/- 'Do' at every command. -/
namespace Go.Proofs.YtdblmheoghhepaaGreatDoor
open Go.RowKit

theorem do_any (p : Adr) (S : Led) (f : Nat → Int) (w : World) (hT : TabW w) (h : LedAt w p S) (hO : LOk S) (hJ : S.J.length ≤ 140737488355000) :
    Calls Tryz.prog 29 #[.pointer (some ⟨p.a, 0, none⟩), cmdV f] w (Done w p (doD S f)) := by
  unfold doD
  by_cases hr : refOk f = true
  · rw [if_pos hr]
    cases hi : hitOf S.A (f 1) with
    | some i =>
      by_cases hs : same8 (rowA S.A i) f = true
      · simp only [hs, if_true]
        exact do_same p S f w hT h hO hr i hi hs
      · have hs' : same8 (rowA S.A i) f = false := by simpa using hs
        simp only [hs', Bool.false_eq_true, if_false]
        exact do_other p S f w hT h hO hr i hi hs'
    | none =>
      by_cases hE : (dec S f).E = 0
      · simp only [hE, if_true]
        exact do_yes p S f w hT h hO hr hJ hi hE
      · simp only [hE, if_false]
        exact do_no p S f w hT h hO hr hi hE
  · rw [if_neg hr]
    exact do_bad p S f w hT h (by simpa using hr)

theorem rows8_push {A R : Nat → Int} (h : Rows8 A) (hR : R 0 ≠ 0) : Rows8 (pushA A R) := by
  intro i hi
  unfold pushA
  by_cases e : i = 0
  · subst e
    right
    simpa using hR
  · rcases h (i - 1) (by omega) with h1 | h1
    · left
      intro j hj
      rw [if_neg (by omega)]
      have := h1 j hj
      rwa [show i * 10 + j - 10 = (i - 1) * 10 + j by omega]
    · right
      rw [if_neg (by omega)]
      rwa [show i * 10 - 10 = (i - 1) * 10 by omega]

/-- The ledger stays within its bounds. -/
theorem lok_do {S : Led} (h : LOk S) (f : Nat → Int) : LOk (doD S f).S := by
  unfold doD
  split
  · rename_i hr
    split
    · split <;> exact h
    · split
      · have h1 := lok_dec h f (rightC_of f hr)
        refine ⟨h1.now, h1.G, h1.H, rows8_push h.rows ?_⟩
        have := refOk_kind f hr
        show f 0 ≠ 0
        omega
      · exact h
  · exact h
theorem j_do (S : Led) (f : Nat → Int) : (doD S f).S.J.length ≤ S.J.length + 37 := by
  unfold doD
  split
  · split
    · split <;> simp
    · split
      · have := frS_le f
        simp only [List.length_append, bytesS_len]
        omega
      · simp
  · simp
theorem lok_S0 : LOk ⟨0, fun _ => 0, [], fun _ => 0, []⟩ :=
  ⟨by simp, fun _ _ => by simp, fun _ h => (by cases h), fun _ _ => Or.inl fun _ _ => rfl⟩

end Go.Proofs.YtdblmheoghhepaaGreatDoor
