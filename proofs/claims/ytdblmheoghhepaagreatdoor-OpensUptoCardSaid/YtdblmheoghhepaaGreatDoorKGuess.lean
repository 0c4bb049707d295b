/- The document's 'guess' (package larderref). -/
import Derived.Test.YtdblmheoghhepaaGreatDoorKRead
import Derived.Test.YtdblmheoghhepaaGreatDoorKBase
import Derived.Test.YtdblmheoghhepaaGreatDoorKReadAllB
namespace Go.Proofs.YtdblmheoghhepaaGreatDoor
open Go.RowKit

def mkF (a0 a1 a2 a3 a4 a5 a6 a7 : Int) : Nat → Int
  | 0 => a0 | 1 => a1 | 2 => a2 | 3 => a3 | 4 => a4 | 5 => a5 | 6 => a6 | _ => a7
theorem cutN_bd (b : Bool) (s : ByteArray) (n : Nat) (h : n ≤ 4) : 0 ≤ cutN b s n ∧ cutN b s n < 4294967296 := by
  unfold cutN; split
  · exact numFrom_bd s 0 n (by omega)
  · omega

/-- What is left behind each number. -/
def gS1 (s : ByteArray) : ByteArray := cutS true s 1
def gK (s : ByteArray) : Int := cutN true s 1
def gS2 (s : ByteArray) : ByteArray := cutS true (gS1 s) 4
def gS3 (s : ByteArray) : ByteArray := cutS (needG (gK s)) (gS2 s) 1
def gS4 (s : ByteArray) : ByteArray := cutS (needC (gK s)) (gS3 s) 1
def gS5 (s : ByteArray) : ByteArray := cutS (needD (gK s)) (gS4 s) 1
def gS6 (s : ByteArray) : ByteArray := cutS (needQ (gK s)) (gS5 s) 4
def gS7 (s : ByteArray) : ByteArray := cutS (needH (gK s)) (gS6 s) 4
def gQ (s : ByteArray) : Int := if gK s == 7 then cutN (needQ (gK s)) (gS5 s) 4 - 2147483648 else cutN (needQ (gK s)) (gS5 s) 4
def guessF (s : ByteArray) : Nat → Int := mkF (gK s) (cutN true (gS1 s) 4) (cutN (needG (gK s)) (gS2 s) 1) (cutN (needC (gK s)) (gS3 s) 1) (cutN (needD (gK s)) (gS4 s) 1) (gQ s) (cutN (needH (gK s)) (gS6 s) 4) (cutN (needT (gK s)) (gS7 s) 2)

theorem bs {B : Nat} {w wr : World} {b : Nat} (hb : Below B w wr) (h : B ≤ b) (j : Nat) (v : Value) : Below B w (wr.setCell ⟨b, j, none⟩ v) := hb.setCell h v

/-- The two blocks of 'guess': the answer's, and the command's. -/
def GInv (w : World) (F : Nat → Int) (W : World) : Prop := CmdAt W w.heap.size (fun _ => 0) ∧ Free W w.heap.size ∧ CmdAt W (w.heap.size + 1) F ∧ Free W (w.heap.size + 1) ∧ Below w.heap.size w W ∧ w.heap.size + 2 ≤ W.heap.size
theorem GInv.start (w : World) : GInv w (fun _ => 0) ((w.alloc (.cells (cmdC fun _ => 0) 33)).alloc (.cells (cmdC fun _ => 0) 33)) := by
  have b1 : Below w.heap.size w (w.alloc (.cells (cmdC fun _ => 0) 33)) := (Below.refl _ _).alloc (Nat.le_refl _) _
  have b2 : Below (w.heap.size + 1) (w.alloc (.cells (cmdC fun _ => 0) 33)) ((w.alloc (.cells (cmdC fun _ => 0) 33)).alloc (.cells (cmdC fun _ => 0) 33)) := (Below.refl _ _).alloc (by simp) _
  refine ⟨(CmdAt.new w _ 33).below b2 (by omega), (free_new w _ 33).below b2 (by omega), ?_, ?_, b1.trans (b2.mono (by omega)), by simp⟩
  · simpa using CmdAt.new (w.alloc (.cells (cmdC fun _ => 0) 33)) (fun _ => 0) 33
  · simpa using free_new (w.alloc (.cells (cmdC fun _ => 0) 33)) (cmdC fun _ => 0) 33
theorem GInv.drewN {w : World} {F : Nat → Int} {W : World} (h : GInv w F W) (n : Nat) : GInv w F (W.drewN n) := by
  obtain ⟨h1, h2, h3, h4, h5, h6⟩ := h
  have b : Below W.heap.size W (W.drewN n) := below_drewN (Below.refl _ _) n
  have hz := b.size
  exact ⟨h1.below b (by omega), h2.below b (by omega), h3.below b (by omega), h4.below b (by omega), h5.trans (b.mono (by omega)), by omega⟩
theorem GInv.set {w : World} {F : Nat → Int} {W : World} (h : GInv w F W) (j : Nat) (v : Int) : GInv w (upd F j v) (W.setCell ⟨w.heap.size + 1, j, none⟩ (.int .i64 v)) := by
  obtain ⟨h1, h2, h3, h4, h5, h6⟩ := h
  refine ⟨fun i hi => (World.cell?_of_block (w := W) (Below.heap_setCell W _ _ _ (by simp))).trans (h1 i hi), fun i => by rw [World.frozen?_setCell]; exact h2 i, ?_, fun i => by rw [World.frozen?_setCell]; exact h4 i, h5.setCell (by simp) _, by simpa using h6⟩
  intro i hi
  unfold upd
  by_cases e : j = i
  · subst e
    rw [if_pos rfl]
    exact World.cell?_setCell_same' W _ _ (by rw [h3 _ hi]; rfl)
  · rw [if_neg e, World.cell?_setCell_other _ _ _ _ (by intro h; cases h; exact e rfl)]
    exact h3 i hi
theorem calls_gen {n : FuncId} {args : Array Value} {Q : Ending → World → Prop} {w : World} {F : Nat → Int} {W0 : World} (h : GInv w F W0) (k : ∀ W, GInv w F W → Calls Tryz.prog n args W Q) : Calls Tryz.prog n args W0 Q := k W0 h

set_option maxRecDepth 100000 in
set_option maxHeartbeats 4000000 in
theorem guess_any (s : ByteArray) (w : World) (hs : s.size ≤ maxLen) :
    Calls Tryz.prog 49 #[.string s] w fun e w' => e = .returned (cmdV (guessF s)) ∧ Below w.heap.size w w' := by
  have z1 : (gS1 s).size ≤ maxLen := Nat.le_trans (cutS_size _ _ _) hs
  have z2 : (gS2 s).size ≤ maxLen := Nat.le_trans (cutS_size _ _ _) z1
  have z3 : (gS3 s).size ≤ maxLen := Nat.le_trans (cutS_size _ _ _) z2
  have z4 : (gS4 s).size ≤ maxLen := Nat.le_trans (cutS_size _ _ _) z3
  have z5 : (gS5 s).size ≤ maxLen := Nat.le_trans (cutS_size _ _ _) z4
  have z6 : (gS6 s).size ≤ maxLen := Nat.le_trans (cutS_size _ _ _) z5
  have z7 : (gS7 s).size ≤ maxLen := Nat.le_trans (cutS_size _ _ _) z6
  have hqb := cutN_bd (needQ (gK s)) (gS5 s) 4 (by omega)
  cases h7 : gK s == 7 with
  | false =>
    have hQ : gQ s = cutN (needQ (gK s)) (gS5 s) 4 := by simp [gQ, h7]
    have HQ := hQ
    clear hQ
    have HQ' : Hid (gQ s = cutN (needQ (gK s)) (gS5 s) 4) := HQ
    clear HQ
    go_enter Tryz.func49, Tryz.ntmps49
    go_wp2_with fail
    refine (cut1 true s _ hs).mono ?_
    rintro e w1 ⟨rfl, n1, rfl⟩
    rw [show cutN true s 1 = gK s from rfl, show cutS true s 1 = gS1 s from rfl]
    go_wp2_with fail
    refine (refNeeds_any (gK s) _).mono ?_
    rintro e w2 ⟨rfl, rfl⟩
    go_wp2_with fail
    refine (cut4 true (gS1 s) _ z1).mono ?_
    rintro e w3 ⟨rfl, n3, rfl⟩
    rw [show cutS true (gS1 s) 4 = gS2 s from rfl]
    go_wp2_with fail
    refine (cut1 (needG (gK s)) (gS2 s) _ z2).mono ?_
    rintro e w4 ⟨rfl, n4, rfl⟩
    rw [show cutS (needG (gK s)) (gS2 s) 1 = gS3 s from rfl]
    go_wp2_with fail
    refine (cut1 (needC (gK s)) (gS3 s) _ z3).mono ?_
    rintro e w5 ⟨rfl, n5, rfl⟩
    rw [show cutS (needC (gK s)) (gS3 s) 1 = gS4 s from rfl]
    go_wp2_with fail
    refine (cut1 (needD (gK s)) (gS4 s) _ z4).mono ?_
    rintro e w6 ⟨rfl, n6, rfl⟩
    rw [show cutS (needD (gK s)) (gS4 s) 1 = gS5 s from rfl]
    go_wp2_with fail
    refine (cut4 (needQ (gK s)) (gS5 s) _ z5).mono ?_
    rintro e w7 ⟨rfl, n7, rfl⟩
    rw [show cutS (needQ (gK s)) (gS5 s) 4 = gS6 s from rfl]
    go_wp2_with fail
    refine calls_gen (((((((((((((GInv.start w).drewN _).set 0 _).drewN _).set 1 _).drewN _).set 2 _).drewN _).set 3 _).drewN _).set 4 _).drewN _).set 5 _) ?_
    intro W hI
    obtain ⟨hZ, hZF, hN, hF, hB, hsz⟩ := hI
    obtain ⟨c0, c1, c2, c3, c4, c5, c6, c7⟩ := hZ.all
    obtain ⟨d0, d1, d2, d3, d4, d5, d6, d7⟩ := hN.all
    have f0 := hZF 0
    have f1 := hZF 1
    have f2 := hZF 2
    have f3 := hZF 3
    have f4 := hZF 4
    have f5 := hZF 5
    have f6 := hZF 6
    have f7 := hZF 7
    have g6 := hF 6
    have g7 := hF 7
    clear hZ hZF hN hF
    simp only [upd, if_pos, reduceIte, Nat.reduceEqDiff] at d0 d1 d2 d3 d4 d5 d6 d7
    go_wp2_with fail
    refine (cut4 (needH (gK s)) (gS6 s) _ z6).mono ?_
    rintro e w8 ⟨rfl, n8, rfl⟩
    rw [show cutS (needH (gK s)) (gS6 s) 4 = gS7 s from rfl]
    go_wp2_with fail
    refine (cut2 (needT (gK s)) (gS7 s) _ z7).mono ?_
    rintro e w9 ⟨rfl, n9, rfl⟩
    go_wp2
    refine bodyPost_ret (v := cmdV (guessF s)) (by simp [results, Tryz.results49, go_sem, guessF, mkF, HQ'.out, *]) rfl ⟨rfl, ?_⟩
    exact below8 (bs (below_drewN (bs (below_drewN hB _) (Nat.le_succ _) _ _) _) (Nat.le_succ _) _ _) _ (Nat.le_refl _) _ _ _ _ _ _ _ _
  | true =>
    have hQ : gQ s = cutN (needQ (gK s)) (gS5 s) 4 - 2147483648 := by simp [gQ, h7]
    have HQ := hQ
    clear hQ
    have HQ' : Hid (gQ s = cutN (needQ (gK s)) (gS5 s) 4 - 2147483648) := HQ
    clear HQ
    go_enter Tryz.func49, Tryz.ntmps49
    go_wp2_with fail
    refine (cut1 true s _ hs).mono ?_
    rintro e w1 ⟨rfl, n1, rfl⟩
    rw [show cutN true s 1 = gK s from rfl, show cutS true s 1 = gS1 s from rfl]
    go_wp2_with fail
    refine (refNeeds_any (gK s) _).mono ?_
    rintro e w2 ⟨rfl, rfl⟩
    go_wp2_with fail
    refine (cut4 true (gS1 s) _ z1).mono ?_
    rintro e w3 ⟨rfl, n3, rfl⟩
    rw [show cutS true (gS1 s) 4 = gS2 s from rfl]
    go_wp2_with fail
    refine (cut1 (needG (gK s)) (gS2 s) _ z2).mono ?_
    rintro e w4 ⟨rfl, n4, rfl⟩
    rw [show cutS (needG (gK s)) (gS2 s) 1 = gS3 s from rfl]
    go_wp2_with fail
    refine (cut1 (needC (gK s)) (gS3 s) _ z3).mono ?_
    rintro e w5 ⟨rfl, n5, rfl⟩
    rw [show cutS (needC (gK s)) (gS3 s) 1 = gS4 s from rfl]
    go_wp2_with fail
    refine (cut1 (needD (gK s)) (gS4 s) _ z4).mono ?_
    rintro e w6 ⟨rfl, n6, rfl⟩
    rw [show cutS (needD (gK s)) (gS4 s) 1 = gS5 s from rfl]
    go_wp2_with fail
    refine (cut4 (needQ (gK s)) (gS5 s) _ z5).mono ?_
    rintro e w7 ⟨rfl, n7, rfl⟩
    rw [show cutS (needQ (gK s)) (gS5 s) 4 = gS6 s from rfl]
    go_wp2_with fail
    refine calls_gen ((((((((((((((GInv.start w).drewN _).set 0 _).drewN _).set 1 _).drewN _).set 2 _).drewN _).set 3 _).drewN _).set 4 _).drewN _).set 5 _).set 5 _) ?_
    intro W hI
    obtain ⟨hZ, hZF, hN, hF, hB, hsz⟩ := hI
    obtain ⟨c0, c1, c2, c3, c4, c5, c6, c7⟩ := hZ.all
    obtain ⟨d0, d1, d2, d3, d4, d5, d6, d7⟩ := hN.all
    have f0 := hZF 0
    have f1 := hZF 1
    have f2 := hZF 2
    have f3 := hZF 3
    have f4 := hZF 4
    have f5 := hZF 5
    have f6 := hZF 6
    have f7 := hZF 7
    have g6 := hF 6
    have g7 := hF 7
    clear hZ hZF hN hF
    simp only [upd, if_pos, reduceIte, Nat.reduceEqDiff] at d0 d1 d2 d3 d4 d5 d6 d7
    go_wp2_with fail
    refine (cut4 (needH (gK s)) (gS6 s) _ z6).mono ?_
    rintro e w8 ⟨rfl, n8, rfl⟩
    rw [show cutS (needH (gK s)) (gS6 s) 4 = gS7 s from rfl]
    go_wp2_with fail
    refine (cut2 (needT (gK s)) (gS7 s) _ z7).mono ?_
    rintro e w9 ⟨rfl, n9, rfl⟩
    go_wp2
    refine bodyPost_ret (v := cmdV (guessF s)) (by simp [results, Tryz.results49, go_sem, guessF, mkF, HQ'.out, *]) rfl ⟨rfl, ?_⟩
    exact below8 (bs (below_drewN (bs (below_drewN hB _) (Nat.le_succ _) _ _) _) (Nat.le_succ _) _ _) _ (Nat.le_refl _) _ _ _ _ _ _ _ _

end Go.Proofs.YtdblmheoghhepaaGreatDoor
