/- Package stock: 'move', 'Change', 'Plan', 'Allot', 'supply', 'demand', 'Free'. -/
import Derived.Test.YtdblmheoghhepaaGreatDoorKAfterAll
import Derived.Deep.RegionHeld3
namespace Go.Proofs.YtdblmheoghhepaaGreatDoor
open Go.RowKit

def inStock (x : Int) : Bool := decide (-1000000000 ≤ x ∧ x ≤ 1000000000)
def moveE (x : Int) : Int := if inStock x = true then 0 else 6
def moveW (w : World) (p : Addr) (x : Int) : World := if inStock x = true then w.setCell p (.int .i64 x) else w

set_option maxRecDepth 100000 in
set_option maxHeartbeats 400000 in
theorem move_any (b o : Nat) (x d : Int) (w : World) (hc : w.cell? ⟨b, o, none⟩ = some (.int .i64 x)) (hf : w.frozen? ⟨b, o, none⟩ = false) (hx : -1000000000 ≤ x ∧ x ≤ 1000000000) (hd : -1000000 ≤ d ∧ d ≤ 1000000) :
    Calls Tryz.prog 99 #[.pointer (some ⟨b, o, none⟩), .int .i64 d] w fun e w' => e = .returned (.int .i64 (moveE (x + d))) ∧ moveW w ⟨b, o, none⟩ (x + d) = w' := by
  by_cases h : inStock (x + d) = true
  · have h' : -1000000000 ≤ x + d ∧ x + d ≤ 1000000000 := by simpa [inStock] using h
    have H1 : Hid (moveE (x + d) = 0) := if_pos h
    have H2 : Hid (moveW w ⟨b, o, none⟩ (x + d) = w.setCell ⟨b, o, none⟩ (.int .i64 (x + d))) := if_pos h
    clear h
    go_enter Tryz.func99, Tryz.ntmps99
    go_wp2
    go_ret
    exact ⟨by rw [H1.out]; rfl, H2.out⟩
  · have h' : ¬ (-1000000000 ≤ x + d ∧ x + d ≤ 1000000000) := by simpa [inStock] using h
    have H1 : Hid (moveE (x + d) = 6) := if_neg h
    have H2 : Hid (moveW w ⟨b, o, none⟩ (x + d) = w) := if_neg h
    clear h
    go_enter Tryz.func99, Tryz.ntmps99
    go_wp2
    all_goals first | (exfalso; omega) | skip
    all_goals go_ret
    all_goals exact ⟨by rw [H1.out]; rfl, H2.out⟩

set_option maxRecDepth 100000 in
set_option maxHeartbeats 400000 in
theorem change_any (b o : Nat) (x d : Int) (w : World) (hc : w.cell? ⟨b, o, none⟩ = some (.int .i64 x)) (hf : w.frozen? ⟨b, o, none⟩ = false) (hx : -1000000000 ≤ x ∧ x ≤ 1000000000) (hd : -1000000 ≤ d ∧ d ≤ 1000000) :
    Calls Tryz.prog 74 #[.pointer (some ⟨b, o, none⟩), .int .i64 d] w fun e w' => e = .returned (.int .i64 (moveE (x + d))) ∧ moveW w ⟨b, o, none⟩ (x + d) = w' := by
  go_enter Tryz.func74, Tryz.ntmps74
  go_wp2_with fail
  refine (move_any b o x d _ hc hf hx hd).mono ?_
  rintro e w1 ⟨rfl, rfl⟩
  go_wp2
  go_ret
  exact ⟨rfl, rfl⟩

set_option maxRecDepth 100000 in
set_option maxHeartbeats 400000 in
theorem plan_any (b o k : Nat) (x d : Int) (w : World) (hk : k < 16) (hc : w.cell? ⟨b, o + 1 + k, none⟩ = some (.int .i64 x)) (hf : w.frozen? ⟨b, o + 1 + k, none⟩ = false) (hx : -1000000000 ≤ x ∧ x ≤ 1000000000) (hd : -1000000 ≤ d ∧ d ≤ 1000000) :
    Calls Tryz.prog 75 #[.pointer (some ⟨b, o, none⟩), .int .i64 (k : Int), .int .i64 d] w fun e w' => e = .returned (.int .i64 (moveE (x + d))) ∧ moveW w ⟨b, o + 1 + k, none⟩ (x + d) = w' := by
  have hk' : (k : Int) < 16 := by omega
  go_enter Tryz.func75, Tryz.ntmps75
  go_wp2_with fail
  refine (move_any b (o + 1 + k) x d _ hc hf hx hd).mono ?_
  rintro e w1 ⟨rfl, rfl⟩
  go_wp2
  go_ret
  exact ⟨rfl, rfl⟩

set_option maxRecDepth 100000 in
set_option maxHeartbeats 400000 in
theorem allot_any (b o k : Nat) (x d : Int) (w : World) (hk : k < 3) (hc : w.cell? ⟨b, o + 17 + k, none⟩ = some (.int .i64 x)) (hf : w.frozen? ⟨b, o + 17 + k, none⟩ = false) (hx : -1000000000 ≤ x ∧ x ≤ 1000000000) (hd : -1000000 ≤ d ∧ d ≤ 1000000) :
    Calls Tryz.prog 76 #[.pointer (some ⟨b, o, none⟩), .int .i64 (k : Int), .int .i64 d] w fun e w' => e = .returned (.int .i64 (moveE (x + d))) ∧ moveW w ⟨b, o + 17 + k, none⟩ (x + d) = w' := by
  have hk' : (k : Int) < 3 := by omega
  go_enter Tryz.func76, Tryz.ntmps76
  go_wp2_with fail
  refine (move_any b (o + 17 + k) x d _ hc hf hx hd).mono ?_
  rintro e w1 ⟨rfl, rfl⟩
  go_wp2
  go_ret
  exact ⟨rfl, rfl⟩

theorem w64i (n : Int) (h : -9223372036854775808 ≤ n ∧ n ≤ 9223372036854775807) : IntKind.i64.wrap n = n := by
  rw [IntKind.wrap_i64]
  omega

def supV (V : Nat → Int) (d : Nat) : Int := V 0 + sumTo (fun k => V (1 + k)) (d + 1)
abbrev Stk (V : Nat → Int) : Prop := ∀ k, k < 20 → -1000000000 ≤ V k ∧ V k ≤ 1000000000

set_option maxRecDepth 100000 in
set_option maxHeartbeats 1000000 in
theorem supply_any (b o d : Nat) (V : Nat → Int) (w : World) (hd : d < 16) (hV : Stk V) (h : NumsAt w b o 20 V) :
    Calls Tryz.prog 82 #[.pointer (some ⟨b, o, none⟩), .int .i64 (d : Int)] w fun e w' => e = .returned (.int .i64 (supV V d)) ∧ Below w.heap.size w w' := by
  have hlt : b < w.heap.size := World.block_lt_of_cell? w ⟨b, o + 0, none⟩ (h 0 (by omega))
  have c0 : w.cell? ⟨b, o, none⟩ = some (.int .i64 (V 0)) := by simpa using h 0 (by omega)
  have hN : NumsAt w b (o + 1) (d + 1) (fun k => V (1 + k)) := fun k hk => by simpa [Nat.add_assoc] using h (1 + k) (by omega)
  have b1 := sumTo_bd (fun k => V (1 + k)) 1000000000 (d + 1) (fun k hk => hV (1 + k) (by omega))
  have b2 := hV 0 (by omega)
  have hdI : (d : Int) + 1 ≤ 16 := by omega
  have hdJ : (0 : Int) ≤ (d : Int) + 1 := by omega
  have hdW : IntKind.i64.wrap ((d : Int) + 1) = (d : Int) + 1 := w64i _ (by omega)
  go_enter Tryz.func82, Tryz.ntmps82
  go_wp2
  go_region_held3 (fun w' => w'.cell? ⟨b, o, none⟩ = some (.int .i64 (V 0))) (first | (go_keep; done) | (simp; done)) (first | (go_at_call 103; refine (sum16_any b (o + 1) (d + 1) _ (fun k => V (1 + k)) _ (by omega) (fun k hk => hV (1 + k) (by omega)) (NumsAt.same (w' := w.drew) hN rfl)).mono ?_; rintro e wa ⟨rfl, ha⟩; have ca : wa.cell? ⟨b, o, none⟩ = some (.int .i64 (V 0)) := (ha.cell (p := ⟨b, o, none⟩) hlt).trans c0))
  have hbb : Below w.heap.size w wa := (Below.refl _ _).drew.trans ha
  clear ha hN
  go_wp2
  go_ret
  refine ⟨ret_int ?_, hbb⟩
  unfold supV
  exact w64i _ (by omega)

set_option maxRecDepth 100000 in
set_option maxHeartbeats 1000000 in
theorem demand_any (day : Int) (v : Value) (L : List (Nat → Int)) (w : World) (hl : L.length ≤ 60) (hq : ∀ h ∈ L, 0 ≤ h 4 ∧ h 4 ≤ 1000000) (hr : RowIs w v L) :
    Calls Tryz.prog 83 #[.int .i64 day, v] w fun e w' => e = .returned (.int .i64 (sumL (dayQ day) L)) ∧ Below w.heap.size w w' := by
  go_enter Tryz.func83, Tryz.ntmps83
  go_wp2_with fail
  refine (sumDay_any day w.heap.size v L _ hl hq (hr.below ((Below.refl _ _).alloc (Nat.le_refl _) _)) (by rw [World.cell?_alloc_new]; rfl) (by simp)).mono ?_
  rintro e w1 ⟨rfl, hb⟩
  have hbb : Below w.heap.size w w1 := ((Below.refl _ _).alloc (Nat.le_refl _) _).trans (hb.mono (by simp))
  go_wp2
  go_ret
  exact ⟨rfl, hbb⟩

def freeV (V : Nat → Int) (L : List (Nat → Int)) (c : Nat) : Int := V (17 + c) - sumL (chQ c) L

set_option maxRecDepth 100000 in
set_option maxHeartbeats 1000000 in
theorem goodFree_any (b o c : Nat) (V : Nat → Int) (v : Value) (L : List (Nat → Int)) (w : World) (hc : c < 3) (hV : Stk V) (h : NumsAt w b o 20 V) (hl : L.length ≤ 60) (hq : ∀ h ∈ L, 0 ≤ h 4 ∧ h 4 ≤ 1000000) (hr : RowIs w v L) :
    Calls Tryz.prog 58 #[.pointer (some ⟨b, o, none⟩), .int .i64 (c : Int), v] w fun e w' => e = .returned (.int .i64 (freeV V L c)) ∧ Below w.heap.size w w' := by
  have hlt : b < w.heap.size := World.block_lt_of_cell? w ⟨b, o + 0, none⟩ (h 0 (by omega))
  have c0 : w.cell? ⟨b, o + 17 + c, none⟩ = some (.int .i64 (V (17 + c))) := by simpa [Nat.add_assoc] using h (17 + c) (by omega)
  have b1 := sumL_bd (chQ c) (chQ_bd c) L hq
  have b2 := hV (17 + c) (by omega)
  have hcI : (c : Int) < 3 := by omega
  have hr1 : RowIs ((w.alloc (.cells #[.int .i64 (c : Int)] 3)).drew) v L := hr.below ((Below.refl _ _).alloc (Nat.le_refl _) _).drew
  go_enter Tryz.func58, Tryz.ntmps58
  go_wp2
  go_region_held3 (fun w' => w'.cell? ⟨b, o + 17 + c, none⟩ = some (.int .i64 (V (17 + c))) ∧ w'.cell? ⟨w.heap.size, 0, none⟩ = some (.int .i64 (c : Int))) (first | (go_keep; done) | (simp; done)) (first | (go_at_call 89; refine (sumCh_any (c : Int) w.heap.size v L _ hl hq hr1 (by simp [go_sem]) (by simp)).mono ?_; rintro e wa ⟨rfl, ha⟩; have ca : wa.cell? ⟨b, o + 17 + c, none⟩ = some (.int .i64 (V (17 + c))) := (ha.cell (p := ⟨b, o + 17 + c, none⟩) (by simp; omega)).trans (by simp [go_sem, hlt, c0]); have cb : wa.cell? ⟨w.heap.size, 0, none⟩ = some (.int .i64 (c : Int)) := (ha.cell (p := ⟨w.heap.size, 0, none⟩) (by simp)).trans (by simp [go_sem])))
  have hbb : Below w.heap.size w wa := (((Below.refl _ _).alloc (Nat.le_refl _) _).drew).trans (ha.mono (by simp))
  clear ha hr1
  go_wp2
  go_ret
  refine ⟨ret_int ?_, hbb⟩
  unfold freeV
  exact w64i _ (by omega)

/-- What can be promised for a day. -/
def leftV (V : Nat → Int) (L : List (Nat → Int)) (k : Nat) : Int := supV V k - sumL (dayQ k) L
def atpV (V : Nat → Int) (L : List (Nat → Int)) (d : Nat) : Int := leastTo (fun k => leftV V L (d + k)) (16 - d)
/-- A row of sixteen numbers, of which the first k are those of W, the others 0. -/
def upTo (W : Nat → Int) (k : Nat) : Nat → Int := fun j => if j < k then W j else 0

abbrev zero16 : Obj := .cells #[.int .i64 0, .int .i64 0, .int .i64 0, .int .i64 0, .int .i64 0, .int .i64 0, .int .i64 0, .int .i64 0, .int .i64 0, .int .i64 0, .int .i64 0, .int .i64 0, .int .i64 0, .int .i64 0, .int .i64 0, .int .i64 0] 46
theorem nums_zero16 (w : World) (W : Nat → Int) : NumsAt (w.alloc zero16) w.heap.size 0 16 (upTo W 0) := by
  intro k hk
  rw [Nat.zero_add, World.cell?_alloc_new]
  match k, hk with
  | 0, _ | 1, _ | 2, _ | 3, _ | 4, _ | 5, _ | 6, _ | 7, _ | 8, _ | 9, _ | 10, _ | 11, _ | 12, _ | 13, _ | 14, _ | 15, _ => rfl
  | m + 16, hm => omega
theorem nums_set {w : World} {b n k : Nat} {W : Nat → Int} (h : NumsAt w b 0 n (upTo W k)) (hk : k < n) : NumsAt (w.setCell ⟨b, k, none⟩ (.int .i64 (W k))) b 0 n (upTo W (k + 1)) := by
  intro j hj
  have hkc := h k hk
  rw [Nat.zero_add] at hkc ⊢
  by_cases e : j = k
  · subst e
    rw [World.cell?_setCell_same _ _ _ hkc]
    simp [upTo]
  · have := h j hj
    rw [Nat.zero_add] at this
    have e2 : upTo W (k + 1) j = upTo W k j := by unfold upTo; split <;> split <;> first | rfl | omega
    have hne : (⟨b, k, none⟩ : Addr) ≠ ⟨b, j, none⟩ := fun x => e (by cases x; rfl)
    rw [e2, ← this, World.cell?_setCell_other _ _ _ _ hne]

set_option maxRecDepth 100000 in
set_option maxHeartbeats 1000000 in
theorem goodATP_any (b o d : Nat) (V : Nat → Int) (v : Value) (L : List (Nat → Int)) (w : World) (hd : d < 16) (hV : Stk V) (h : NumsAt w b o 20 V) (hl : L.length ≤ 60) (hq : ∀ h ∈ L, 0 ≤ h 4 ∧ h 4 ≤ 1000000) (hr : RowIs w v L) :
    Calls Tryz.prog 55 #[.pointer (some ⟨b, o, none⟩), .int .i64 (d : Int), v] w fun e w' => e = .returned (.int .i64 (atpV V L d)) ∧ Below w.heap.size w w' := by
  have hlt : b < w.heap.size := World.block_lt_of_cell? w ⟨b, o + 0, none⟩ (h 0 (by omega))
  have hdI : (d : Int) ≤ 16 := by omega
  have hdJ : (0 : Int) ≤ (d : Int) := by omega
  go_enter Tryz.func55, Tryz.ntmps55
  go_wp2
  go_loopw [8, 9] (fun _ i wr => ∃ k : Nat, k ≤ 16 ∧ i = .int .i64 k ∧ NumsAt wr w.heap.size 0 16 (upTo (leftV V L) k) ∧ Free wr w.heap.size ∧ Below w.heap.size w wr ∧ w.heap.size < wr.heap.size) (fun _ i _ => 16 - (intOf i).toNat)
  case atStart => exact ⟨0, by omega, rfl, nums_zero16 _ _, free_new w _ 46, (Below.refl _ _).alloc (Nat.le_refl _) _, by simp⟩
  case round =>
    obtain ⟨k, hk, rfl, hN, hF, hb, hsz⟩ := hrel
    by_cases hlt2 : k < 16
    · have hkI : (k : Int) < 16 := by omega
      have hsb := hb.size
      have hg1 : NumsAt wr b o 20 V := h.same (hb.block b hlt)
      have hr1 : RowIs wr v L := hr.below hb
      have b1 := sumTo_bd (fun j => V (1 + j)) 1000000000 (k + 1) (fun j hj => hV (1 + j) (by omega))
      have b2 := hV 0 (by omega)
      have b3 := sumL_bd (dayQ k) (dayQ_bd k) L hq
      have b4 : -17000000000 ≤ supV V k ∧ supV V k ≤ 17000000000 := by unfold supV; omega
      go_wp2_with fail
      refine (supply_any b o k V _ hlt2 hV hg1).mono ?_
      rintro e w1 ⟨rfl, hb1⟩
      go_wp2_with fail
      refine (demand_any k v L _ hl hq (hr1.below hb1)).mono ?_
      rintro e w2 ⟨rfl, hb2⟩
      have hs1 := hb1.size
      have hs2 := hb2.size
      have hbb : Below wr.heap.size wr w2 := hb1.trans (hb2.mono hs1)
      have N2 := hN.same (hbb.block w.heap.size hsz)
      have F2 : Free w2 w.heap.size := hF.below hbb hsz
      have B2 := hb.trans (hbb.mono hsb)
      have ck : w2.cell? ⟨w.heap.size, k, none⟩ = some (.int .i64 (upTo (leftV V L) k k)) := by simpa using N2 k hlt2
      have fk := F2 k
      have N3 := nums_set N2 hlt2
      have B3 := B2.setCell (p := ⟨w.heap.size, k, none⟩) (Nat.le_refl _) (.int .i64 (leftV V L k))
      have F3 : Free (w2.setCell ⟨w.heap.size, k, none⟩ (.int .i64 (leftV V L k))) w.heap.size := fun j => by rw [World.frozen?_setCell]; exact F2 j
      have LV : Hid (leftV V L k = supV V k - sumL (dayQ k) L) := rfl
      clear hb1 hb2 hN hF hb hg1 hr1 hbb N2 F2 B2
      go_wp2
      go_roundw
      case rel =>
        rw [← LV.out]
        exact ⟨k + 1, by omega, by go_num, N3, F3, B3, by simp [World.setCell]; omega⟩
      case measure => simp [intOf]; omega
    · have he : k = 16 := by omega
      subst he
      have hNd : NumsAt wr w.heap.size d (16 - d) (fun j => leftV V L (d + j)) := fun j hj => by
        have := hN (d + j) (by omega)
        rw [Nat.zero_add] at this
        rw [this]
        simp [upTo]
        omega
      have hdc : (16 : Int) - (d : Int) = ((16 - d : Nat) : Int) := by omega
      clear hN hF h hr
      go_wp2_with fail
      refine (least_any w.heap.size d (16 - d) _ (fun j => leftV V L (d + j)) _ (by omega) (by omega) hNd).mono ?_
      rintro e w3 ⟨rfl, hb3⟩
      have B3 := hb.trans (hb3.mono (by omega))
      go_wp2
      go_ret
      exact ⟨rfl, B3⟩

end Go.Proofs.YtdblmheoghhepaaGreatDoor
