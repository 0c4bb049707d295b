/- 'Right' of package command. -/
import Derived.Test.YtklpbpgjlmpbeaaDoorPartsOf
namespace Go.Proofs.YtklpbpgjlmpbeaaDoor
open Go.RowKit

/-- The eight cells of a command at block b. -/
def CmdAt (w : World) (b : Nat) (f : Nat → Int) : Prop := ∀ j, j < 8 → w.cell? ⟨b, j, none⟩ = some (.int .i64 (f j))
theorem CmdAt.below {B : Nat} {w w' : World} {b : Nat} {f : Nat → Int} (h : CmdAt w b f) (hb : Below B w w') (hB : b < B) : CmdAt w' b f := fun j hj => (hb.cell (p := ⟨b, j, none⟩) hB).trans (h j hj)
theorem CmdAt.all {w : World} {b : Nat} {f : Nat → Int} (h : CmdAt w b f) : w.cell? ⟨b, 0, none⟩ = some (.int .i64 (f 0)) ∧ w.cell? ⟨b, 1, none⟩ = some (.int .i64 (f 1)) ∧ w.cell? ⟨b, 2, none⟩ = some (.int .i64 (f 2)) ∧ w.cell? ⟨b, 3, none⟩ = some (.int .i64 (f 3)) ∧
    w.cell? ⟨b, 4, none⟩ = some (.int .i64 (f 4)) ∧ w.cell? ⟨b, 5, none⟩ = some (.int .i64 (f 5)) ∧ w.cell? ⟨b, 6, none⟩ = some (.int .i64 (f 6)) ∧ w.cell? ⟨b, 7, none⟩ = some (.int .i64 (f 7)) :=
  ⟨h 0 (by omega), h 1 (by omega), h 2 (by omega), h 3 (by omega), h 4 (by omega), h 5 (by omega), h 6 (by omega), h 7 (by omega)⟩
theorem CmdAt.new (w : World) (f : Nat → Int) (t : TypeId) : CmdAt (w.alloc (.cells (cmdC f) t)) w.heap.size f := by
  intro j hj
  rw [World.cell?_alloc_new]
  match j, hj with
  | 0, _ | 1, _ | 2, _ | 3, _ | 4, _ | 5, _ | 6, _ | 7, _ => rfl
theorem CmdAt.alloc {w : World} {b : Nat} {f : Nat → Int} (h : CmdAt w b f) (o : Obj) (hb : b < w.heap.size) : CmdAt (w.alloc o) b f := fun j hj => (World.cell?_alloc_past o b j hb).trans (h j hj)

/-- No cell of block b is frozen. -/
def Free (w : World) (b : Nat) : Prop := ∀ j, w.frozen? ⟨b, j, none⟩ = false

/-- What 'needed' holds behind some parts. -/
def nd (M : List Part) (f : Nat → Int) : Nat → Int := fun j => if M.any (fun p => ix p.need == j) then f j else 0
theorem nd_snoc (M : List Part) (p : Part) (f : Nat → Int) (j : Nat) : nd (M ++ [p]) f j = if ix p.need = j then f j else nd M f j := by
  unfold nd
  simp only [List.any_append, List.any_cons, List.any_nil, Bool.or_false, Bool.or_eq_true, beq_iff_eq]
  by_cases h : ix p.need = j <;> simp [h]

/-- The five cells of a boxed part, in a later world. -/
theorem box5 {w wa : World} {p : Part} {B : Nat} (hb : Below B (w.alloc (.cells #[.int .u16 p.need, .int .i64 p.low, .int .i64 p.high, .int .i64 (p.width : Int), .int .i64 p.lift] 112)) wa) (hB : w.heap.size < B) :
    wa.cell? ⟨w.heap.size, 0, none⟩ = some (.int .u16 p.need) ∧ wa.cell? ⟨w.heap.size, 1, none⟩ = some (.int .i64 p.low) ∧ wa.cell? ⟨w.heap.size, 2, none⟩ = some (.int .i64 p.high) ∧ wa.cell? ⟨w.heap.size, 3, none⟩ = some (.int .i64 (p.width : Int)) ∧ wa.cell? ⟨w.heap.size, 4, none⟩ = some (.int .i64 p.lift) := by
  have c : ∀ j, wa.cell? ⟨w.heap.size, j, none⟩ = #[Value.int .u16 p.need, .int .i64 p.low, .int .i64 p.high, .int .i64 (p.width : Int), .int .i64 p.lift][j]? := fun j => (hb.cell (p := ⟨w.heap.size, j, none⟩) hB).trans (World.cell?_alloc_new w _ _ j)
  exact ⟨c 0, c 1, c 2, c 3, c 4⟩

/-- What 'Right' answers. -/
def okAll (L : List Part) (f : Nat → Int) : Bool := L.all fun p => takesB p (f (ix p.need))
def same8 (f g : Nat → Int) : Bool := f 0 == g 0 && (f 1 == g 1 && (f 2 == g 2 && (f 3 == g 3 && (f 4 == g 4 && (f 5 == g 5 && (f 6 == g 6 && f 7 == g 7))))))
def rightB (f : Nat → Int) : Bool := okAll (partsL (f 0)) f && same8 (nd (partsL (f 0)) f) f

def rightE (f : Nat → Int) : Int := if rightB f then 0 else 1
theorem ix_lt (n : Int) : ix n < 8 := by unfold ix; (repeat' split) <;> omega
theorem nd_nil (f : Nat → Int) : nd [] f = fun _ => 0 := by funext j; simp [nd]
theorem okAll_snoc (M : List Part) (p : Part) (f : Nat → Int) : okAll (M ++ [p]) f = (okAll M f && takesB p (f (ix p.need))) := by simp [okAll]

theorem partsL_len (k : Int) : (partsL k).length ≤ 9 := by
  have := List.length_filter_le (wants (needsOf k)) table
  simpa [partsL, table] using this

theorem TabW.alloc {w : World} (h : TabW w) (o : Obj) : TabW (w.alloc o) := h.below ((Below.refl w.heap.size w).alloc (Nat.le_refl _) o) h.pos
theorem free_new (w : World) (C : Array Value) (t : TypeId) : Free (w.alloc (.cells C t)) w.heap.size := fun j => World.frozen?_alloc_at C t _ j rfl
theorem Free.below {B : Nat} {w w' : World} {b : Nat} (h : Free w b) (hb : Below B w w') (hB : b < B) : Free w' b := fun j => (hb.frozen (p := ⟨b, j, none⟩) hB).trans (h j)

/-- What holds at the head of each round of 'Right'. -/
def RInv (w : World) (f : Nat → Int) (L : List Part) (k : Nat) (wr : World) : Prop :=
  CmdAt wr w.heap.size f ∧ CmdAt wr (w.heap.size + 1) (nd (L.take k) f) ∧ Free wr (w.heap.size + 1) ∧ PartsAt wr (w.heap.size + 2) L ∧ Below w.heap.size w wr

theorem okAll_take (L : List Part) (f : Nat → Int) (m : Nat) (h : okAll (L.take m) f = false) : okAll L f = false := by
  have e : okAll L f = (okAll (L.take m) f && okAll (L.drop m) f) := by unfold okAll; rw [← List.all_append, List.take_append_drop]
  rw [e, h, Bool.false_and]

theorem PartsAt.setCell {w : World} {g : Nat} {L : List Part} (h : PartsAt w g L) {a : Addr} (hne : g ≠ a.block) (v : Value) : PartsAt (w.setCell a v) g L := by
  obtain ⟨h1, h2⟩ := h
  have hc : ∀ o, (w.setCell a v).cell? ⟨g, o, none⟩ = w.cell? ⟨g, o, none⟩ := fun o => World.cell?_of_block (w := w) (Below.heap_setCell w a v g hne)
  refine ⟨by have := ((Below.refl 0 w).setCell (p := a) (Nat.zero_le _) v).size; omega, fun k p hk => ?_⟩
  obtain ⟨a, b, c, d, e⟩ := h2 k p hk
  exact ⟨by rw [hc, a], by rw [hc, b], by rw [hc, c], by rw [hc, d], by rw [hc, e]⟩

/-- One round of 'Right' in which the part takes its number. -/
theorem RInv_step {w wr wc : World} {f : Nat → Int} {L : List Part} {k : Nat} {p : Part} {o : Obj} (hC : CmdAt wr w.heap.size f) (hN : CmdAt wr (w.heap.size + 1) (nd (L.take k) f)) (hF : Free wr (w.heap.size + 1)) (hp : PartsAt wr (w.heap.size + 2) L) (hb : Below w.heap.size w wr)
    (h : Below (wr.heap.size + 1) (wr.alloc o) wc) (hT : L.take (k + 1) = L.take k ++ [p]) (hix : ix p.need < 8) :
    RInv w f L (k + 1) (wc.setCell ⟨w.heap.size + 1, ix p.need, none⟩ (.int .i64 (f (ix p.need)))) := by
  have hsz := hp.1
  have h1 : Below wr.heap.size wr wc := ((Below.refl wr.heap.size wr).alloc (Nat.le_refl _) o).trans (h.mono (by omega))
  have hC1 := hC.below h1 (by omega)
  have hN1 := hN.below h1 (by omega)
  have hF1 := hF.below h1 (by omega)
  have hp1 := hp.below h1
  have hs1 := h1.size
  have keep : ∀ b j, b ≠ w.heap.size + 1 → (wc.setCell ⟨w.heap.size + 1, ix p.need, none⟩ (.int .i64 (f (ix p.need)))).cell? ⟨b, j, none⟩ = wc.cell? ⟨b, j, none⟩ := fun b j hne => World.cell?_of_block (w := wc) (Below.heap_setCell wc _ _ b hne)
  refine ⟨fun j hj => (keep _ j (by omega)).trans (hC1 j hj), ?_, ?_, ?_, (hb.trans (h1.mono (by omega))).setCell (by simp) _⟩
  · intro j hj
    rw [hT, nd_snoc]
    by_cases e : ix p.need = j
    · subst e
      rw [if_pos rfl]
      exact World.cell?_setCell_same' wc _ _ (by rw [hN1 _ hix]; rfl)
    · rw [if_neg e, World.cell?_setCell_other _ _ _ _ (by intro h; cases h; exact e rfl)]
      exact hN1 j hj
  · intro j
    rw [World.frozen?_setCell]
    exact hF1 j
  · exact hp1.setCell (by simp) _

set_option maxRecDepth 100000 in
set_option maxHeartbeats 1000000 in
theorem right_any (f : Nat → Int) (w : World) (hT : TabW w) :
    Calls Tryd.prog 50 #[cmdV f] w fun e w' => e = .returned (.int .i64 (rightE f)) ∧ Below w.heap.size w w' := by
  have hl9 := partsL_len (f 0)
  go_enter Tryd.func50, Tryd.ntmps50
  go_wp2_with fail
  refine (partsOf_any (f 0) _ ((hT.alloc _).alloc _)).mono ?_
  rintro e w1 ⟨rfl, hp, hb⟩
  simp only [World.size_alloc] at hp hb ⊢
  have I0 : RInv w f (partsL (f 0)) 0 w1 := by
    refine ⟨((CmdAt.new w f 23).alloc _ (by simp)).below hb (by omega), ?_, ?_, hp, ?_⟩
    · have := (CmdAt.new (w.alloc (.cells (cmdC f) 23)) (fun _ => 0) 23).below hb (by simp)
      rw [List.take_zero, nd_nil]; simpa using this
    · have := (free_new (w.alloc (.cells (cmdC f) 23)) (cmdC fun _ => 0) 23).below hb (by simp)
      simpa using this
    · exact (((Below.refl w.heap.size w).alloc (Nat.le_refl _) _).alloc (by simp) _).trans (hb.mono (by omega))
  clear hp hb
  generalize hL : partsL (f 0) = L at *
  have HL : Hid (partsL (f 0) = L) := hL
  clear hL hT
  go_wp2
  go_loopw [11] (fun i wr => ∃ k : Nat, k ≤ L.length ∧ i = .int .i64 k ∧ okAll (L.take k) f = true ∧ RInv w f L k wr) (fun i _ => L.length - (intOf i).toNat)
  case atStart => exact ⟨0, by omega, rfl, rfl, I0⟩
  case round =>
    obtain ⟨k, hk, rfl, hok, hC, hN, hF, hp, hb⟩ := hrel
    have hsz := hp.1
    by_cases hlt : k < L.length
    · obtain ⟨p, hpk⟩ : ∃ p, L[k]? = some p := ⟨L[k], by simp [hlt]⟩
      obtain ⟨c0, c1, c2, c3, c4⟩ := hp.2 k p hpk
      have hix := ix_lt p.need
      have HT : Hid (L.take (k + 1) = L.take k ++ [p]) := by show _ = _; rw [List.take_add_one, hpk]; rfl
      clear hpk
      cases ht : takesB p (f (ix p.need)) with
      | false =>
        go_wp2_with fail
        refine (in_any p w.heap.size _).mono ?_
        rintro e wa ⟨rfl, ha⟩
        simp only [World.size_alloc] at ha
        have ea := ((hC.alloc (.cells #[.int .u16 p.need, .int .i64 p.low, .int .i64 p.high, .int .i64 (p.width : Int), .int .i64 p.lift] 112) (by omega)).below ha (by omega)) (ix p.need) hix
        obtain ⟨b0, b1, b2, b3, b4⟩ := box5 ha (by omega)
        go_wp2_with fail
        refine (takes_any p (f (ix p.need)) _).mono ?_
        rintro e wb ⟨rfl, hbb⟩
        go_wp2
        go_ret
        refine ⟨ret_int ?_, ((hb.alloc (by omega) _).trans (ha.mono (by omega))).trans (hbb.mono (by have := ha.size; simp at this; omega))⟩
        have hno : okAll L f = false := okAll_take L f (k + 1) (by rw [HT.out, okAll_snoc, ht, Bool.and_false])
        unfold rightE rightB; rw [HL.out, hno]; simp
      | true =>
        go_wp2_with fail
        refine (in_any p w.heap.size _).mono ?_
        rintro e wa ⟨rfl, ha⟩
        simp only [World.size_alloc] at ha
        have sa := ha.size
        simp only [World.size_alloc] at sa
        have ea := ((hC.alloc (.cells #[.int .u16 p.need, .int .i64 p.low, .int .i64 p.high, .int .i64 (p.width : Int), .int .i64 p.lift] 112) (by omega)).below ha (by omega)) (ix p.need) hix
        obtain ⟨b0, b1, b2, b3, b4⟩ := box5 ha (by omega)
        go_wp2_with fail
        refine (takes_any p (f (ix p.need)) _).mono ?_
        rintro e wb ⟨rfl, hbb⟩
        have sb := hbb.size
        have hab := ha.trans (hbb.mono (by omega))
        clear b0 b1 b2 b3 b4 ea
        obtain ⟨b0, b1, b2, b3, b4⟩ := box5 hab (by omega)
        go_wp2_with fail
        refine (in_any p (w.heap.size + 1) _).mono ?_
        rintro e wc ⟨rfl, hcc⟩
        have sc := hcc.size
        have hac := hab.trans (hcc.mono (by omega))
        have nc : wc.cell? ⟨w.heap.size + 1, ix p.need, none⟩ = some (.int .i64 (nd (L.take k) f (ix p.need))) := ((hN.alloc (.cells #[.int .u16 p.need, .int .i64 p.low, .int .i64 p.high, .int .i64 (p.width : Int), .int .i64 p.lift] 112) (by omega)).below hac (by omega)) (ix p.need) hix
        have fc : wc.frozen? ⟨w.heap.size + 1, ix p.need, none⟩ = false := ((hF.below ((Below.refl wr.heap.size wr).alloc (Nat.le_refl _) _) (by omega)).below hac (by omega)) (ix p.need)
        have J := RInv_step hC hN hF hp hb hac HT.out hix
        clear b0 b1 b2 b3 b4 c0 c1 c2 c3 c4 hC hN hF hp hac hab hcc hbb ha
        go_wp2
        go_roundw
        case rel => exact ⟨k + 1, by omega, by go_num, by rw [HT.out, okAll_snoc, hok, ht]; rfl, J⟩
        case measure => simp [intOf]; omega
    · have he : k = L.length := by omega
      subst he
      simp only [List.take_length] at hN hok
      obtain ⟨c0, c1, c2, c3, c4, c5, c6, c7⟩ := hC.all
      obtain ⟨d0, d1, d2, d3, d4, d5, d6, d7⟩ := hN.all
      clear hC hN hF hp
      go_wp2
      all_goals go_ret
      all_goals refine ⟨ret_int ?_, hb⟩
      all_goals (unfold rightE rightB; rw [HL.out]; simp [same8, *])

end Go.Proofs.YtklpbpgjlmpbeaaDoor
