/- What the caller reckons is what the ledger tells: sums and least values. -/
import Derived.Test.YtdblmheoghhepaaDoorKPairAll
import Derived.Test.YtdblmheoghhepaaDoorKKeepAll
import Derived.Test.YtdblmheoghhepaaDoorKPlain
namespace Go.Proofs.YtdblmheoghhepaaDoor
open Go.RowKit

/-- The ledger and the caller's book, told alike. -/
structure Duo (w : World) (p : Adr) (a b : Nat) (hv : Value) (S : Led) : Prop where
  led : LedAt w p S
  ok : LOk S
  pa : p.a = a
  book : KAt w b (.pointer (some ⟨a, 0, none⟩)) S.now (pofG S.G) hv S.H
  day : ∀ h ∈ S.H, h 3 ≤ 15
theorem Duo.below {w w' : World} {p : Adr} {a b : Nat} {hv : Value} {S : Led} (h : Duo w p a b hv S) (hb : Below w.heap.size w w') : Duo w' p a b hv S := ⟨h.led.below hb, h.ok, h.pa, h.book.below hb, h.day⟩

variable {p : Adr} {a b : Nat} {hv : Value} {S : Led}
theorem duo_left (w : World) (h : Duo w p a b hv S) (g d : Nat) (hg : g < 4) (hd : d < 16) :
    Calls Tryd.prog 21 #[.pointer (some ⟨b, 0, none⟩), .int .i64 (g : Int), .int .i64 (d : Int)] w fun e w' => e = .returned (.int .i64 (leftS S g d)) ∧ Below w.heap.size w w' := by
  rw [← kLeft_eq S g d hg hd]
  exact kleft_any b _ S.now (pofG S.G) hv S.H g d w h.book h.led.book.len (fun x hx => (h.ok.H x hx).1) hg hd (pofG_bd S.G h.ok.G)
theorem duo_left15 (w : World) (h : Duo w p a b hv S) (g : Nat) (hg : g < 4) :
    Calls Tryd.prog 21 #[.pointer (some ⟨b, 0, none⟩), .int .i64 (g : Int), .int .i64 15] w fun e w' => e = .returned (.int .i64 (leftS S g 15)) ∧ Below w.heap.size w w' := duo_left w h g 15 hg (by omega)
theorem duo_atp (w : World) (h : Duo w p a b hv S) (g d : Nat) (hg : g < 4) (hd : d < 16) :
    Calls Tryd.prog 22 #[.pointer (some ⟨a, 0, none⟩), .int .i64 (g : Int), .int .i64 (d : Int)] w fun e w' => e = .returned (.tuple #[.int .i64 (atpS S g d), .int .i64 0]) ∧ Below w.heap.size w w' := by
  rw [← h.pa]
  exact ledATP_any p S g d w h.led h.ok hg hd
theorem duo_free (w : World) (h : Duo w p a b hv S) (g c : Nat) (hg : g < 4) (hc : c < 3) :
    Calls Tryd.prog 23 #[.pointer (some ⟨a, 0, none⟩), .int .i64 (g : Int), .int .i64 (c : Int)] w fun e w' => e = .returned (.tuple #[.int .i64 (freeS S g c), .int .i64 0]) ∧ Below w.heap.size w w' := by
  rw [← h.pa]
  exact ledFree_any p S g c w h.led h.ok hg hc
theorem duo_counts (w : World) (h : Duo w p a b hv S) (g c : Nat) :
    Calls Tryd.prog 20 #[.pointer (some ⟨b, 0, none⟩), .int .i64 (g : Int), .int .i64 15, .int .i64 (c : Int)] w fun e w' => e = .returned (.int .i64 (sumL (keepQ g 15 c) S.H)) ∧ Below w.heap.size w w' :=
  kcounts_any b _ S.now (pofG S.G) hv S.H g 15 c w h.book h.led.book.len (fun x hx => (h.ok.H x hx).1)
theorem duo_now (w : World) (h : Duo w p a b hv S) : Calls Tryd.prog 26 #[.pointer (some ⟨a, 0, none⟩)] w fun e w' => e = .returned (.int .i64 S.now) ∧ w = w' := by
  rw [← h.pa]
  exact now_any p S w h.led
theorem duo_holds (w : World) (h : Duo w p a b hv S) : Calls Tryd.prog 25 #[.pointer (some ⟨a, 0, none⟩), .int .i64 0, .int .i64 100] w fun e w' => ∃ g, e = .returned (.slice (some ⟨g, 0, none⟩) S.H.length S.H.length) ∧ w.heap.size ≤ g ∧ HoldsAt w' g S.H ∧ Below w.heap.size w w' := by
  rw [← h.pa]
  refine (holds_any p S 0 100 w h.led (by constructor <;> omega) (by constructor <;> omega)).mono ?_
  rw [cutL_100 S.H h.led.book.len]
  rintro e w' ⟨g, rfl, h1, h2, h3, h4⟩
  exact ⟨g, rfl, h1, holdsAt_of_own h3 h2, h4⟩
theorem duo_ages (w : World) (h : Duo w p a b hv S) : Calls Tryd.prog 27 #[.pointer (some ⟨a, 0, none⟩)] w fun e w' => e = .returned (.agg #[.int .i64 (ages S.H S.now 0 : Nat), .int .i64 (ages S.H S.now 1 : Nat), .int .i64 (ages S.H S.now 2 : Nat)]) ∧ Below w.heap.size w w' := by
  rw [← h.pa]
  exact ledAges_any p S w h.led h.ok

end Go.Proofs.YtdblmheoghhepaaDoor

/- 'right' of the caller's book: the ledger tells just what the caller reckons. -/
namespace Go.Proofs.YtdblmheoghhepaaDoor
open Go.RowKit

theorem KAt.slice {w : World} {b : Nat} {l : Value} {now : Int} {P : Nat → Int} {hv : Value} {H : List (Nat → Int)} (h : KAt w b l now P hv H) : ∃ x c, hv = .slice x H.length c := by
  rcases h.rows.2 with ⟨e, e2⟩ | ⟨g, cap, cur, e, _⟩
  · exact ⟨none, 0, by rw [e, e2]⟩
  · exact ⟨_, _, e⟩

set_option maxRecDepth 100000 in
set_option maxHeartbeats 8000000 in
theorem kright_any (p : Adr) (a b : Nat) (hv : Value) (S : Led) (w : World) (D : Duo w p a b hv S) :
    Calls Tryd.prog 19 #[.pointer (some ⟨b, 0, none⟩)] w fun e w' => e = .returned (.bool true) ∧ Below w.heap.size w w' := by
  go_enter Tryd.func19, Tryd.ntmps19
  go_wp2
  go_loopw [3] (fun g wr => ∃ k : Nat, k ≤ 4 ∧ g = .int .i64 k ∧ Below w.heap.size w wr) (fun g _ => 4 - (intOf g).toNat)
  case atStart => exact ⟨0, Nat.zero_le _, rfl, Below.refl _ _⟩
  case round =>
    obtain ⟨k, hk, rfl, hb⟩ := hrel
    have D1 := D.below hb
    have hsz := hb.size
    by_cases hlt : k < 4
    · have kI : (k : Int) < 4 := by omega
      go_wp2_with fail
      refine (duo_left15 _ D1 k hlt).mono ?_
      rintro e w1 ⟨rfl, hb1⟩
      have B1 : Below w.heap.size w w1 := hb.trans (hb1.mono hsz)
      clear hb hb1 D1 hsz
      go_wp2
      go_loopw [4, 5] (fun m d wr => ((∃ i : Nat, i < 16 ∧ d = .int .i64 (i : Int) ∧ m = .int .i64 (leastD S k (i + 1))) ∨ d = .int .i64 (-1)) ∧ Below w.heap.size w wr) (fun _ d _ => (intOf d + 1).toNat)
      case atStart => exact ⟨Or.inl ⟨15, by omega, rfl, rfl⟩, B1⟩
      case round =>
        obtain ⟨hrel, hb⟩ := hrel
        have D2 := D.below hb
        have hsz := hb.size
        rcases hrel with ⟨i, hi, rfl, rfl⟩ | rfl
        · have hst := leastD_step S k i hi
          have iI : (i : Int) < 16 := by omega
          go_wp2_with fail
          refine (duo_left _ D2 k i hlt hi).mono ?_
          rintro e w2 ⟨rfl, hb2⟩
          have B2 : Below w.heap.size w w2 := hb.trans (hb2.mono hsz)
          have D3 := D.below B2
          have hsz2 := B2.size
          have c0 := D3.book.c0
          generalize hX : leftS S k i = X at *
          generalize hY : leastD S k (i + 1) = Y at *
          have hfin : ∀ m : Int, m = atpS S k i → ∀ w3, Below w.heap.size w w3 → ((∃ i' : Nat, i' < 16 ∧ Value.int .i64 ((i : Int) - 1) = .int .i64 (i' : Int) ∧ Value.int .i64 m = .int .i64 (leastD S k (i' + 1))) ∨ Value.int .i64 ((i : Int) - 1) = .int .i64 (-1)) ∧ Below w.heap.size w w3 := fun m hm w3 hb3 => by
            refine ⟨?_, hb3⟩
            by_cases e0 : i = 0
            · subst e0; exact Or.inr rfl
            · refine Or.inl ⟨i - 1, by omega, int_eq (by omega), int_eq ?_⟩
              rw [hm, show i - 1 + 1 = i by omega]
              unfold leastD
              rw [if_pos hi]
          have Hfin : Hid (∀ m : Int, m = atpS S k i → ∀ w3, Below w.heap.size w w3 → ((∃ i' : Nat, i' < 16 ∧ Value.int .i64 ((i : Int) - 1) = .int .i64 (i' : Int) ∧ Value.int .i64 m = .int .i64 (leastD S k (i' + 1))) ∨ Value.int .i64 ((i : Int) - 1) = .int .i64 (-1)) ∧ Below w.heap.size w w3) := hfin
          clear hb hb2 D2 hsz hfin hX hY
          by_cases hxy : X < Y
          · have e : Hid (atpS S k i = X) := by show _ = _; omega
            clear hst
            go_wp2_with fail
            refine (duo_atp _ D3 k i hlt hi).mono ?_
            rintro e' w3 ⟨rfl, hb3⟩
            rw [e.out]
            have B3 : Below w.heap.size w w3 := B2.trans (hb3.mono hsz2)
            clear B2 hb3 D3 hsz2 c0
            go_wp2
            go_roundw
            case rel => exact Hfin.out X e.out.symm _ B3
            case measure => simp [intOf]
          · have e : Hid (atpS S k i = Y) := by show _ = _; omega
            clear hst
            go_wp2_with fail
            refine (duo_atp _ D3 k i hlt hi).mono ?_
            rintro e' w3 ⟨rfl, hb3⟩
            rw [e.out]
            have B3 : Below w.heap.size w w3 := B2.trans (hb3.mono hsz2)
            clear B2 hb3 D3 hsz2 c0
            go_wp2
            go_roundw
            case rel => exact Hfin.out Y e.out.symm _ B3
            case measure => simp [intOf]
        · clear D2 hsz B1
          go_wp2
          go_loopw [9] (fun c wr => ∃ j : Nat, j ≤ 3 ∧ c = .int .i64 (j : Int) ∧ Below w.heap.size w wr) (fun c _ => 3 - (intOf c).toNat)
          case atStart => exact ⟨0, Nat.zero_le _, rfl, hb⟩
          case round =>
            clear hb
            obtain ⟨j, hj, rfl, hb⟩ := hrel
            have D2 := D.below hb
            have hsz := hb.size
            by_cases hj3 : j < 3
            · have jI : (j : Int) < 3 := by omega
              have c0 := D2.book.c0
              go_wp2_with fail
              refine (duo_free _ D2 k j hlt hj3).mono ?_
              rw [freeS_eq S k j hlt hj3 D.day]
              rintro e w2 ⟨rfl, hb2⟩
              have B2 : Below w.heap.size w w2 := hb.trans (hb2.mono hsz)
              have D3 := D.below B2
              have D4 := D3.below (w' := w2.drew) (Below.refl _ _).drew
              have hsz2 := B2.size
              have bl := D3.book.b_lt
              have cs : w2.cell? ⟨b, 70 + k * 3 + j, none⟩ = some (.int .i64 (pofG S.G (68 + k * 3 + j))) := by
                have := D3.book.nums (68 + k * 3 + j) (by omega)
                rwa [show 2 + (68 + k * 3 + j) = 70 + k * 3 + j by omega] at this
              have bP := pofG_bd S.G D.ok.G (68 + k * 3 + j) (by omega)
              have bS := sumL_bd (keepQ k 15 j) (keepQ_bd k 15 j) S.H (fun x hx => (D.ok.H x hx).1)
              have bl60 := D.led.book.len
              generalize hX : pofG S.G (68 + k * 3 + j) = X at *
              generalize hY : sumL (keepQ k 15 j) S.H = Y at *
              have hW : IntKind.i64.wrap (X - Y) = X - Y := w64i _ (by omega)
              have HY : Hid (sumL (keepQ k 15 j) S.H = Y) := hY
              clear hb hb2 D2 hsz c0 hX hY bP bS D3
              go_wp2
              go_region_held3 (fun w' => w'.cell? ⟨b, 70 + k * 3 + j, none⟩ = some (.int .i64 X)) (first | (go_keep; done) | (simp; done)) (first | (go_at_call 20; refine (duo_counts _ D4 k j).mono ?_; rw [HY.out]; rintro e w3 ⟨rfl, hb3⟩; have cs3 : w3.cell? ⟨b, 70 + k * 3 + j, none⟩ = some (.int .i64 X) := (hb3.cell (p := ⟨b, 70 + k * 3 + j, none⟩) bl).trans cs))
              have B3 : Below w.heap.size w w3 := B2.trans (((Below.refl _ _).drew.trans hb3).mono hsz2)
              clear hb3 cs cs3 D4 B2 hsz2
              go_wp2
              go_roundw
              case rel => exact ⟨j + 1, by omega, by go_num, B3⟩
              case measure => simp [intOf]; omega
            · have he : j = 3 := by omega
              subst he
              clear D2 hsz
              go_wp2
              go_roundw
              case rel => exact ⟨k + 1, by omega, by go_num, hb⟩
              case measure => simp [intOf]; omega
    · have he : k = 4 := by omega
      subst he
      have c0 := D1.book.c0
      obtain ⟨hvx, hvc, ehv⟩ := D.book.slice
      go_wp2_with fail
      refine (duo_holds _ D1).mono ?_
      rintro e w1 ⟨g, rfl, hg, hH, hb1⟩
      have B1 : Below w.heap.size w w1 := hb.trans (hb1.mono hsz)
      have D2 := D.below B1
      have c2 := D2.book.c0
      clear hb hb1 D1 hsz c0
      go_wp2_with fail
      refine (duo_now _ D2).mono ?_
      rintro e w2 ⟨rfl, rfl⟩
      have c3 := D2.book.c1
      have c4 := D2.book.ch
      rw [ehv] at c4
      clear c2
      go_wp2
      go_loopw [14] (fun i wr => ∃ j : Nat, j ≤ S.H.length ∧ i = .int .i64 (j : Int) ∧ Below w1.heap.size w1 wr) (fun i _ => S.H.length - (intOf i).toNat)
      case atStart => exact ⟨0, Nat.zero_le _, rfl, Below.refl _ _⟩
      case round =>
        obtain ⟨j, hj, rfl, hb⟩ := hrel
        have hsz := B1.size
        by_cases hj3 : j < S.H.length
        · obtain ⟨x, hx⟩ : ∃ x, S.H[j]? = some x := ⟨S.H[j], by simp [hj3]⟩
          have hH2 := hH.belowB hb hH.1
          have D3 := D2.below hb
          have d4 := D3.book.ch
          obtain ⟨g2, cap2, eg2, hH3, _, _⟩ := D3.book.row (by omega)
          rw [ehv] at eg2 d4
          cases eg2
          obtain ⟨q0, q1, q2, q3, q4, q5, q6, q7⟩ := hH2.all hx
          obtain ⟨r0, r1, r2, r3, r4, r5, r6, r7⟩ := hH3.all hx
          have jI : (j : Int) < (S.H.length : Int) := by omega
          have l60 := D.led.book.len
          clear hH2 D3 hH3 hH D2 D
          go_wp2
          go_region
          go_wp2
          go_roundw
          case rel => exact ⟨j + 1, by omega, by go_num, hb.drew⟩
          case measure => simp [intOf]; omega
        · have he : j = S.H.length := by omega
          subst he
          go_wp2
          go_ret
          exact ⟨rfl, B1.trans (hb.mono hsz)⟩

end Go.Proofs.YtdblmheoghhepaaDoor
