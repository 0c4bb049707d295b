/- Rows of holds; 'After'. -/
import Derived.Test.YtdblmheoghhepaaGreatDoorKBook
import Derived.Test.YtdblmheoghhepaaGreatDoorKFrame
import Derived.Lib.MinMax
namespace Go.Proofs.YtdblmheoghhepaaGreatDoor
open Go.RowKit

/-- A hold's eight cells. -/
abbrev hc (h : Nat → Int) : List Value := [.int .i64 (h 0), .int .i64 (h 1), .int .i64 (h 2), .int .i64 (h 3), .int .i64 (h 4), .int .i64 (h 5), .int .i64 (h 6), .int .i64 (h 7)]
theorem hc_at (h : Nat → Int) (j : Nat) (hj : j < 8) : (hc h)[j]? = some (.int .i64 (h j)) := by
  match j, hj with
  | 0, _ | 1, _ | 2, _ | 3, _ | 4, _ | 5, _ | 6, _ | 7, _ => rfl
theorem flat8 (L : List (Nat → Int)) (k : Nat) (h : Nat → Int) (hk : L[k]? = some h) (j : Nat) (hj : j < 8) : (L.flatMap hc)[k * 8 + j]? = some (.int .i64 (h j)) := by
  induction L generalizing k with
  | nil => simp at hk
  | cons a t ih =>
    rw [List.flatMap_cons]
    cases k with
    | zero =>
      simp at hk; subst hk
      rw [List.getElem?_append_left (by simpa using hj)]
      simpa using hc_at a j hj
    | succ k =>
      rw [List.getElem?_append_right (by simp; omega)]
      rw [show (k + 1) * 8 + j - (hc a).length = k * 8 + j from by simp; omega]
      exact ih k (by simpa using hk)

/-- Block g holds the holds L, eight cells each. -/
def HoldsAt (w : World) (g : Nat) (L : List (Nat → Int)) : Prop := g < w.heap.size ∧ ∀ k h, L[k]? = some h → ∀ j, j < 8 → w.cell? ⟨g, k * 8 + j, none⟩ = some (.int .i64 (h j))
theorem HoldsAt.belowB {B : Nat} {w w' : World} {g : Nat} {L : List (Nat → Int)} (h : HoldsAt w g L) (hb : Below B w w') (hg : g < B) : HoldsAt w' g L :=
  ⟨Nat.lt_of_lt_of_le h.1 hb.size, fun k x hk j hj => (hb.cell (p := ⟨g, k * 8 + j, none⟩) hg).trans (h.2 k x hk j hj)⟩
theorem HoldsAt.below {w w' : World} {g : Nat} {L : List (Nat → Int)} (h : HoldsAt w g L) (hb : Below w.heap.size w w') : HoldsAt w' g L := h.belowB hb h.1
theorem HoldsAt.all {w : World} {g : Nat} {L : List (Nat → Int)} (hh : HoldsAt w g L) {k : Nat} {h : Nat → Int} (hk : L[k]? = some h) :
    w.cell? ⟨g, k * 8, none⟩ = some (.int .i64 (h 0)) ∧ w.cell? ⟨g, k * 8 + 1, none⟩ = some (.int .i64 (h 1)) ∧ w.cell? ⟨g, k * 8 + 1 + 1, none⟩ = some (.int .i64 (h 2)) ∧ w.cell? ⟨g, k * 8 + 1 + 1 + 1, none⟩ = some (.int .i64 (h 3)) ∧
    w.cell? ⟨g, k * 8 + 1 + 1 + 1 + 1, none⟩ = some (.int .i64 (h 4)) ∧ w.cell? ⟨g, k * 8 + 1 + 1 + 1 + 1 + 1, none⟩ = some (.int .i64 (h 5)) ∧ w.cell? ⟨g, k * 8 + 1 + 1 + 1 + 1 + 1 + 1, none⟩ = some (.int .i64 (h 6)) ∧ w.cell? ⟨g, k * 8 + 1 + 1 + 1 + 1 + 1 + 1 + 1, none⟩ = some (.int .i64 (h 7)) := by
  have c := hh.2 k h hk
  exact ⟨c 0 (by omega), c 1 (by omega), c 2 (by omega), c 3 (by omega), c 4 (by omega), c 5 (by omega), c 6 (by omega), c 7 (by omega)⟩

theorem add_off (g j : Nat) : (⟨g, 0, none⟩ : Addr).add j = ⟨g, j, none⟩ := by
  unfold Addr.add
  by_cases h : j = 0
  · subst h; rfl
  · simp [h]

theorem holdsAt_of_own {w : World} {base g cap : Nat} {L : List (Nat → Int)} (h : w.ownsRow base 57 8 (.slice (some ⟨g, 0, none⟩) L.length cap) L.length (L.flatMap hc)) (hg : g < w.heap.size) : HoldsAt w g L := by
  refine ⟨hg, fun k x hk j hj => ?_⟩
  have := h.cells (g := g) rfl (k * 8 + j) _ (flat8 L k x hk j hj)
  rw [add_off] at this
  simpa using this

theorem info57 : (Tryz.prog.info? 57).map (fun i => (i.zero, i.size, i.bytes)) = some (some (cmdV zeroH), 8, 64) := by kernel_rfl

theorem cells8_new (w : World) (o : Obj) (f : Nat → Int) : ∀ j u, (hc f)[j]? = some u → ((w.alloc o).alloc (.cells (cmdC f) 57)).cell? ((⟨w.heap.size + 1, 0, none⟩ : Addr).add j) = some u := by
  intro j u hu
  have e : ((⟨w.heap.size + 1, 0, none⟩ : Addr).add j) = ⟨(w.alloc o).heap.size, j, none⟩ := by rw [add_off]; simp
  rw [e, World.cell?_alloc_new]
  simpa using hu
theorem cells8_new0 (w : World) (f : Nat → Int) : ∀ j u, (hc f)[j]? = some u → (w.alloc (.cells (cmdC f) 57)).cell? ((⟨w.heap.size, 0, none⟩ : Addr).add j) = some u := by
  intro j u hu
  rw [add_off, World.cell?_alloc_new]
  simpa using hu
theorem cells8_one (f : Nat → Int) : ∀ u ∈ hc f, u.oneCell' = true := by
  intro u hu
  simp at hu
  rcases hu with rfl | rfl | rfl | rfl | rfl | rfl | rfl | rfl <;> rfl

def fromOf (after : Int) (n : Nat) : Nat := (min (max after 0) n).toNat
def manyOf (n : Int) (m : Nat) : Nat := (min (max n 0) m).toNat
def cutL (H : List (Nat → Int)) (after n : Int) : List (Nat → Int) := (H.drop (fromOf after H.length)).take (manyOf n (H.length - fromOf after H.length))

theorem at_any' (w : World) {bk mo mc : Nat} {H : List (Nat → Int)} (hB : BookAt w bk mo mc H) (k : Nat) (kk : Int) (e : kk = (k : Int) + 1) (h : Nat → Int) (hk : H[k]? = some h) :
    Calls Tryz.prog 105 #[.pointer (some ⟨bk, 0, none⟩), .int .i64 kk] w fun e w' => e = .returned (cmdV h) ∧ Below w.heap.size w w' := by
  subst e
  exact at_any w hB k h hk

theorem own_lt {w : World} {base g n cap : Nat} {e : TypeId} {size : Nat} {xs : List Value} (h : w.ownsRow base e size (.slice (some ⟨g, 0, none⟩) n cap) n xs) : g < w.heap.size := by
  rcases h.2 with ⟨h, _⟩ | ⟨g', cap', cur, hv, hg, hh, _⟩
  · cases h
  · cases hv
    exact (Array.getElem?_eq_some_iff.1 hh).1

set_option maxRecDepth 100000 in
set_option maxHeartbeats 1000000 in
theorem after_any (w : World) {bk mo mc : Nat} {H : List (Nat → Int)} (hB : BookAt w bk mo mc H) (af n : Int) (ha : I64 af) (hn : I64 n) :
    Calls Tryz.prog 85 #[.pointer (some ⟨bk, 0, none⟩), .int .i64 af, .int .i64 n] w fun e w' => ∃ g, e = .returned (.slice (some ⟨g, 0, none⟩) (cutL H af n).length (cutL H af n).length) ∧ w.heap.size ≤ g ∧ g < w'.heap.size ∧
      w'.ownsRow w.heap.size 57 8 (.slice (some ⟨g, 0, none⟩) (cutL H af n).length (cutL H af n).length) (cutL H af n).length ((cutL H af n).flatMap hc) ∧ Below w.heap.size w w' := by
  obtain ⟨i0, hi, hz0, hz1, hz2⟩ := info_parts info57
  have hlen := hB.len
  have k1 := hB.bk_lt
  have k2 := hB.mo_lt
  have k3 := hB.mc_lt
  go_enter Tryz.func85, Tryz.ntmps85
  go_wp2_with fail
  refine (made_any _ hB).mono ?_
  rintro e w1 ⟨rfl, hb1⟩
  have hB1 := hB.below hb1
  go_wp2_with fail
  refine (made_any _ hB1).mono ?_
  rintro e w2 ⟨rfl, hb2⟩
  have hB2 := hB1.below hb2
  have hbb : Below w.heap.size w w2 := hb1.trans (hb2.mono hb1.size)
  have f1 : min (max af 0) (H.length : Int) = ((fromOf af H.length : Nat) : Int) := by unfold fromOf; omega
  have f2 : fromOf af H.length ≤ H.length := by unfold fromOf; omega
  have f3 : min (max n 0) ((H.length : Int) - ((fromOf af H.length : Nat) : Int)) = ((manyOf n (H.length - fromOf af H.length) : Nat) : Int) := by unfold manyOf; omega
  have f4 : manyOf n (H.length - fromOf af H.length) ≤ H.length - fromOf af H.length := by unfold manyOf; omega
  have f5 : Hid (cutL H af n = (H.drop (fromOf af H.length)).take (manyOf n (H.length - fromOf af H.length))) := rfl
  rw [f1]
  generalize fromOf af H.length = F at *
  generalize manyOf n (H.length - F) = m at *
  clear hB hb1 hB1 hb2
  have hws := hbb.size
  go_wp2_with (at_make; refine wpList_make_own _ rfl _ _ 50 rfl w.heap.size 57 i0 _ 8 Tryz.underlying50 hi hz0 hz1 _ _ _ m rfl rfl rfl (by rw [hz2]; omega) (by unfold maxLen; omega) hws ?_; intro w3 hown3 hgrow3)
  have hs3 := hgrow3.size
  have hbb3 : Below w.heap.size w w3 := hbb.grown hgrow3 hws (by simp)
  have hg3 : w2.heap.size < w3.heap.size := own_lt hown3
  have hB3 : BookAt w3 bk mo mc H := hB2.same (hgrow3.block _ hB2.bk_lt (by simp)) (hgrow3.block _ hB2.mo_lt (by simp)) (hgrow3.block _ hB2.mc_lt (by simp))
  have hCl : ((H.drop F).take m).length = m := by rw [List.length_take, List.length_drop]; omega
  have FC : Hid (((H.drop F).take m).length = m) := hCl
  clear hCl f1 f3
  generalize hg : w2.heap.size = g at *
  clear hg hB2 hbb hgrow3
  go_loopw [8, 25] (fun v i wr => ∃ k : Nat, k ≤ m ∧ i = .int .i64 k ∧ v = .slice (some ⟨g, 0, none⟩) k m ∧ wr.ownsRow w.heap.size 57 8 (.slice (some ⟨g, 0, none⟩) k m) k (((H.drop F).take k).flatMap hc) ∧ BookAt wr bk mo mc H ∧ Below w.heap.size w wr ∧ g < wr.heap.size) (fun _ i _ => m - (intOf i).toNat)
  case atStart => exact ⟨0, by omega, rfl, rfl, by simpa using hown3, hB3, hbb3, hg3⟩
  case round =>
    obtain ⟨k, hk, rfl, rfl, hown, hBr, hbr, hgr⟩ := hrel
    by_cases hlt : k < m
    · obtain ⟨h, hh⟩ : ∃ h, H[F + k]? = some h := ⟨H[F + k]'(by omega), by simp⟩
      have HT : Hid ((H.drop F).take (k + 1) = (H.drop F).take k ++ [h]) := by
        show _ = _
        rw [List.take_add_one, List.getElem?_drop, hh]; rfl
      have hsr := hbr.size
      go_wp2_with fail
      refine (at_any' _ hBr (F + k) _ (by omega) h hh).mono ?_
      rintro e w4 ⟨rfl, hb4⟩
      have hs4 := hb4.size
      have own4 := (own_below hown hb4).alloc (.cells (cmdC h) 57)
      go_wp2_with (at_builtin; refine wpList_append_fits _ rfl (.tmp 28) (.tmp 35) 50 rfl w.heap.size 57 i0 8 Tryz.underlying50 hi hz1 g _ m _ rfl own4 ⟨w4.heap.size, 0, none⟩ 1 1 (hc h) rfl rfl (cells8_new0 _ _) (cells8_one h) (by omega) ?_)
      intro w5 hown5 hgrow5
      have R : Below w.heap.size w w5 := ((hbr.trans (hb4.mono hsr)).alloc (by omega) _).grown hgrow5 (by simp; omega) (by intro j hj; cases hj; omega)
      have B5 : BookAt w5 bk mo mc H := by
        have B4 := (hBr.below hb4).alloc (.cells (cmdC h) 57)
        exact B4.same (hgrow5.block _ B4.bk_lt (by simp; omega)) (hgrow5.block _ B4.mo_lt (by simp; omega)) (hgrow5.block _ B4.mc_lt (by simp; omega))
      have O5 : w5.ownsRow w.heap.size 57 8 (.slice (some ⟨g, 0, none⟩) (k + 1) m) (k + 1) (((H.drop F).take (k + 1)).flatMap hc) := by
        rw [HT.out]
        simpa using hown5
      have g5 := own_lt O5
      clear hown hown5 own4 hgrow5 hBr
      go_wp2
      go_roundw
      case rel => exact ⟨k + 1, by omega, by go_num, rfl, O5, B5, R, g5⟩
      case measure => simp [intOf]; omega
    · have he : k = m := by omega
      subst he
      go_wp2
      go_ret
      exact ⟨g, by rw [f5.out, FC.out]; rfl, by omega, hgr, by rw [f5.out, FC.out]; exact hown, hbr⟩

end Go.Proofs.YtdblmheoghhepaaGreatDoor

/- 'counts', 'Counting'. -/
namespace Go.Proofs.YtdblmheoghhepaaGreatDoor
open Go.RowKit

def countsB (h : Nat → Int) : Bool := h 7 == 1 || h 7 == 2
set_option maxRecDepth 100000 in
set_option maxHeartbeats 400000 in
theorem counts_any (h : Nat → Int) (w : World) : Calls Tryz.prog 87 #[cmdV h] w fun e w' => e = .returned (.bool (countsB h)) ∧ Below w.heap.size w w' := by
  go_enter Tryz.func87, Tryz.ntmps87
  go_wp2
  all_goals go_ret
  all_goals refine ⟨ret_bool ?_, (Below.refl _ _).alloc (Nat.le_refl _) _⟩
  all_goals (unfold countsB; simp [*])

/-- The holds of a good that count. -/
def counting (H : List (Nat → Int)) (g : Int) : List (Nat → Int) := H.filter fun h => h 1 == g && countsB h
theorem counting_len (H : List (Nat → Int)) (g : Int) : (counting H g).length ≤ H.length := List.length_filter_le _ _
theorem cutL_all (H : List (Nat → Int)) : cutL H 0 H.length = H := by
  have e1 : fromOf 0 H.length = 0 := by unfold fromOf; omega
  unfold cutL
  rw [e1]
  have e2 : manyOf (H.length : Int) (H.length - 0) = H.length := by unfold manyOf; omega
  rw [e2]
  simp
theorem counting_take (H : List (Nat → Int)) (g : Int) (k : Nat) (h : Nat → Int) (hk : H[k]? = some h) :
    counting (H.take (k + 1)) g = counting (H.take k) g ++ (if (h 1 == g && countsB h) = true then [h] else []) := by
  unfold counting
  rw [List.take_add_one, hk, List.filter_append]
  simp [List.filter_cons]

theorem own_mono {w : World} {B B' : Nat} {e : TypeId} {size : Nat} {v : Value} {n : Nat} {xs : List Value} (h : w.ownsRow B e size v n xs) (hB : B' ≤ B) : w.ownsRow B' e size v n xs := by
  refine ⟨h.1, ?_⟩
  rcases h.2 with h2 | ⟨g, cap, cur, hv, hg, r⟩
  · exact Or.inl h2
  · exact Or.inr ⟨g, cap, cur, hv, Nat.le_trans hB hg, r⟩

set_option maxRecDepth 100000 in
set_option maxHeartbeats 1000000 in
theorem counting_any (w : World) {bk mo mc : Nat} {H : List (Nat → Int)} (hB : BookAt w bk mo mc H) (gd : Int) :
    Calls Tryz.prog 56 #[.pointer (some ⟨bk, 0, none⟩), .int .i64 gd] w fun e w' => ∃ v, e = .returned v ∧ w'.ownsRow w.heap.size 57 8 v (counting H gd).length ((counting H gd).flatMap hc) ∧ Below w.heap.size w w' := by
  obtain ⟨i0, hi, hz0, hz1, hz2⟩ := info_parts info57
  have hlen := hB.len
  go_enter Tryz.func56, Tryz.ntmps56
  go_wp2_with fail
  refine (made_any _ hB).mono ?_
  rintro e w1 ⟨rfl, hb1⟩
  have hB1 := hB.below hb1
  have hs1 := hb1.size
  go_wp2_with fail
  refine (after_any _ hB1 0 H.length (by constructor <;> omega) (by constructor <;> omega)).mono ?_
  rintro e w2 ⟨g, rfl, hg0, hg2, hown2, hb2⟩
  rw [cutL_all] at hown2
  have hH2 := holdsAt_of_own hown2 hg2
  have hbb : Below w.heap.size w w2 := hb1.trans (hb2.mono hs1)
  simp only [cutL_all]
  clear hB hB1 hb1 hb2 hown2
  have hwB0 : w.heap.size ≤ w2.heap.size := hbb.size
  obtain ⟨B, hBd⟩ : ∃ B, B = w2.heap.size := ⟨_, rfl⟩
  have hBz : B ≤ w2.heap.size := by omega
  have hgB : g < B := by omega
  have hwB : w.heap.size ≤ B := by omega
  clear hBd hg2 hwB0
  go_wp2
  go_loopw [5, 13] (fun v i wr => ∃ k : Nat, k ≤ H.length ∧ i = .int .i64 k ∧ wr.ownsRow B 57 8 v (counting (H.take k) gd).length ((counting (H.take k) gd).flatMap hc) ∧ B ≤ wr.heap.size ∧ HoldsAt wr g H ∧ Below w.heap.size w wr) (fun _ i _ => H.length - (intOf i).toNat)
  case atStart => exact ⟨0, by omega, rfl, by simpa [counting] using World.ownsRow_nil w2 B 57 8, hBz, hH2, hbb⟩
  case round =>
    obtain ⟨k, hk, rfl, hown, hBr, hHr, hbr⟩ := hrel
    by_cases hlt : k < H.length
    · obtain ⟨h, hh⟩ : ∃ h, H[k]? = some h := ⟨H[k], by simp [hlt]⟩
      obtain ⟨c0, c1, c2, c3, c4, c5, c6, c7⟩ := hHr.all hh
      have hsr := hbr.size
      have HT : Hid (counting (H.take (k + 1)) gd = counting (H.take k) gd ++ (if (h 1 == gd && countsB h) = true then [h] else [])) := counting_take H gd k h hh
      have hcl : (counting (H.take k) gd).length ≤ 60 := Nat.le_trans (counting_len _ _) (Nat.le_trans (by simp; omega) hlen)
      by_cases e1 : (h 1 == gd) = true
      · have bA : Below wr.heap.size wr (wr.alloc (.cells (cmdC h) 57)) := (Below.refl _ _).alloc (Nat.le_refl _) _
        go_wp2_with fail
        refine (counts_any h _).mono ?_
        rintro e w4 ⟨rfl, hb4⟩
        have hs4 := hb4.size
        simp only [World.size_alloc] at hs4
        have hA : Below wr.heap.size wr w4 := ((Below.refl _ _).alloc (Nat.le_refl _) _).trans (hb4.mono (by simp))
        obtain ⟨d0, d1, d2, d3, d4, d5, d6, d7⟩ := ((CmdAt.new wr h 57).below hb4 (by simp)).all
        have own4 := own_below hown hA
        have hH4 := hHr.below hA
        have hb44 := hbr.trans (hA.mono hsr)
        clear c0 c1 c2 c3 c4 c5 c6 c7 hb4 hHr hown
        by_cases e2 : countsB h = true
        · have T1 : Hid (counting (H.take (k + 1)) gd = counting (H.take k) gd ++ [h]) := by
            show _ = _
            rw [HT.out, e1, e2]; rfl
          have hge := own_ge own4
          go_wp2_with (at_builtin; refine wpList_append_own _ rfl (.tmp 25) (.tmp 27) 50 rfl B 57 i0 (cmdV zeroH) 8 64 Tryz.underlying50 hi hz0 hz1 hz2 rfl (by decide) _ _ _ rfl (own4.alloc (.cells (cmdC h) 57)) ⟨w4.heap.size, 0, none⟩ 1 1 (hc h) rfl rfl (cells8_new0 _ _) (cells8_one h) (by unfold maxLen; omega) (by omega) (by simp; omega) ?_)
          intro v' w5 hown5 hgrow5 _
          have R5 : Below B w4 w5 := ((Below.refl B w4).alloc (by omega) _).grown hgrow5 (by simp; omega) hge
          have O5 : w5.ownsRow B 57 8 v' (counting (H.take (k + 1)) gd).length ((counting (H.take (k + 1)) gd).flatMap hc) := by
            rw [T1.out]
            simpa using hown5
          have H5 := hH4.belowB R5 hgB
          have b5 := hb44.trans (R5.mono hwB)
          have z5 := R5.size
          clear hown5 hgrow5 own4 hH4 hge
          go_wp2
          go_roundw
          case rel => exact ⟨k + 1, by omega, by go_num, O5, by omega, H5, b5⟩
          case measure => simp [intOf]; omega
        · have e2' : countsB h = false := by simpa using e2
          have T1 : Hid (counting (H.take (k + 1)) gd = counting (H.take k) gd) := by
            show _ = _
            rw [HT.out, e2']; simp
          clear e2
          go_wp2
          go_roundw
          case rel => exact ⟨k + 1, by omega, by go_num, by rw [T1.out]; exact own4, by omega, hH4, hb44⟩
          case measure => simp [intOf]; omega
      · have e1' : (h 1 == gd) = false := by simpa using e1
        have T1 : Hid (counting (H.take (k + 1)) gd = counting (H.take k) gd) := by
          show _ = _
          rw [HT.out, e1']; simp
        have bA : Below wr.heap.size wr (wr.alloc (.cells (cmdC h) 57)) := (Below.refl _ _).alloc (Nat.le_refl _) _
        have own4 := own_below hown bA
        have hH4 := hHr.below bA
        have hb44 := hbr.trans (bA.mono hsr)
        clear e1 hown hHr
        go_wp2
        go_roundw
        case rel => exact ⟨k + 1, by omega, by go_num, by rw [T1.out]; exact own4, by simp; omega, hH4, hb44⟩
        case measure => simp [intOf]; omega
    · have he : k = H.length := by omega
      subst he
      rw [List.take_length] at hown
      go_wp2
      go_ret
      exact ⟨_, rfl, own_mono hown hwB, hbr⟩

end Go.Proofs.YtdblmheoghhepaaGreatDoor

/- Sums and least values of rows of numbers. -/
namespace Go.Proofs.YtdblmheoghhepaaGreatDoor
open Go.RowKit

/-- From a place on, n numbers. -/
def NumsAt (w : World) (b o n : Nat) (V : Nat → Int) : Prop := ∀ k, k < n → w.cell? ⟨b, o + k, none⟩ = some (.int .i64 (V k))
theorem NumsAt.same {w w' : World} {b o n : Nat} {V : Nat → Int} (h : NumsAt w b o n V) (e : w'.heap[b]? = w.heap[b]?) : NumsAt w' b o n V := fun k hk => (World.cell?_of_block (a := ⟨b, o + k, none⟩) e).trans (h k hk)
def sumTo (V : Nat → Int) : Nat → Int
  | 0 => 0
  | k + 1 => sumTo V k + V k
def leastTo (V : Nat → Int) : Nat → Int
  | 0 => V 0
  | k + 1 => min (leastTo V k) (V k)
theorem sumTo_bd (V : Nat → Int) (B : Int) (n : Nat) (h : ∀ k, k < n → -B ≤ V k ∧ V k ≤ B) : -(B * n) ≤ sumTo V n ∧ sumTo V n ≤ B * n := by
  induction n with
  | zero => simp [sumTo]
  | succ n ih =>
    have := ih fun k hk => h k (by omega)
    have := h n (by omega)
    simp only [sumTo]
    have e : B * ((n + 1 : Nat) : Int) = B * n + B := by rw [Int.natCast_add, Int.mul_add]; simp
    omega

set_option maxRecDepth 100000 in
set_option maxHeartbeats 400000 in
theorem self_any (n : Int) (w : World) : Calls Tryz.prog 108 #[.int .i64 n] w fun e w' => e = .returned (.int .i64 n) ∧ w = w' := by
  go_enter Tryz.func108, Tryz.ntmps108
  go_wp2
  go_ret
  exact ⟨rfl, rfl⟩

set_option maxRecDepth 100000 in
set_option maxHeartbeats 400000 in
theorem sumInts_any (b o n c : Nat) (V : Nat → Int) (w : World) (hn : n ≤ 16) (hV : ∀ k, k < n → -1000000000 ≤ V k ∧ V k ≤ 1000000000) (h : NumsAt w b o n V) :
    Calls Tryz.prog 107 #[.slice (some ⟨b, o, none⟩) n c, .func (.func 108) #[] #[]] w fun e w' => e = .returned (.int .i64 (sumTo V n)) ∧ Below w.heap.size w w' := by
  go_enter Tryz.func107, Tryz.ntmps107
  go_wp2
  go_loopw [5, 10] (fun s i wr => ∃ k : Nat, k ≤ n ∧ i = .int .i64 k ∧ s = .int .i64 (sumTo V k) ∧ w = wr) (fun _ i _ => n - (intOf i).toNat)
  case atStart => exact ⟨0, Nat.zero_le _, rfl, rfl, rfl⟩
  case round =>
    obtain ⟨k, hk, rfl, rfl, rfl⟩ := hrel
    by_cases hlt : k < n
    · have hc := h k hlt
      have b1 := sumTo_bd V 1000000000 k (fun j hj => hV j (by omega))
      have b2 := hV k hlt
      clear h hV
      go_wp2_with (go_at_call 108; refine (self_any _ _).mono ?_; rintro e w' ⟨rfl, rfl⟩)
      go_roundw
      case rel => exact ⟨k + 1, by omega, by go_num, by simp only [sumTo], trivial⟩
      case measure => simp [intOf]; omega
    · have he : k = n := by omega
      subst he
      go_wp2
      go_ret
      exact ⟨rfl, Below.refl _ _⟩

set_option maxRecDepth 100000 in
set_option maxHeartbeats 400000 in
theorem sum16_any (b o n c : Nat) (V : Nat → Int) (w : World) (hn : n ≤ 16) (hV : ∀ k, k < n → -1000000000 ≤ V k ∧ V k ≤ 1000000000) (h : NumsAt w b o n V) :
    Calls Tryz.prog 103 #[.slice (some ⟨b, o, none⟩) n c] w fun e w' => e = .returned (.int .i64 (sumTo V n)) ∧ Below w.heap.size w w' := by
  go_enter Tryz.func103, Tryz.ntmps103
  go_wp2_with fail
  refine (sumInts_any b o n c V _ hn hV h).mono ?_
  rintro e w1 ⟨rfl, hb⟩
  go_wp2
  go_ret
  exact ⟨rfl, hb⟩

set_option maxRecDepth 100000 in
set_option maxHeartbeats 400000 in
theorem least_any (b o n c : Nat) (V : Nat → Int) (w : World) (hn : n ≤ 16) (h0 : 0 < n) (h : NumsAt w b o n V) :
    Calls Tryz.prog 84 #[.slice (some ⟨b, o, none⟩) n c] w fun e w' => e = .returned (.int .i64 (leastTo V n)) ∧ Below w.heap.size w w' := by
  have c0 : w.cell? ⟨b, o, none⟩ = some (.int .i64 (V 0)) := by simpa using h 0 h0
  have hn0 : ¬ n = 0 := by omega
  go_enter Tryz.func84, Tryz.ntmps84
  go_wp2
  go_loopw [3, 14] (fun s i wr => ∃ k : Nat, k ≤ n ∧ i = .int .i64 k ∧ s = .int .i64 (leastTo V k) ∧ w = wr) (fun _ i _ => n - (intOf i).toNat)
  case atStart => exact ⟨0, Nat.zero_le _, rfl, rfl, rfl⟩
  case round =>
    obtain ⟨k, hk, rfl, rfl, rfl⟩ := hrel
    by_cases hlt : k < n
    · have hc := h k hlt
      clear h
      go_wp2
      go_roundw
      case rel => exact ⟨k + 1, by omega, by go_num, rfl, trivial⟩
      case measure => simp [intOf]; omega
    · have he : k = n := by omega
      subst he
      go_wp2
      go_ret
      exact ⟨rfl, Below.refl _ _⟩

/-- The quantities of the holds up to a day; of a channel. -/
def dayQ (day : Int) (h : Nat → Int) : Int := if h 3 > day then 0 else h 4
def chQ (ch : Int) (h : Nat → Int) : Int := if h 2 ≠ ch then 0 else h 4
def sumL (q : (Nat → Int) → Int) (L : List (Nat → Int)) : Int := (L.map q).sum

set_option maxRecDepth 100000 in
set_option maxHeartbeats 400000 in
theorem day1_any (day : Int) (b : Nat) (h : Nat → Int) (w : World) (hc : w.cell? ⟨b, 0, none⟩ = some (.int .i64 day)) (hb : b < w.heap.size) :
    Calls Tryz.prog 104 #[cmdV h, .pointer (some ⟨b, 0, none⟩)] w fun e w' => e = .returned (.int .i64 (dayQ day h)) ∧ Below w.heap.size w w' := by
  go_enter Tryz.func104, Tryz.ntmps104
  go_wp2
  all_goals go_ret
  all_goals refine ⟨ret_int ?_, (Below.refl _ _).alloc (Nat.le_refl _) _⟩
  · unfold dayQ; rw [if_pos (by omega)]
  · unfold dayQ; rw [if_neg (by omega)]

set_option maxRecDepth 100000 in
set_option maxHeartbeats 400000 in
theorem ch1_any (ch : Int) (b : Nat) (h : Nat → Int) (w : World) (hc : w.cell? ⟨b, 0, none⟩ = some (.int .i64 ch)) (hb : b < w.heap.size) :
    Calls Tryz.prog 90 #[cmdV h, .pointer (some ⟨b, 0, none⟩)] w fun e w' => e = .returned (.int .i64 (chQ ch h)) ∧ Below w.heap.size w w' := by
  go_enter Tryz.func90, Tryz.ntmps90
  go_wp2
  all_goals go_ret
  all_goals refine ⟨ret_int ?_, (Below.refl _ _).alloc (Nat.le_refl _) _⟩
  all_goals (unfold chQ; simp_all)

/-- A row of holds: nil, or at a block. -/
def RowIs (w : World) (v : Value) (L : List (Nat → Int)) : Prop := (v = .slice none 0 0 ∧ L = []) ∨ ∃ g cap, v = .slice (some ⟨g, 0, none⟩) L.length cap ∧ HoldsAt w g L
theorem RowIs.below {w w' : World} {v : Value} {L : List (Nat → Int)} (h : RowIs w v L) (hb : Below w.heap.size w w') : RowIs w' v L := by
  rcases h with h | ⟨g, cap, e, h⟩
  · exact Or.inl h
  · exact Or.inr ⟨g, cap, e, h.below hb⟩
theorem rowIs_of_own {w : World} {base : Nat} {v : Value} {L : List (Nat → Int)} (h : w.ownsRow base 57 8 v L.length (L.flatMap hc)) : RowIs w v L := by
  have h' := h
  rcases h.2 with ⟨rfl, e⟩ | ⟨g, cap, cur, rfl, hg, hh, _⟩
  · exact Or.inl ⟨rfl, by simpa using e⟩
  · exact Or.inr ⟨g, cap, rfl, holdsAt_of_own h' (Array.getElem?_eq_some_iff.1 hh).1⟩

theorem dayQ_bd (x : Int) (h : Nat → Int) (hq : 0 ≤ h 4 ∧ h 4 ≤ 1000000) : 0 ≤ dayQ x h ∧ dayQ x h ≤ 1000000 := by unfold dayQ; split <;> omega
theorem chQ_bd (x : Int) (h : Nat → Int) (hq : 0 ≤ h 4 ∧ h 4 ≤ 1000000) : 0 ≤ chQ x h ∧ chQ x h ≤ 1000000 := by unfold chQ; split <;> omega
theorem sumL_bd (q : (Nat → Int) → Int) (hb : ∀ h, 0 ≤ h 4 ∧ h 4 ≤ 1000000 → 0 ≤ q h ∧ q h ≤ 1000000) : ∀ L : List (Nat → Int), (∀ h ∈ L, 0 ≤ h 4 ∧ h 4 ≤ 1000000) → 0 ≤ sumL q L ∧ sumL q L ≤ 1000000 * L.length
  | [], _ => by simp [sumL]
  | a :: t, h => by
    have h1 := hb a (h a (by simp))
    have h2 := sumL_bd q hb t (fun x hx => h x (by simp [hx]))
    simp only [sumL, List.map_cons, List.sum_cons, List.length_cons] at *
    omega

set_option maxRecDepth 100000 in
set_option maxHeartbeats 1000000 in
theorem sumDay_any (x : Int) (bx : Nat) (v : Value) (L : List (Nat → Int)) (w : World) (hl : L.length ≤ 60) (hq : ∀ h ∈ L, 0 ≤ h 4 ∧ h 4 ≤ 1000000) (hr : RowIs w v L) (hc : w.cell? ⟨bx, 0, none⟩ = some (.int .i64 x)) (hbx : bx < w.heap.size) :
    Calls Tryz.prog 89 #[v, .func (.func 104) #[] #[.pointer (some ⟨bx, 0, none⟩)]] w fun e w' => e = .returned (.int .i64 (sumL (dayQ x) L)) ∧ Below w.heap.size w w' := by
  rcases hr with ⟨rfl, rfl⟩ | ⟨g, cap, rfl, hH⟩
  · go_enter Tryz.func89, Tryz.ntmps89
    go_wp2
    go_loopw [5, 10] (fun s i wr => i = .int .i64 0 ∧ s = .int .i64 0 ∧ w = wr) (fun _ _ _ => 0)
    case atStart => exact ⟨rfl, rfl, rfl⟩
    case round =>
      obtain ⟨rfl, rfl, rfl⟩ := hrel
      go_wp2
      go_ret
      exact ⟨rfl, Below.refl _ _⟩
  · go_enter Tryz.func89, Tryz.ntmps89
    go_wp2
    go_loopw [5, 10] (fun s i wr => ∃ k : Nat, k ≤ L.length ∧ i = .int .i64 k ∧ s = .int .i64 (sumL (dayQ x) (L.take k)) ∧ Below w.heap.size w wr) (fun _ i _ => L.length - (intOf i).toNat)
    case atStart => exact ⟨0, Nat.zero_le _, rfl, rfl, Below.refl _ _⟩
    case round =>
      obtain ⟨k, hk, rfl, rfl, hb⟩ := hrel
      by_cases hlt : k < L.length
      · obtain ⟨h, hh⟩ : ∃ h, L[k]? = some h := ⟨L[k], by simp [hlt]⟩
        obtain ⟨c0, c1, c2, c3, c4, c5, c6, c7⟩ := (hH.belowB hb hH.1).all hh
        have hsb := hb.size
        have hcr : wr.cell? ⟨bx, 0, none⟩ = some (.int .i64 x) := (hb.cell (p := ⟨bx, 0, none⟩) hbx).trans hc
        have hq4 := hq h (List.mem_of_getElem? hh)
        have b1 := sumL_bd (dayQ x) (dayQ_bd x) (L.take k) (fun h hm => hq h (List.mem_of_mem_take hm))
        have b2 : (L.take k).length ≤ 60 := by simp; omega
        have b3 := dayQ_bd x h hq4
        have ST : Hid (sumL (dayQ x) (L.take (k + 1)) = sumL (dayQ x) (L.take k) + dayQ x h) := by
          show _ = _
          rw [List.take_add_one, hh]; simp [sumL]
        have z1 : bx < wr.heap.size := by omega
        clear hq hh hH
        go_wp2_with (go_at_call 104; refine (day1_any x bx h _ ?_ ?_).mono ?_)
        · rw [World.cell?_alloc_past _ _ _ z1]; exact hcr
        · simp; omega
        rintro e w' ⟨rfl, hb'⟩
        go_wp2
        go_roundw
        case rel => exact ⟨k + 1, by omega, by go_num, by rw [ST.out], (hb.alloc hsb _).trans (hb'.mono (by simp; omega))⟩
        case measure => simp [intOf]; omega
      · have he : k = L.length := by omega
        subst he
        rw [List.take_length]
        go_wp2
        go_ret
        exact ⟨rfl, hb⟩

set_option maxRecDepth 100000 in
set_option maxHeartbeats 1000000 in
theorem sumCh_any (x : Int) (bx : Nat) (v : Value) (L : List (Nat → Int)) (w : World) (hl : L.length ≤ 60) (hq : ∀ h ∈ L, 0 ≤ h 4 ∧ h 4 ≤ 1000000) (hr : RowIs w v L) (hc : w.cell? ⟨bx, 0, none⟩ = some (.int .i64 x)) (hbx : bx < w.heap.size) :
    Calls Tryz.prog 89 #[v, .func (.func 90) #[] #[.pointer (some ⟨bx, 0, none⟩)]] w fun e w' => e = .returned (.int .i64 (sumL (chQ x) L)) ∧ Below w.heap.size w w' := by
  rcases hr with ⟨rfl, rfl⟩ | ⟨g, cap, rfl, hH⟩
  · go_enter Tryz.func89, Tryz.ntmps89
    go_wp2
    go_loopw [5, 10] (fun s i wr => i = .int .i64 0 ∧ s = .int .i64 0 ∧ w = wr) (fun _ _ _ => 0)
    case atStart => exact ⟨rfl, rfl, rfl⟩
    case round =>
      obtain ⟨rfl, rfl, rfl⟩ := hrel
      go_wp2
      go_ret
      exact ⟨rfl, Below.refl _ _⟩
  · go_enter Tryz.func89, Tryz.ntmps89
    go_wp2
    go_loopw [5, 10] (fun s i wr => ∃ k : Nat, k ≤ L.length ∧ i = .int .i64 k ∧ s = .int .i64 (sumL (chQ x) (L.take k)) ∧ Below w.heap.size w wr) (fun _ i _ => L.length - (intOf i).toNat)
    case atStart => exact ⟨0, Nat.zero_le _, rfl, rfl, Below.refl _ _⟩
    case round =>
      obtain ⟨k, hk, rfl, rfl, hb⟩ := hrel
      by_cases hlt : k < L.length
      · obtain ⟨h, hh⟩ : ∃ h, L[k]? = some h := ⟨L[k], by simp [hlt]⟩
        obtain ⟨c0, c1, c2, c3, c4, c5, c6, c7⟩ := (hH.belowB hb hH.1).all hh
        have hsb := hb.size
        have hcr : wr.cell? ⟨bx, 0, none⟩ = some (.int .i64 x) := (hb.cell (p := ⟨bx, 0, none⟩) hbx).trans hc
        have hq4 := hq h (List.mem_of_getElem? hh)
        have b1 := sumL_bd (chQ x) (chQ_bd x) (L.take k) (fun h hm => hq h (List.mem_of_mem_take hm))
        have b2 : (L.take k).length ≤ 60 := by simp; omega
        have b3 := chQ_bd x h hq4
        have ST : Hid (sumL (chQ x) (L.take (k + 1)) = sumL (chQ x) (L.take k) + chQ x h) := by
          show _ = _
          rw [List.take_add_one, hh]; simp [sumL]
        have z1 : bx < wr.heap.size := by omega
        clear hq hh hH
        go_wp2_with (go_at_call 90; refine (ch1_any x bx h _ ?_ ?_).mono ?_)
        · rw [World.cell?_alloc_past _ _ _ z1]; exact hcr
        · simp; omega
        rintro e w' ⟨rfl, hb'⟩
        go_wp2
        go_roundw
        case rel => exact ⟨k + 1, by omega, by go_num, by rw [ST.out], (hb.alloc hsb _).trans (hb'.mono (by simp; omega))⟩
        case measure => simp [intOf]; omega
      · have he : k = L.length := by omega
        subst he
        rw [List.take_length]
        go_wp2
        go_ret
        exact ⟨rfl, hb⟩

end Go.Proofs.YtdblmheoghhepaaGreatDoor
