/- The document's 'Do': a command that is wrong, or sent again. -/
import Derived.Test.YtdblmheoghhepaaGreatDoorKRefDecide
namespace Go.Proofs.YtdblmheoghhepaaGreatDoor
open Go.RowKit

theorem ten_at (d : Nat → Int) (j : Nat) (hj : j < 10) : (tenL d)[j]? = some (.int .i64 (d j)) := by
  match j, hj with
  | 0, _ | 1, _ | 2, _ | 3, _ | 4, _ | 5, _ | 6, _ | 7, _ | 8, _ | 9, _ => rfl
theorem flat10 (L : List (Nat → Int)) (k : Nat) (h : Nat → Int) (hk : L[k]? = some h) (j : Nat) (hj : j < 10) : (L.flatMap tenL)[k * 10 + j]? = some (.int .i64 (h j)) := by
  induction L generalizing k with
  | nil => simp at hk
  | cons a t ih =>
    rw [List.flatMap_cons]
    cases k with
    | zero =>
      simp at hk
      subst hk
      rw [List.getElem?_append_left (by simp; omega), Nat.zero_mul, Nat.zero_add]
      exact ten_at a j hj
    | succ k =>
      have hl : (tenL a).length = 10 := rfl
      rw [List.getElem?_append_right (by rw [hl]; omega), hl, show (k + 1) * 10 + j - 10 = k * 10 + j by omega]
      exact ih k (by simpa using hk)
theorem flat10_len (L : List (Nat → Int)) : (L.flatMap tenL).length = L.length * 10 := by
  induction L with
  | nil => rfl
  | cons a t ih =>
    rw [List.flatMap_cons, List.length_append, ih]
    show 10 + t.length * 10 = (t.length + 1) * 10
    omega

theorem RAt.dones {w : World} {r : RAdr} {now : Int} {P : Nat → Int} {H D : List (Nat → Int)} {J : List Int} (h : RAt w r now P H D J) {k : Nat} {d : Nat → Int} (hk : D[k]? = some d) : ∃ g cap, r.dv = .slice (some ⟨g, 0, none⟩) D.length cap ∧
    w.cell? ⟨g, k * 10, none⟩ = some (.int .i64 (d 0)) ∧ w.cell? ⟨g, k * 10 + 1, none⟩ = some (.int .i64 (d 1)) ∧ w.cell? ⟨g, k * 10 + 1 + 1, none⟩ = some (.int .i64 (d 2)) ∧ w.cell? ⟨g, k * 10 + 1 + 1 + 1, none⟩ = some (.int .i64 (d 3)) ∧
    w.cell? ⟨g, k * 10 + 1 + 1 + 1 + 1, none⟩ = some (.int .i64 (d 4)) ∧ w.cell? ⟨g, k * 10 + 1 + 1 + 1 + 1 + 1, none⟩ = some (.int .i64 (d 5)) ∧ w.cell? ⟨g, k * 10 + 1 + 1 + 1 + 1 + 1 + 1, none⟩ = some (.int .i64 (d 6)) ∧ w.cell? ⟨g, k * 10 + 1 + 1 + 1 + 1 + 1 + 1 + 1, none⟩ = some (.int .i64 (d 7)) ∧
    w.cell? ⟨g, k * 10 + 8, none⟩ = some (.int .i64 (d 8)) ∧ w.cell? ⟨g, k * 10 + 8 + 1, none⟩ = some (.int .i64 (d 9)) ∧ g < w.heap.size := by
  have hl : k < D.length := (List.getElem?_eq_some_iff.1 hk).1
  rcases h.drow.2 with ⟨_, e2⟩ | ⟨g, cap, cur, e, _, hh, _⟩
  · omega
  · have hr := h.drow
    rw [e] at hr
    have c : ∀ j, j < 10 → w.cell? ⟨g, k * 10 + j, none⟩ = some (.int .i64 (d j)) := fun j hj => by
      rw [hr.cellAt (k * 10 + j) (by omega)]
      exact flat10 D k d hk j hj
    exact ⟨g, cap, e, c 0 (by omega), c 1 (by omega), c 2 (by omega), c 3 (by omega), c 4 (by omega), c 5 (by omega), c 6 (by omega), c 7 (by omega), c 8 (by omega), c 9 (by omega), (Array.getElem?_eq_some_iff.1 hh).1⟩

/-- What holds behind the document's 'Do'. -/
def RDone (w : World) (r : RAdr) (X : Dec) (e : Ending) (w' : World) : Prop :=
  ∃ (r' : RAdr) (D' : List (Nat → Int)), e = .returned (ansV X.E X.N) ∧ RLed w' r' X.S D' ∧ DOk X.S.A D' ∧ Turned r.foot w w' ∧ (∀ k, r'.foot k → r.foot k ∨ w.heap.size ≤ k) ∧ r'.q = r.q

set_option maxRecDepth 100000 in
set_option maxHeartbeats 4000000 in
theorem rdo_wrong (r : RAdr) (S : Led) (D : List (Nat → Int)) (f : Nat → Int) (w : World) (h : RLed w r S D) (hD : DOk S.A D) (hr : refOk f = false) :
    Calls Tryz.prog 30 #[.pointer (some ⟨r.q, 0, none⟩), cmdV f] w (RDone w r ⟨S, 1, 0⟩) := by
  have hfoot : ∀ k, r.foot k → k < w.heap.size := fun k hk => h.foot_lt hk
  have n0 : ¬ r.foot (w.heap.size + 1) := fun e => by have := hfoot _ e; omega
  have eE : refE f = 1 := by unfold refE; rw [hr]; rfl
  go_enter Tryz.func30, Tryz.ntmps30
  go_wp2_with fail
  refine (refRight_any f _).mono ?_
  rw [eE]
  rintro e w2 ⟨rfl, hb2⟩
  obtain ⟨x, y, fr, sz, B2⟩ := two_boxes hb2
  have y0 : w2.cell? ⟨w.heap.size + 1, 0, none⟩ = some (.int .i64 0) := y 0
  have y1 : w2.cell? ⟨w.heap.size + 1, 1, none⟩ = some (.int .i64 0) := y 1
  have fr0 := fr 0
  have fr1 := fr 1
  obtain ⟨K4, T4⟩ := rans_set (r := r) (h.below B2) (Turned.ofBelow B2) (w.heap.size + 1) (Nat.le_succ _) n0 (.int .i64 1) (.int .i64 0)
  clear x y fr hb2 B2 h
  go_wp2
  exact bodyPost_ret (v := ansV 1 0) (by simp [results, Tryz.results30, go_sem, y0, y1]) rfl ⟨r, D, rfl, K4, hD, T4, fun k hk => Or.inl hk, rfl⟩

set_option maxRecDepth 100000 in
set_option maxHeartbeats 16000000 in
theorem rdo_hit (r : RAdr) (S : Led) (D : List (Nat → Int)) (f : Nat → Int) (w : World) (h : RLed w r S D) (hD : DOk S.A D) (hr : refOk f = true) (i : Nat) (d : Nat → Int) (hd : D[i]? = some d) (h1 : d 1 = f 1) (hbefore : ∀ (j : Nat) (x : Nat → Int), j < i → D[j]? = some x → x 1 ≠ f 1) (X : Dec) (HX : Hid (X = if same8 d f = true then ⟨S, d 8, d 9⟩ else ⟨S, 1, 0⟩)) :
    Calls Tryz.prog 30 #[.pointer (some ⟨r.q, 0, none⟩), cmdV f] w (RDone w r X) := by
  have hfoot : ∀ k, r.foot k → k < w.heap.size := fun k hk => h.foot_lt hk
  have n0 : ¬ r.foot (w.heap.size + 1) := fun e => by have := hfoot _ e; omega
  have eE : refE f = 0 := by unfold refE; rw [hr]; rfl
  obtain ⟨z, hv, dv⟩ := r
  obtain ⟨da, dcap, hdv⟩ := own_slice h.drow
  simp only at hdv ⊢
  subst hdv
  have hzl : z < w.heap.size := h.q_lt
  have l8 := hD.len
  go_enter Tryz.func30, Tryz.ntmps30
  go_wp2_with fail
  refine (refRight_any f _).mono ?_
  rw [eE]
  rintro e w2 ⟨rfl, hb2⟩
  clear eE
  go_wp2
  have hil : i < D.length := (List.getElem?_eq_some_iff.1 hd).1
  go_loopw [6] (fun v wr => ∃ k : Nat, k ≤ i ∧ v = .int .i64 (k : Int) ∧ Below ((w.alloc (.cells (cmdC f) 33)).alloc (.cells #[.int .i64 0, .int .i64 0] 66)).heap.size ((w.alloc (.cells (cmdC f) 33)).alloc (.cells #[.int .i64 0, .int .i64 0] 66)) wr) (fun v _ => D.length - (intOf v).toNat)
  case atStart => exact ⟨0, Nat.zero_le _, rfl, hb2⟩
  case round =>
    clear hb2
    obtain ⟨k, hk, rfl, hb⟩ := hrel
    obtain ⟨d', hk'⟩ : ∃ d', D[k]? = some d' := ⟨D[k]'(by omega), List.getElem?_eq_getElem _⟩
    have hK : RLed wr ⟨z, hv, .slice da D.length dcap⟩ S D := h.below (two_boxes hb).2.2.2.2
    obtain ⟨gd, cd, ed, c0, c1, c2, c3, c4, c5, c6, c7, c8, c9, _⟩ := hK.dones hk'
    simp only [Value.slice.injEq] at ed
    obtain ⟨rfl, -, -⟩ := ed
    have hkI : (k : Int) < (D.length : Int) := by omega
    have hcd : wr.cell? ⟨z, 82, none⟩ = some (.slice (some ⟨gd, 0, none⟩) D.length dcap) := hK.cd
    obtain ⟨x, y, fr, sz, B2⟩ := two_boxes hb
    have x0 : wr.cell? ⟨w.heap.size, 0, none⟩ = some (.int .i64 (f 0)) := x 0
    have x1 : wr.cell? ⟨w.heap.size, 1, none⟩ = some (.int .i64 (f 1)) := x 1
    have x2 : wr.cell? ⟨w.heap.size, 2, none⟩ = some (.int .i64 (f 2)) := x 2
    have x3 : wr.cell? ⟨w.heap.size, 3, none⟩ = some (.int .i64 (f 3)) := x 3
    have x4 : wr.cell? ⟨w.heap.size, 4, none⟩ = some (.int .i64 (f 4)) := x 4
    have x5 : wr.cell? ⟨w.heap.size, 5, none⟩ = some (.int .i64 (f 5)) := x 5
    have x6 : wr.cell? ⟨w.heap.size, 6, none⟩ = some (.int .i64 (f 6)) := x 6
    have x7 : wr.cell? ⟨w.heap.size, 7, none⟩ = some (.int .i64 (f 7)) := x 7
    have y0 : wr.cell? ⟨w.heap.size + 1, 0, none⟩ = some (.int .i64 0) := y 0
    have y1 : wr.cell? ⟨w.heap.size + 1, 1, none⟩ = some (.int .i64 0) := y 1
    have fr0 := fr 0
    have fr1 := fr 1
    by_cases hki : k < i
    · have hne := hbefore k d' hki hk'
      clear hK h x y fr hbefore
      have hid1 : (d' 1 == f 1) = false := by simpa using hne
      by_cases e0 : d' 0 = f 0
      · rw [e0] at c0
        clear e0
        go_wp2
        go_region
        go_wp2
        go_region
        go_wp2
        go_roundw
        case rel => exact ⟨k + 1, by omega, by go_num, hb.drew.drew⟩
        case measure => simp [intOf]; omega
      · have e0' : (d' 0 == f 0) = false := by simpa using e0
        clear e0
        go_wp2
        go_region
        go_wp2
        go_region
        go_wp2
        go_roundw
        case rel => exact ⟨k + 1, by omega, by go_num, hb.drew.drew⟩
        case measure => simp [intOf]; omega
    · have eki : k = i := by omega
      subst eki
      have edd : d' = d := Option.some.inj (hk'.symm.trans hd)
      subst edd
      rw [h1] at c1
      have H1 := hid h1
      have HK := hid hK
      have HB := hid B2
      clear hK h x y fr hbefore h1 hk' B2 hb
      have HF := hid (fun (E N : Int) (W : World) (hW : Below wr.heap.size wr W) => rans_set (r := ⟨z, hv, .slice (some ⟨gd, 0, none⟩) D.length dcap⟩) (HK.out.below hW) (Turned.ofBelow (HB.out.trans (hW.mono HB.out.size))) (w.heap.size + 1) (Nat.le_succ _) n0 (.int .i64 E) (.int .i64 N))
      by_cases hs : same8 d' f = true
      · have EX := hid (HX.out.trans (if_pos hs))
        have e := same8_to hs
        rw [e 0 (by omega)] at c0
        rw [e 2 (by omega)] at c2
        rw [e 3 (by omega)] at c3
        rw [e 4 (by omega)] at c4
        rw [e 5 (by omega)] at c5
        rw [e 6 (by omega)] at c6
        rw [e 7 (by omega)] at c7
        clear e hs hd HX
        obtain ⟨K4, T4⟩ := HF.out (d' 8) (d' 9) wr.drew (Below.refl _ _).drew
        clear HK HB HF
        go_wp2
        go_region
        go_wp2
        exact bodyPost_ret (v := ansV (d' 8) (d' 9)) (by simp [results, Tryz.results30, go_sem, y0, y1]) rfl (by rw [EX.out]; exact ⟨_, D, rfl, K4, hD, T4, fun k hk => Or.inl hk, rfl⟩)
      · have EX := hid (HX.out.trans (if_neg hs))
        have HS : Hid (¬ (d' 0 = f 0 ∧ d' 2 = f 2 ∧ d' 3 = f 3 ∧ d' 4 = f 4 ∧ d' 5 = f 5 ∧ d' 6 = f 6 ∧ d' 7 = f 7)) := fun ⟨s0, s2, s3, s4, s5, s6, s7⟩ => by
          simp [same8, s0, s2, s3, s4, s5, s6, s7] at hs
          exact hs H1.out
        obtain ⟨K4, T4⟩ := HF.out 1 0 wr.drew.drew (Below.refl _ _).drew.drew
        clear HK HB HF hs hd HX
        by_cases s0 : d' 0 = f 0
        · have e0 : Hid (d' 0 = f 0) := s0
          rw [s0] at c0
          clear s0
          by_cases s2 : d' 2 = f 2
          · have e2 : Hid (d' 2 = f 2) := s2
            rw [s2] at c2
            clear s2
            by_cases s3 : d' 3 = f 3
            · have e3 : Hid (d' 3 = f 3) := s3
              rw [s3] at c3
              clear s3
              by_cases s4 : d' 4 = f 4
              · have e4 : Hid (d' 4 = f 4) := s4
                rw [s4] at c4
                clear s4
                by_cases s5 : d' 5 = f 5
                · have e5 : Hid (d' 5 = f 5) := s5
                  rw [s5] at c5
                  clear s5
                  by_cases s6 : d' 6 = f 6
                  · have e6 : Hid (d' 6 = f 6) := s6
                    rw [s6] at c6
                    clear s6
                    by_cases s7 : d' 7 = f 7
                    · have e7 : Hid (d' 7 = f 7) := s7
                      rw [s7] at c7
                      clear s7
                      exact absurd ⟨e0.out, e2.out, e3.out, e4.out, e5.out, e6.out, e7.out⟩ HS.out
                    · have q7 : (d' 7 == f 7) = false := by simpa using s7
                      clear s7
                      go_wp2
                      go_region
                      go_wp2
                      go_region
                      go_wp2
                      exact bodyPost_ret (v := ansV 1 0) (by simp [results, Tryz.results30, go_sem, y0, y1]) rfl (by rw [EX.out]; exact ⟨_, D, rfl, K4, hD, T4, fun k hk => Or.inl hk, rfl⟩)
                  · have q6 : (d' 6 == f 6) = false := by simpa using s6
                    clear s6
                    go_wp2
                    go_region
                    go_wp2
                    go_region
                    go_wp2
                    exact bodyPost_ret (v := ansV 1 0) (by simp [results, Tryz.results30, go_sem, y0, y1]) rfl (by rw [EX.out]; exact ⟨_, D, rfl, K4, hD, T4, fun k hk => Or.inl hk, rfl⟩)
                · have q5 : (d' 5 == f 5) = false := by simpa using s5
                  clear s5
                  go_wp2
                  go_region
                  go_wp2
                  go_region
                  go_wp2
                  exact bodyPost_ret (v := ansV 1 0) (by simp [results, Tryz.results30, go_sem, y0, y1]) rfl (by rw [EX.out]; exact ⟨_, D, rfl, K4, hD, T4, fun k hk => Or.inl hk, rfl⟩)
              · have q4 : (d' 4 == f 4) = false := by simpa using s4
                clear s4
                go_wp2
                go_region
                go_wp2
                go_region
                go_wp2
                exact bodyPost_ret (v := ansV 1 0) (by simp [results, Tryz.results30, go_sem, y0, y1]) rfl (by rw [EX.out]; exact ⟨_, D, rfl, K4, hD, T4, fun k hk => Or.inl hk, rfl⟩)
            · have q3 : (d' 3 == f 3) = false := by simpa using s3
              clear s3
              go_wp2
              go_region
              go_wp2
              go_region
              go_wp2
              exact bodyPost_ret (v := ansV 1 0) (by simp [results, Tryz.results30, go_sem, y0, y1]) rfl (by rw [EX.out]; exact ⟨_, D, rfl, K4, hD, T4, fun k hk => Or.inl hk, rfl⟩)
          · have q2 : (d' 2 == f 2) = false := by simpa using s2
            clear s2
            go_wp2
            go_region
            go_wp2
            go_region
            go_wp2
            exact bodyPost_ret (v := ansV 1 0) (by simp [results, Tryz.results30, go_sem, y0, y1]) rfl (by rw [EX.out]; exact ⟨_, D, rfl, K4, hD, T4, fun k hk => Or.inl hk, rfl⟩)
        · have q0 : (d' 0 == f 0) = false := by simpa using s0
          clear s0
          go_wp2
          go_region
          go_wp2
          go_region
          go_wp2
          exact bodyPost_ret (v := ansV 1 0) (by simp [results, Tryz.results30, go_sem, y0, y1]) rfl (by rw [EX.out]; exact ⟨_, D, rfl, K4, hD, T4, fun k hk => Or.inl hk, rfl⟩)

end Go.Proofs.YtdblmheoghhepaaGreatDoor
