/- The law's 'held': what it is made of. -/
import Derived.Test.YtdblmheoghhepaaGreatDoorKLawA
import Derived.ArgAppend
namespace Go.Proofs.YtdblmheoghhepaaGreatDoor
open Go.RowKit

theorem flat_rep (m : Int) (n : Nat) : ((List.replicate n (markH m)).flatMap hc).length = n * 8 := by
  induction n with
  | zero => rfl
  | succ n ih => rw [List.replicate_succ, List.flatMap_cons, List.length_append, ih]; simp; omega

theorem holds_cells {w : World} {g : Nat} {L : List (Nat → Int)} (h : HoldsAt w g L) : ∀ j u, (L.flatMap hc)[j]? = some u → w.cell? ((⟨g, 0, none⟩ : Addr).add j) = some u := by
  obtain ⟨_, h2⟩ := h
  have aux : ∀ (L : List (Nat → Int)) (o : Nat), (∀ k x, L[k]? = some x → ∀ j, j < 8 → w.cell? ⟨g, o + k * 8 + j, none⟩ = some (.int .i64 (x j))) → ∀ j u, (L.flatMap hc)[j]? = some u → w.cell? ⟨g, o + j, none⟩ = some u := by
    intro L
    induction L with
    | nil => intro o _ j u hu; simp at hu
    | cons a t ih =>
      intro o hL j u hu
      rw [List.flatMap_cons] at hu
      rcases Nat.lt_or_ge j 8 with hj | hj
      · rw [List.getElem?_append_left (by simpa using hj)] at hu
        have := hL 0 a rfl j hj
        rw [show o + 0 * 8 + j = o + j by omega] at this
        rw [this]
        have hcs : j = 0 ∨ j = 1 ∨ j = 2 ∨ j = 3 ∨ j = 4 ∨ j = 5 ∨ j = 6 ∨ j = 7 := by omega
        rcases hcs with rfl | rfl | rfl | rfl | rfl | rfl | rfl | rfl <;> simpa using hu
      · rw [List.getElem?_append_right (by simpa using hj)] at hu
        have := ih (o + 8) (fun k x hk j hj => by
          have := hL (k + 1) x (by simpa using hk) j hj
          rw [show o + 8 + k * 8 + j = o + (k + 1) * 8 + j by omega]
          exact this) (j - 8) u (by simpa using hu)
        rw [show o + 8 + (j - 8) = o + j by omega] at this
        exact this
  intro j u hu
  rw [add_off]
  have := aux L 0 (fun k x hk j hj => by rw [Nat.zero_add]; exact h2 k x hk j hj) j u hu
  simpa using this

/-- A list with marks behind it is a new list. -/
theorem append_marks (W : World) {g a n k : Nat} {m : Int} (hg : HoldsAt W g (List.replicate n (markH m))) (ha : HoldsAt W a (List.replicate k (markH m))) (hk : 0 < k) (hn : n + k ≤ 100) :
    ∃ v' w', (Builtin.append_ #[50, 50] 50 #[.slice (some ⟨g, 0, none⟩) n n, .slice (some ⟨a, 0, none⟩) k k]).run Tryz.prog W = .ok v' w' ∧ LstAt w' v' (n + k) m ∧ Below W.heap.size W w' ∧ (∀ j, v'.ownBlock = some j → W.heap.size ≤ j) ∧ ∃ x c, v' = .slice (some ⟨x, 0, none⟩) (n + k) c := by
  obtain ⟨i0, hi, hz0, hz1, hz2⟩ := info_parts info57
  obtain ⟨v', w', hr, own, gr⟩ := run_append_arg_grows (P := Tryz.prog) W 50 50 57 i0 (cmdV zeroH) 8 64 Tryz.underlying50 hi hz0 hz1 hz2 rfl (by decide) ⟨g, 0, none⟩ n n _ (flat_rep m n) (holds_cells hg) ⟨a, 0, none⟩ k k _ (flat_rep m k) (holds_cells ha) (by omega) (by unfold maxLen; omega) (by omega)
  refine ⟨v', w', hr, ?_, ⟨gr.os, gr.tape, gr.output, gr.size, fun j hj => gr.block j hj (by simp)⟩, own_ge own, ?_⟩
  · rcases own.2 with ⟨_, e⟩ | ⟨x, c, cur, e, _, hh, _⟩
    · omega
    · refine ⟨x, c, e, ?_, hn⟩
      rw [e] at own
      have hx := (Array.getElem?_eq_some_iff.1 hh).1
      have e2 : (List.replicate (n + k) (markH m)).length = n + k := List.length_replicate
      have own2 : w'.ownsRow W.heap.size 57 8 (.slice (some ⟨x, 0, none⟩) (List.replicate (n + k) (markH m)).length c) (List.replicate (n + k) (markH m)).length ((List.replicate (n + k) (markH m)).flatMap hc) := by
        rw [e2, ← List.replicate_append_replicate, List.flatMap_append]
        exact own
      exact holdsAt_of_own own2 hx
  · rcases own.2 with ⟨_, e⟩ | ⟨x, c, cur, e, _⟩
    · omega
    · exact ⟨x, c, e⟩

theorem infoS : (Tryz.prog.info? 50).map (fun i => (i.zero, i.size, i.bytes)) = some (some (.slice none 0 0), 1, 24) := by kernel_rfl
/-- Four lists go behind the lists. -/
theorem append_lists (W : World) (v : Value) (n : Nat) (xs : List Value) (hown : W.ownsRow 0 50 1 v n xs) (a b c d : Value) (ha : a.oneCell' = true) (hb : b.oneCell' = true) (hc : c.oneCell' = true) (hd : d.oneCell' = true) (g : Nat) (h0 : W.cell? ⟨g, 0, none⟩ = some a) (h1 : W.cell? ⟨g, 1, none⟩ = some b) (h2 : W.cell? ⟨g, 2, none⟩ = some c) (h3 : W.cell? ⟨g, 3, none⟩ = some d) (hn : n ≤ 16000000) :
    ∃ v' w', (Builtin.append_ #[27, 27] 27 #[v, .slice (some ⟨g, 0, none⟩) 4 4]).run Tryz.prog W = .ok v' w' ∧ w'.ownsRow 0 50 1 v' (n + 4) (xs ++ [a, b, c, d]) ∧ W.grownBy w' v.ownBlock ∧ (v'.ownBlock = v.ownBlock ∨ v'.ownBlock = some W.heap.size) ∧ ∃ g' c', v' = .slice (some ⟨g', 0, none⟩) (n + 4) c' := by
  obtain ⟨i0, hi, hz0, hz1, hz2⟩ := info_parts infoS
  obtain ⟨v', w', hr, a1, a2, _, a4⟩ := run_append_own_at (P := Tryz.prog) W 0 27 27 50 i0 _ 1 24 Tryz.underlying27 hi hz0 hz1 hz2 rfl (by decide) v n xs hown ⟨g, 0, none⟩ 4 4 [a, b, c, d] rfl (by
    intro j u hu
    rw [add_off]
    match j, hu with
    | 0, hu => simp at hu; rw [← hu]; exact h0
    | 1, hu => simp at hu; rw [← hu]; exact h1
    | 2, hu => simp at hu; rw [← hu]; exact h2
    | 3, hu => simp at hu; rw [← hu]; exact h3) (by
    intro u hu
    simp at hu
    rcases hu with rfl | rfl | rfl | rfl
    · exact ha
    · exact hb
    · exact hc
    · exact hd) (by unfold maxLen; omega) (by omega) (Nat.zero_le _)
  refine ⟨v', w', hr, a1, a2, a4, ?_⟩
  rcases a1.2 with ⟨_, e⟩ | ⟨g', c', cur, e, _⟩
  · omega
  · exact ⟨g', c', e⟩

/-- A mark more. -/
def MarksAt (w : World) (g n k : Nat) (m : Int) : Prop := g < w.heap.size ∧ (∀ j, j < n * 8 → (w.cell? ⟨g, j, none⟩).isSome = true) ∧ (∀ i, i < k → ∀ j, j < 8 → w.cell? ⟨g, i * 8 + j, none⟩ = some (.int .i64 (markH m j))) ∧ Free w g
theorem MarksAt.start {w : World} {g : Nat} {L : List (Nat → Int)} {m : Int} (h : HoldsAt w g L) (hf : Free w g) : MarksAt w g L.length 0 m := by
  refine ⟨h.1, fun j hj => ?_, fun i hi => by omega, hf⟩
  have hk : j / 8 < L.length := by omega
  have := h.2 (j / 8) L[j / 8] (by simp [hk]) (j % 8) (by omega)
  rw [show j / 8 * 8 + j % 8 = j by omega] at this
  rw [this]; rfl
theorem MarksAt.stop {w : World} {g n : Nat} {m : Int} (h : MarksAt w g n n m) : HoldsAt w g (List.replicate n (markH m)) := by
  refine ⟨h.1, fun k x hk j hj => ?_⟩
  rw [List.getElem?_replicate] at hk
  split at hk
  · rename_i hkn
    cases hk
    exact h.2.2.1 k hkn j hj
  · cases hk
def marksL (m : Int) : List Value := [.int .i64 m, .int .i64 0, .int .i64 0, .int .i64 0, .int .i64 0, .int .i64 0, .int .i64 0, .int .i64 0]
theorem marksL_get (m : Int) (j : Nat) (hj : j < 8) : (marksL m)[j]? = some (.int .i64 (markH m j)) := by
  have hcs : j = 0 ∨ j = 1 ∨ j = 2 ∨ j = 3 ∨ j = 4 ∨ j = 5 ∨ j = 6 ∨ j = 7 := by omega
  rcases hcs with rfl | rfl | rfl | rfl | rfl | rfl | rfl | rfl <;> rfl
theorem MarksAt.more {w : World} {g n k : Nat} {m : Int} (h : MarksAt w g n k m) (hk : k < n) : MarksAt (w.setCells g (k * 8) (marksL m)) g n (k + 1) m := by
  obtain ⟨h1, h2, h3, h4⟩ := h
  have inn : ∀ j, j < 8 → (w.setCells g (k * 8) (marksL m)).cell? ⟨g, k * 8 + j, none⟩ = some (.int .i64 (markH m j)) := fun j hj => by
    rw [World.cell?_setCells_in g (marksL m) (k * 8) w (fun i hi => h2 _ (by have : (marksL m).length = 8 := rfl; omega)) j hj]
    have e := marksL_get m j hj
    rw [List.getElem?_eq_getElem (show j < (marksL m).length from hj)] at e
    exact e
  have out : ∀ j, (j < k * 8 ∨ k * 8 + 8 ≤ j) → (w.setCells g (k * 8) (marksL m)).cell? ⟨g, j, none⟩ = w.cell? ⟨g, j, none⟩ := fun j hj => World.cell?_setCells_out g _ _ _ _ (fun _ _ => by show j < k * 8 ∨ k * 8 + 8 ≤ j; omega)
  refine ⟨Nat.lt_of_lt_of_le h1 (setCells_grown w g (k * 8) (marksL m)).size, fun j hj => ?_, fun i hi j hj => ?_, fun j => by rw [World.frozen?_setCells]; exact h4 j⟩
  · by_cases hin : k * 8 ≤ j ∧ j < k * 8 + 8
    · have := inn (j - k * 8) (by omega)
      rw [show k * 8 + (j - k * 8) = j by omega] at this
      rw [this]; rfl
    · rw [out j (by omega)]; exact h2 j hj
  · by_cases hik : i = k
    · subst hik; exact inn j hj
    · rw [out _ (by omega)]; exact h3 i (by omega) j hj

theorem holds_new (W : World) (m : Int) : HoldsAt (W.alloc (.cells #[.int .i64 m, .int .i64 0, .int .i64 0, .int .i64 0, .int .i64 0, .int .i64 0, .int .i64 0, .int .i64 0] 57)) W.heap.size (List.replicate 1 (markH m)) := by
  refine ⟨by simp, fun k x hk j hj => ?_⟩
  match k, hk with
  | 0, hk =>
    simp at hk
    subst hk
    have hcs : j = 0 ∨ j = 1 ∨ j = 2 ∨ j = 3 ∨ j = 4 ∨ j = 5 ∨ j = 6 ∨ j = 7 := by omega
    rcases hcs with rfl | rfl | rfl | rfl | rfl | rfl | rfl | rfl <;> simp [go_sem] <;> rfl

end Go.Proofs.YtdblmheoghhepaaGreatDoor

/- The law's 'held'. -/
namespace Go.Proofs.YtdblmheoghhepaaGreatDoor
open Go.RowKit

def marksA (m : Int) (k : Nat) : List Value := (List.replicate k (marksL m)).flatMap fun x => x
theorem marksA_get (m : Int) : ∀ (k i j : Nat), i < k → j < 8 → (marksA m k)[i * 8 + j]? = some (.int .i64 (markH m j)) := by
  intro k
  induction k with
  | zero => intro i j h; omega
  | succ k ih =>
    intro i j hi hj
    have e : marksA m (k + 1) = marksL m ++ marksA m k := by
      unfold marksA; rw [List.replicate_succ, List.flatMap_cons]
    have l8 : (marksL m).length = 8 := rfl
    rw [e]
    cases i with
    | zero => rw [List.getElem?_append_left (by omega), Nat.zero_mul, Nat.zero_add]; exact marksL_get m j hj
    | succ i =>
      rw [List.getElem?_append_right (by omega), show (i + 1) * 8 + j - (marksL m).length = i * 8 + j by omega]
      exact ih i j (by omega) hj
theorem holds_newK (W : World) (m : Int) (n : Nat) (_ : 0 < n) : HoldsAt (W.alloc (.cells (marksA m n).toArray 57)) W.heap.size (List.replicate n (markH m)) := by
  refine ⟨by simp, fun k x hk j hj => ?_⟩
  rw [List.getElem?_replicate] at hk
  split at hk
  · rename_i hkn
    cases hk
    have e : (W.alloc (.cells (marksA m n).toArray 57)).cell? ⟨W.heap.size, k * 8 + j, none⟩ = (marksA m n).toArray[k * 8 + j]? := by
      simp [go_sem]
    rw [e, List.getElem?_toArray]
    exact marksA_get m n k j hkn hj
  · cases hk
section
variable {w0 : World} {b : Nat} {lv sv : Value} {Es : List Ent} {Ls : List (Value × Nat)} {M : Nat} {C : Nat → Nat}
set_option maxRecDepth 100000 in
set_option maxHeartbeats 4000000 in
theorem held_any (w : World) (h : Wd w0 w b lv sv Es Ls M C) {i : Nat} {e : Ent} (he : Es[i]? = some e) (af n : Int) (ha : I64 af) (hn : I64 n) (h4 : Ls.length % 4 = 0) (hll : Ls.length + 4 ≤ 16000000) :
    Calls Tryz.prog 35 #[.pointer (some ⟨b, 0, none⟩), .agg #[.pointer (some ⟨e.p.a, 0, none⟩), .pointer (some ⟨e.r.q, 0, none⟩)], .int .i64 af, .int .i64 n] w fun e w' => e = .returned (.bool true) ∧ ∃ (sv' : Value) (Ns : List (Value × Nat)) (C' : Nat → Nat), Ns.length = 4 ∧ Wd w0 w' b lv sv' Es (Ls ++ Ns) M C' := by
  obtain ⟨sx, sc, esv⟩ := own_slice h.sr
  subst esv
  have hB0 : Below w.heap.size w (w.alloc (.cells #[.pointer (some ⟨e.p.a, 0, none⟩), .pointer (some ⟨e.r.q, 0, none⟩)] 41)) := (Below.refl _ _).alloc (Nat.le_refl _) _
  have E := h.ents i e he
  have EL := E.led.below hB0
  have ER := E.rled.below hB0
  have Eok := E.ok
  go_enter Tryz.func35, Tryz.ntmps35
  go_wp2_with fail
  refine (holds_any e.p e.S af n _ EL ha hn).mono ?_
  rintro ex w1 ⟨g, rfl, hg1, hg2, own1, hb1⟩
  have k1 : w1.cell? ⟨w.heap.size, 1, none⟩ = some (.pointer (some ⟨e.r.q, 0, none⟩)) := (hb1.cell (p := ⟨w.heap.size, 1, none⟩) (by simp)).trans (by simp [go_sem])
  have ER1 := ER.below hb1
  go_wp2_with fail
  refine (rsome_any e.r e.S e.D af n _ ER1 Eok.len Eok.hok).mono ?_
  rintro ex w2 ⟨v2, rfl, own2, hb2⟩
  obtain ⟨vx, vc, ev2⟩ := own_slice own2
  subst ev2
  have HO := holdsAt_of_own own1 hg2
  have HL := (hid h)
  have hm60 : (cutL e.S.H af n).length ≤ 60 := by
    have := Eok.len
    unfold cutL
    simp
    omega
  have hB2 : Below w.heap.size w w2 := hB0.trans ((hb1.mono (by simp)).trans (hb2.mono (by have := hb1.size; simp at this; omega)))
  have hg : w.heap.size < g := by simp at hg1; omega
  generalize cutL e.S.H af n = L at *
  clear EL ER ER1 E Eok k1 hB0
  go_wp2
  go_loopw [11, 12] (fun s v wr => ∃ k : Nat, k ≤ L.length ∧ s = .bool true ∧ v = .int .i64 (k : Int) ∧ Below w2.heap.size w2 wr) (fun _ v _ => L.length - (intOf v).toNat)
  case atStart => exact ⟨0, Nat.zero_le _, rfl, rfl, Below.refl _ _⟩
  case round =>
    obtain ⟨k, hk, rfl, rfl, hb3⟩ := hrel
    by_cases hlt : k < L.length
    · obtain ⟨x, hx⟩ : ∃ x, L[k]? = some x := ⟨L[k], by simp [hlt]⟩
      obtain ⟨g2, ev⟩ : ∃ g2, vx = some ⟨g2, 0, none⟩ := by
        rcases own2.2 with ⟨_, e2⟩ | ⟨g2, cap, cur, e, _⟩
        · omega
        · cases e; exact ⟨g2, rfl⟩
      subst ev
      obtain ⟨c0, c1, c2, c3, c4, c5, c6, c7⟩ := ((HO.below hb2).below hb3).all hx
      obtain ⟨d0, d1, d2, d3, d4, d5, d6, d7⟩ := ((holdsAt_of_own own2 (own_lt own2)).below hb3).all hx
      have kI : (k : Int) < (L.length : Int) := by omega
      have HX := hid hx
      clear hx own1 own2 HO hb1 hb2 he h
      go_wp2
      go_region
      go_wp2
      go_roundw
      case rel => exact ⟨k + 1, by omega, by simp, by go_num, hb3.drew⟩
      case measure => simp [intOf]; omega
    · have ek : k = L.length := by omega
      subst ek
      have hB3 : Below w.heap.size w wr := hB2.trans (hb3.mono hB2.size)
      have c1 := (h.mk' hB3).c1
      have F1 : Free wr g := by
        have f : Free w1 g := by
          rcases own1.2 with ⟨e1, _⟩ | ⟨g2, cap, cur, e, _, hh, _⟩
          · injection e1 with e2; cases e2
          · cases e; exact fun j => by simp [World.frozen?, hh]
        exact fun j => (hb3.frozen (p := ⟨g, j, none⟩) (by have := hb2.size; show g < w2.heap.size; omega)).trans ((hb2.frozen (p := ⟨g, j, none⟩) hg2).trans (f j))
      have H3 := (HO.below hb2).below hb3
      have gl := H3.1
      clear hb1 hb2 hb3 own1 own2 HO hB2
      have HH := hid h
      clear h
      go_wp2_with fail
      refine (mark_any Ls.length _ (by omega)).mono ?_
      rintro ex w4 ⟨rfl, rfl⟩
      generalize hm : markI Ls.length = m at *
      have HM := hid hm
      clear hm
      go_wp2
      obtain ⟨wq, rfl⟩ : ∃ wq : World, wq = wr := ⟨_, rfl⟩
      obtain ⟨W4, hW4⟩ : ∃ W4 : World, W4 = wq.alloc (.cells #[.int .i64 m, .int .i64 0, .int .i64 0, .int .i64 0, .int .i64 0, .int .i64 0, .int .i64 0, .int .i64 0] 57) := ⟨_, rfl⟩
      have B4 : Below wq.heap.size wq W4 := by rw [hW4]; exact (Below.refl _ _).alloc (Nat.le_refl _) _
      have X4 : HoldsAt W4 wq.heap.size (List.replicate 1 (markH m)) := by rw [hW4]; exact holds_new wq m
      have M4 : MarksAt W4 g L.length 0 m := MarksAt.start (H3.below B4) (fun j => (B4.frozen (p := ⟨g, j, none⟩) gl).trans (F1 j))
      have g4 : g < W4.heap.size := M4.1
      have x4 : wq.heap.size < W4.heap.size := X4.1
      have c14 := (B4.cell (p := ⟨b, 1, none⟩) (World.block_lt_of_cell? _ ⟨b, 1, none⟩ c1)).trans c1
      have hB4 : Below w.heap.size w W4 := hB3.trans (B4.mono hB3.size)
      rw [← hW4]
      clear hW4 B4 F1 H3 c1 hB3
      go_loopw [14] (fun v wz => ∃ k : Nat, k ≤ L.length ∧ v = .int .i64 (k : Int) ∧ MarksAt wz g L.length k m ∧ Turned (fun j => j = g) W4 wz) (fun v _ => L.length - (intOf v).toNat)
      case atStart => exact ⟨0, Nat.zero_le _, rfl, M4, Turned.refl _ _⟩
      case round =>
        obtain ⟨k, hk, rfl, MK, T⟩ := hrel
        have XK : HoldsAt wr wq.heap.size (List.replicate 1 (markH m)) := ⟨Nat.lt_of_lt_of_le x4 T.size, fun k x hk j hj => (World.cell?_of_block (a := ⟨wq.heap.size, k * 8 + j, none⟩) (T.block wq.heap.size x4 (fun x => by omega))).trans (X4.2 k x hk j hj)⟩
        obtain ⟨q0, q1, q2, q3, q4, q5, q6, q7⟩ := mark_cells (i := 0) XK (by omega)
        simp only [Nat.zero_mul, Nat.zero_add] at q0 q1 q2 q3 q4 q5 q6 q7
        by_cases hlt : k < L.length
        · have kI : (k : Int) < (L.length : Int) := by omega
          obtain ⟨z0, z1, z2, z3⟩ := id MK
          obtain ⟨u0, y0⟩ : ∃ u, wr.cell? ⟨g, k * 8, none⟩ = some u := Option.isSome_iff_exists.1 (z1 _ (by omega))
          have f0 : wr.frozen? ⟨g, k * 8, none⟩ = false := z3 _
          obtain ⟨u1, y1⟩ : ∃ u, wr.cell? ⟨g, k * 8 + 1, none⟩ = some u := Option.isSome_iff_exists.1 (z1 _ (by omega))
          have f1 : wr.frozen? ⟨g, k * 8 + 1, none⟩ = false := z3 _
          obtain ⟨u2, y2⟩ : ∃ u, wr.cell? ⟨g, k * 8 + 1 + 1, none⟩ = some u := Option.isSome_iff_exists.1 (z1 _ (by omega))
          have f2 : wr.frozen? ⟨g, k * 8 + 1 + 1, none⟩ = false := z3 _
          obtain ⟨u3, y3⟩ : ∃ u, wr.cell? ⟨g, k * 8 + 1 + 1 + 1, none⟩ = some u := Option.isSome_iff_exists.1 (z1 _ (by omega))
          have f3 : wr.frozen? ⟨g, k * 8 + 1 + 1 + 1, none⟩ = false := z3 _
          obtain ⟨u4, y4⟩ : ∃ u, wr.cell? ⟨g, k * 8 + 1 + 1 + 1 + 1, none⟩ = some u := Option.isSome_iff_exists.1 (z1 _ (by omega))
          have f4 : wr.frozen? ⟨g, k * 8 + 1 + 1 + 1 + 1, none⟩ = false := z3 _
          obtain ⟨u5, y5⟩ : ∃ u, wr.cell? ⟨g, k * 8 + 1 + 1 + 1 + 1 + 1, none⟩ = some u := Option.isSome_iff_exists.1 (z1 _ (by omega))
          have f5 : wr.frozen? ⟨g, k * 8 + 1 + 1 + 1 + 1 + 1, none⟩ = false := z3 _
          obtain ⟨u6, y6⟩ : ∃ u, wr.cell? ⟨g, k * 8 + 1 + 1 + 1 + 1 + 1 + 1, none⟩ = some u := Option.isSome_iff_exists.1 (z1 _ (by omega))
          have f6 : wr.frozen? ⟨g, k * 8 + 1 + 1 + 1 + 1 + 1 + 1, none⟩ = false := z3 _
          obtain ⟨u7, y7⟩ : ∃ u, wr.cell? ⟨g, k * 8 + 1 + 1 + 1 + 1 + 1 + 1 + 1, none⟩ = some u := Option.isSome_iff_exists.1 (z1 _ (by omega))
          have f7 : wr.frozen? ⟨g, k * 8 + 1 + 1 + 1 + 1 + 1 + 1 + 1, none⟩ = false := z3 _
          have HK := hid MK
          have HT := hid T
          clear z0 z1 z2 z3 T MK XK
          go_wp2
          go_roundw
          case rel => exact ⟨k + 1, by omega, by go_num, HK.out.more hlt, HT.out.trans (Turned.ofGrown (setCells_grown wr g (k * 8) (marksL m)) (fun j e => by cases e; exact Or.inl rfl))⟩
          case measure => simp [intOf]; omega
        · have ek : k = L.length := by omega
          subst ek
          have h := HH.out
          have H0 : HoldsAt wr g (List.replicate L.length (markH m)) := MK.stop
          have BW : Below w.heap.size w wr := hB4.trans ⟨T.os, T.tape, T.output, T.size, fun j hj => T.block j (by have := hB4.size; omega) (fun x => by omega)⟩
          have bA5 : Below wr.heap.size wr (wr.alloc (.cells (marksA m 1).toArray 57)) := (Below.refl _ _).alloc (Nat.le_refl _) _
          obtain ⟨v5, w5, hr5, l5, b5, o5, x5, c5, e5⟩ := append_marks _ (H0.below bA5) (holds_newK wr m 1 (by omega)) (by omega) (by omega)
          have B5 : Below wr.heap.size wr w5 := bA5.trans (b5.mono (by simp))
          have bA6 : Below w5.heap.size w5 (w5.alloc (.cells (marksA m 2).toArray 57)) := (Below.refl _ _).alloc (Nat.le_refl _) _
          obtain ⟨v6, w6, hr6, l6, b6, o6, x6, c6, e6⟩ := append_marks _ ((H0.below B5).below bA6) (holds_newK w5 m 2 (by omega)) (by omega) (by omega)
          have B6 : Below w5.heap.size w5 w6 := bA6.trans (b6.mono (by simp))
          have bA7 : Below w6.heap.size w6 (w6.alloc (.cells (marksA m 3).toArray 57)) := (Below.refl _ _).alloc (Nat.le_refl _) _
          obtain ⟨v7, w7, hr7, l7, b7, o7, x7, c7, e7⟩ := append_marks _ (((H0.below B5).below B6).below bA7) (holds_newK w6 m 3 (by omega)) (by omega) (by omega)
          have B7 : Below w6.heap.size w6 w7 := bA7.trans (b7.mono (by simp))
          have z5 := B5.size
          have z6 := B6.size
          have z7 := B7.size
          have zw := BW.size
          have B56 : Below wr.heap.size wr w6 := B5.trans (B6.mono z5)
          have B57 : Below wr.heap.size wr w7 := B56.trans (B7.mono (by omega))
          have Bw7 : Below w.heap.size w w7 := BW.trans (B57.mono zw)
          have bA8 : Below w7.heap.size w7 (w7.alloc (.cells #[.slice (some ⟨g, 0, none⟩) L.length L.length, v5, v6, v7] 50)) := (Below.refl _ _).alloc (Nat.le_refl _) _
          have Bw8 := Bw7.trans (bA8.mono (by omega))
          have h8 := h.mk' Bw8
          obtain ⟨v8, w8, hr8, own8, gr8, ob8, x8, c8, e8⟩ := append_lists _ _ _ _ h8.sr (.slice (some ⟨g, 0, none⟩) L.length L.length) v5 v6 v7 rfl (by rw [e5]; rfl) (by rw [e6]; rfl) (by rw [e7]; rfl) w7.heap.size (by simp [go_sem]) (by simp [go_sem]) (by simp [go_sem]) (by simp [go_sem]) (by omega)
          obtain ⟨C', WW⟩ := h.lists (Ns := [(.slice (some ⟨g, 0, none⟩) L.length L.length, L.length), (v5, L.length + 1), (v6, L.length + 2), (v7, L.length + 3)]) Bw8 (by
            intro i x hx
            have em : ∀ i, i < 4 → markI (Ls.length + i) = m := fun i hi => by
              rw [← HM.out]; unfold markI; omega
            match i, hx with
            | 0, hx =>
              simp at hx
              subst hx
              rw [em 0 (by omega)]
              refine ⟨⟨g, L.length, rfl, (H0.below B57).below bA8, by omega⟩, fun k hk => ?_⟩
              simp [Value.ownBlock] at hk
              omega
            | 1, hx =>
              simp at hx
              subst hx
              rw [em 1 (by omega)]
              refine ⟨(l5.same z6 (fun j hj => B6.block j (l5.lt hj))).same (by simp; omega) (fun j hj => (bA8.block j (by have := l5.lt hj; omega)).trans (B7.block j (by have := l5.lt hj; omega))), fun k hk => ?_⟩
              have := o5 k hk
              simp at this
              omega
            | 2, hx =>
              simp at hx
              subst hx
              rw [em 2 (by omega)]
              refine ⟨l6.same (by simp; omega) (fun j hj => (bA8.block j (by have := l6.lt hj; omega)).trans (B7.block j (by have := l6.lt hj; omega))), fun k hk => ?_⟩
              have := o6 k hk
              simp at this
              omega
            | 3, hx =>
              simp at hx
              subst hx
              rw [em 3 (by omega)]
              refine ⟨l7.same (by simp) (fun j hj => bA8.block j (l7.lt hj)), fun k hk => ?_⟩
              have := o7 k hk
              simp at this
              omega) (by simpa using hll) own8 gr8 ob8
          have nsb : (Value.slice sx Ls.length sc).ownBlock ≠ some b := fun x => by have := h.cs b x; rw [h.cb] at this; cases this
          have eb8 := gr8.block b h8.b_lt (fun x => nsb x.symm)
          have c18 := (World.cell?_of_block (a := ⟨b, 1, none⟩) eb8).trans h8.c1
          have f18 := (World.frozen?_of_block (a := ⟨b, 1, none⟩) eb8).trans (h8.free 1)
          have c17 := (h.mk' Bw7).c1
          have X5 := XK.below B5
          have X6 := X5.below B6
          obtain ⟨r0, r1, r2, r3, r4, r5, r6, r7⟩ := mark_cells (i := 0) X5 (by omega)
          simp only [Nat.zero_mul, Nat.zero_add] at r0 r1 r2 r3 r4 r5 r6 r7
          obtain ⟨s0, s1, s2, s3, s4, s5, s6, s7⟩ := mark_cells (i := 0) X6 (by omega)
          simp only [Nat.zero_mul, Nat.zero_add] at s0 s1 s2 s3 s4 s5 s6 s7
          subst e5 e6 e7 e8
          have HW := hid WW
          clear WW l5 l6 l7 o5 o6 o7 b5 b6 b7 bA5 bA6 bA7 bA8 B5 B6 B7 B56 B57 Bw7 Bw8 h8 own8 gr8 ob8 eb8 nsb H0 BW X5 X6 XK T MK h
          simp only [marksA, List.replicate_succ, List.replicate_zero, List.flatMap_cons, List.flatMap_nil, List.append_nil, List.cons_append, List.nil_append, marksL] at hr5 hr6 hr7
          go_wp2_with (at_builtin; first | refine wp_append_at _ rfl _ _ 50 rfl (.slice (some ⟨g, 0, none⟩) L.length L.length) (.slice (some ⟨wr.heap.size, 0, none⟩) 1 1) rfl rfl _ _ hr5 ?_ | refine wp_append_at _ rfl _ _ 50 rfl (.slice (some ⟨g, 0, none⟩) L.length L.length) (.slice (some ⟨w5.heap.size, 0, none⟩) 2 2) rfl rfl _ _ hr6 ?_ | refine wp_append_at _ rfl _ _ 50 rfl (.slice (some ⟨g, 0, none⟩) L.length L.length) (.slice (some ⟨w6.heap.size, 0, none⟩) 3 3) rfl rfl _ _ hr7 ?_ | refine wp_append_at _ rfl _ _ 27 rfl (.slice sx Ls.length sc) (.slice (some ⟨w7.heap.size, 0, none⟩) 4 4) rfl rfl _ _ hr8 ?_)
          go_ret
          exact ⟨rfl, _, _, C', rfl, HW.out⟩
end
end Go.Proofs.YtdblmheoghhepaaGreatDoor
