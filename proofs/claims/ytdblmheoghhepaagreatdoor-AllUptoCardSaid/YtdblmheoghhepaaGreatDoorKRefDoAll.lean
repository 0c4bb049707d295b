/- The document's 'Do': a command that is decided. -/
import Derived.Test.YtdblmheoghhepaaGreatDoorKRefDo1
import Derived.Test.YtdblmheoghhepaaGreatDoorKFramed
import Derived.Deep.MidRow
namespace Go.Proofs.YtdblmheoghhepaaGreatDoor
open Go.RowKit

theorem infoD : (Tryz.prog.info? 110).map (fun i => (i.zero, i.size, i.bytes)) = some (some (.agg #[.int .i64 0, .int .i64 0, .int .i64 0, .int .i64 0, .int .i64 0, .int .i64 0, .int .i64 0, .int .i64 0, .int .i64 0, .int .i64 0]), 10, 80) := by kernel_rfl
theorem ten_one (d : Nat → Int) : ∀ u ∈ tenL d, u.oneCell' = true := by
  intro u hu
  simp only [List.mem_cons, List.not_mem_nil, or_false] at hu
  rcases hu with rfl | rfl | rfl | rfl | rfl | rfl | rfl | rfl | rfl | rfl <;> rfl

/-- The last commands get a row of their own. -/
theorem RAt.newD {w w1 : World} {r : RAdr} {now : Int} {P : Nat → Int} {v' : Value} {H D D' : List (Nat → Int)} {J : List Int} {row : Option Nat} (h : RAt w r now P H D J) (hown : w1.ownsRow 0 110 10 v' D'.length (D'.flatMap tenL)) (hg : w.grownBy w1 row) (hrow : row = none ∨ row = r.dv.ownBlock) (hl : v'.ownBlock = none ∨ v'.ownBlock = r.dv.ownBlock ∨ v'.ownBlock = some w.heap.size) :
    RAt (w1.setCell ⟨r.q, 82, none⟩ v') ⟨r.q, r.hv, v'⟩ now P H D' J ∧ Turned r.foot w (w1.setCell ⟨r.q, 82, none⟩ v') ∧ (∀ k, RAdr.foot ⟨r.q, r.hv, v'⟩ k → r.foot k ∨ w.heap.size ≤ k) := by
  have hql := h.q_lt
  have hrw : ∀ k, row = some k → r.dv.ownBlock = some k := fun k hk => by
    rcases hrow with e | e
    · rw [e] at hk; cases hk
    · rw [← e]; exact hk
  have eb : w1.heap[r.q]? = w.heap[r.q]? := hg.block r.q hql (fun e => h.dap r.q (hrw _ e.symm) rfl)
  have hhb : ∀ k, r.hv.ownBlock = some k → w1.heap[k]? = w.heap[k]? := fun k hk => hg.block k (own_blt h.hrow hk) (fun e => (h.hap k hk).2 (hrw _ e.symm))
  have cases' : ∀ k, v'.ownBlock = some k → r.dv.ownBlock = some k ∨ k = w.heap.size := fun k hk => by
    rcases hl with e | e | e
    · rw [e] at hk; cases hk
    · exact Or.inl (e ▸ hk)
    · right
      have : some k = some w.heap.size := hk.symm.trans e
      cases this
      rfl
  have hap : ∀ k, v'.ownBlock = some k → k ≠ r.q := fun k hk => by
    rcases cases' k hk with e | e
    · exact h.dap k e
    · omega
  have hhd : ∀ k, r.hv.ownBlock = some k → k ≠ r.q ∧ v'.ownBlock ≠ some k := fun k hk => ⟨(h.hap k hk).1, fun e => by
    rcases cases' k e with e | e
    · exact (h.hap k hk).2 e
    · have := own_blt h.hrow hk; omega⟩
  refine ⟨⟨?_, nums_other (h.nums.same eb) (by omega) _, ?_, World.cell?_setCell_same _ _ _ ((World.cell?_of_block (a := ⟨r.q, 82, none⟩) eb).trans h.cd), ?_, fun j => ?_, own_same (own_same h.hrow hhb) (fun k hk => Below.heap_setCell _ _ _ _ (h.hap k hk).1), own_same hown (fun k hk => Below.heap_setCell _ _ _ _ (hap k hk)), hhd, hap⟩, ?_, ?_⟩
  · rw [World.cell?_setCell_other _ _ _ _ (off_ne (by omega))]; exact (World.cell?_of_block (a := ⟨r.q, 0, none⟩) eb).trans h.c0
  · rw [World.cell?_setCell_other _ _ _ _ (off_ne (by omega))]; exact (World.cell?_of_block (a := ⟨r.q, 81, none⟩) eb).trans h.ch
  · rw [World.cell?_setCell_other _ _ _ _ (off_ne (by omega))]; exact (World.cell?_of_block (a := ⟨r.q, 83, none⟩) eb).trans h.cj
  · rw [World.frozen?_setCell]; exact (World.frozen?_of_block (a := ⟨r.q, j, none⟩) eb).trans (h.free j)
  · exact (Turned.ofGrown (F := r.foot) hg (fun k e => Or.inl (Or.inr (Or.inr (hrw k e))))).setCell (p := ⟨r.q, 82, none⟩) (Or.inl (Or.inl rfl)) _
  · rintro k (e | e | e)
    · exact Or.inl (Or.inl e)
    · exact Or.inl (Or.inr (Or.inl e))
    · rcases cases' k e with e | e
      · exact Or.inl (Or.inr (Or.inr e))
      · exact Or.inr (by omega)

/-- One row goes behind the last commands. -/
theorem run_append_done (w : World) (ty : TypeId) (v : Value) (D : List (Nat → Int)) (R : Nat → Int) (b : Nat) (hown : w.ownsRow 0 110 10 v D.length (D.flatMap tenL)) (hc : ∀ j, j < 10 → w.cell? ⟨b, j, none⟩ = some (.int .i64 (R j))) (hn : D.length ≤ 8) :
    ∃ v' w', (Builtin.append_ #[51, 51] ty #[v, .slice (some ⟨b, 0, none⟩) 1 1]).run Tryz.prog w = .ok v' w' ∧ w'.ownsRow 0 110 10 v' (D ++ [R]).length ((D ++ [R]).flatMap tenL) ∧ w.grownBy w' v.ownBlock ∧ (v'.ownBlock = v.ownBlock ∨ v'.ownBlock = some w.heap.size) ∧ ∃ g cap, v' = .slice (some ⟨g, 0, none⟩) (D.length + 1) cap := by
  obtain ⟨i0, hi, hz0, hz1, hz2⟩ := info_parts infoD
  obtain ⟨v', w', hr, h1, h2, _, h4⟩ := run_append_own_at (P := Tryz.prog) w 0 51 ty 110 i0 _ 10 80 Tryz.underlying51 hi hz0 hz1 hz2 rfl (by decide) v D.length (D.flatMap tenL) hown ⟨b, 0, none⟩ 1 1 (tenL R) rfl (by
    intro j u hu
    rw [add_off]
    have hj : j < 10 := (List.getElem?_eq_some_iff.1 hu).1
    rw [hc j hj, ← hu, ten_at R j hj]) (ten_one R) (by unfold maxLen; omega) (by omega) (Nat.zero_le _)
  refine ⟨v', w', hr, by simpa using h1, h2, h4, ?_⟩
  rcases h1.2 with ⟨_, e⟩ | ⟨g, cap, cur, e, _⟩
  · omega
  · exact ⟨g, cap, e⟩

/-- All rows but the first go into a row of their own. -/
theorem run_append_rest (w : World) (ty : TypeId) (g n cap : Nat) (E : List (Nat → Int)) (hown : w.ownsRow 0 110 10 (.slice (some ⟨g, 0, none⟩) n cap) E.length (E.flatMap tenL)) (hn : E.length = n) (h1 : 2 ≤ n) (h9 : n ≤ 9) (cp : Nat) :
    ∃ v' w', (Builtin.append_ #[51, 51] ty #[.slice none 0 0, .slice (some ⟨g, 10, none⟩) (n - 1) cp]).run Tryz.prog w = .ok v' w' ∧ w'.ownsRow 0 110 10 v' (E.drop 1).length ((E.drop 1).flatMap tenL) ∧ w.grownBy w' none ∧ (v'.ownBlock = none ∨ v'.ownBlock = some w.heap.size) ∧ ∃ g' cap', v' = .slice (some ⟨g', 0, none⟩) (n - 1) cap' := by
  obtain ⟨i0, hi, hz0, hz1, hz2⟩ := info_parts infoD
  subst hn
  have hl : (E.drop 1).length = E.length - 1 := by simp
  obtain ⟨v', w', hr, h1', h2, _, h4⟩ := run_append_own_at (P := Tryz.prog) w 0 51 ty 110 i0 _ 10 80 Tryz.underlying51 hi hz0 hz1 hz2 rfl (by decide) (.slice none 0 0) 0 [] (World.ownsRow_nil _ 0 110 10) ⟨g, 10, none⟩ (E.length - 1) cp ((E.drop 1).flatMap tenL) (by rw [flat10_len, hl]) (by
      intro j u hu
      have hj : j < (E.drop 1).length * 10 := by rw [← flat10_len]; exact (List.getElem?_eq_some_iff.1 hu).1
      have e : (⟨g, 10, none⟩ : Addr).add j = ⟨g, 10 + j, none⟩ := by
        unfold Addr.add
        split
        · rename_i h0; rw [h0]
        · rfl
      rw [e, hown.cellAt (10 + j) (by omega), ← hu]
      obtain ⟨a, t, rfl⟩ : ∃ a t, E = a :: t := by
        cases E with
        | nil => simp at h1
        | cons a t => exact ⟨a, t, rfl⟩
      rw [List.flatMap_cons, List.drop_one, List.tail_cons, List.getElem?_append_right (by show 10 ≤ _; omega)]
      show (t.flatMap tenL)[10 + j - 10]? = _
      rw [Nat.add_sub_cancel_left]) (by
      intro u hu
      obtain ⟨x, _, hx⟩ := List.mem_flatMap.1 hu
      exact ten_one x u hx) (by unfold maxLen; omega) (by omega) (Nat.zero_le _)
  refine ⟨v', w', hr, ?_, h2, h4, ?_⟩
  · rw [hl]
    simpa using h1'
  · rcases h1'.2 with ⟨_, e⟩ | ⟨g', cap', cur, e, _⟩
    · omega
    · exact ⟨g', cap', by rw [e]; simp⟩

set_option maxRecDepth 100000 in
set_option maxHeartbeats 16000000 in
theorem rdo_no (r : RAdr) (S : Led) (D : List (Nat → Int)) (f : Nat → Int) (w : World) (h : RLed w r S D) (hD : DOk S.A D) (hr : refOk f = true) (hO : LOk S) (hl : S.H.length ≤ 60) (hnew : ∀ d ∈ D, d 1 ≠ f 1) (hE : (dec S f).E ≠ 0) (X : Dec) (HX : Hid (X = ⟨S, (dec S f).E, (dec S f).N⟩)) :
    Calls Tryz.prog 30 #[.pointer (some ⟨r.q, 0, none⟩), cmdV f] w (RDone w r X) := by
  have hfoot : ∀ k, r.foot k → k < w.heap.size := fun k hk => h.foot_lt hk
  have n0 : ¬ r.foot (w.heap.size + 1) := fun e => by have := hfoot _ e; omega
  have eE : refE f = 0 := by unfold refE; rw [hr]; rfl
  obtain ⟨z, hv, dv⟩ := r
  obtain ⟨da, dcap, hdv⟩ := own_slice h.drow
  simp only at hdv ⊢
  subst hdv
  have hzl : z < w.heap.size := h.q_lt
  have l8 := hD.len
  go_enter Tryz.func30, Tryz.ntmps30
  go_wp2_with fail
  refine (refRight_any f _).mono ?_
  rw [eE]
  rintro e w2 ⟨rfl, hb2⟩
  clear eE
  go_wp2
  go_loopw [6] (fun v wr => ∃ k : Nat, k ≤ D.length ∧ v = .int .i64 (k : Int) ∧ Below ((w.alloc (.cells (cmdC f) 33)).alloc (.cells #[.int .i64 0, .int .i64 0] 66)).heap.size ((w.alloc (.cells (cmdC f) 33)).alloc (.cells #[.int .i64 0, .int .i64 0] 66)) wr) (fun v _ => D.length - (intOf v).toNat)
  case atStart => exact ⟨0, Nat.zero_le _, rfl, hb2⟩
  case round =>
    clear hb2
    obtain ⟨k, hk, rfl, hb⟩ := hrel
    have hK : RLed wr ⟨z, hv, .slice da D.length dcap⟩ S D := h.below (two_boxes hb).2.2.2.2
    by_cases hkl : k < D.length
    · obtain ⟨d', hk'⟩ : ∃ d', D[k]? = some d' := ⟨D[k]'(by omega), List.getElem?_eq_getElem _⟩
      obtain ⟨gd, cd, ed, c0, c1, c2, c3, c4, c5, c6, c7, c8, c9, _⟩ := hK.dones hk'
      simp only [Value.slice.injEq] at ed
      obtain ⟨rfl, -, -⟩ := ed
      have hkI : (k : Int) < (D.length : Int) := by omega
      have hcd : wr.cell? ⟨z, 82, none⟩ = some (.slice (some ⟨gd, 0, none⟩) D.length dcap) := hK.cd
      obtain ⟨x, y, fr, sz, B2⟩ := two_boxes hb
      have x0 : wr.cell? ⟨w.heap.size, 0, none⟩ = some (.int .i64 (f 0)) := x 0
      have x1 : wr.cell? ⟨w.heap.size, 1, none⟩ = some (.int .i64 (f 1)) := x 1
      have x2 : wr.cell? ⟨w.heap.size, 2, none⟩ = some (.int .i64 (f 2)) := x 2
      have x3 : wr.cell? ⟨w.heap.size, 3, none⟩ = some (.int .i64 (f 3)) := x 3
      have x4 : wr.cell? ⟨w.heap.size, 4, none⟩ = some (.int .i64 (f 4)) := x 4
      have x5 : wr.cell? ⟨w.heap.size, 5, none⟩ = some (.int .i64 (f 5)) := x 5
      have x6 : wr.cell? ⟨w.heap.size, 6, none⟩ = some (.int .i64 (f 6)) := x 6
      have x7 : wr.cell? ⟨w.heap.size, 7, none⟩ = some (.int .i64 (f 7)) := x 7
      have y0 : wr.cell? ⟨w.heap.size + 1, 0, none⟩ = some (.int .i64 0) := y 0
      have y1 : wr.cell? ⟨w.heap.size + 1, 1, none⟩ = some (.int .i64 0) := y 1
      have fr0 := fr 0
      have fr1 := fr 1
      have hne := hnew d' (List.mem_of_getElem? hk')
      clear hK h x y fr hnew
      have hid1 : (d' 1 == f 1) = false := by simpa using hne
      by_cases e0 : d' 0 = f 0
      · rw [e0] at c0
        clear e0
        go_wp2
        go_region
        go_wp2
        go_region
        go_wp2
        go_roundw
        case rel => exact ⟨k + 1, by omega, by go_num, hb.drew.drew⟩
        case measure => simp [intOf]; omega
      · have e0' : (d' 0 == f 0) = false := by simpa using e0
        clear e0
        go_wp2
        go_region
        go_wp2
        go_region
        go_wp2
        go_roundw
        case rel => exact ⟨k + 1, by omega, by go_num, hb.drew.drew⟩
        case measure => simp [intOf]; omega
    · have ekl : k = D.length := by omega
      subst ekl
      obtain ⟨x, y, fr, sz, B2⟩ := two_boxes hb
      have x0 : wr.cell? ⟨w.heap.size, 0, none⟩ = some (.int .i64 (f 0)) := x 0
      have x1 : wr.cell? ⟨w.heap.size, 1, none⟩ = some (.int .i64 (f 1)) := x 1
      have x2 : wr.cell? ⟨w.heap.size, 2, none⟩ = some (.int .i64 (f 2)) := x 2
      have x3 : wr.cell? ⟨w.heap.size, 3, none⟩ = some (.int .i64 (f 3)) := x 3
      have x4 : wr.cell? ⟨w.heap.size, 4, none⟩ = some (.int .i64 (f 4)) := x 4
      have x5 : wr.cell? ⟨w.heap.size, 5, none⟩ = some (.int .i64 (f 5)) := x 5
      have x6 : wr.cell? ⟨w.heap.size, 6, none⟩ = some (.int .i64 (f 6)) := x 6
      have x7 : wr.cell? ⟨w.heap.size, 7, none⟩ = some (.int .i64 (f 7)) := x 7
      have hcd : wr.cell? ⟨z, 82, none⟩ = some (.slice da D.length dcap) := hK.cd
      have nc : ¬ RAdr.foot ⟨z, hv, .slice da D.length dcap⟩ w.heap.size := fun e => by have := hfoot _ e; omega
      go_wp2_with fail
      refine (rdecides_any ⟨z, hv, .slice da D.length dcap⟩ S D f _ hK hO hl (rightC_of f hr)).mono ?_
      rintro e w3 ⟨r3, rfl, K3, T3, F3, q3⟩
      have s3 := T3.size
      have v : ∀ j, w3.cell? ⟨w.heap.size, j, none⟩ = (cmdC f)[j]? := fun j => (T3.cell (b := w.heap.size) (by omega) nc j).trans (x j)
      have y0 : w3.cell? ⟨w.heap.size + 1, 0, none⟩ = some (.int .i64 0) := (T3.cell (b := w.heap.size + 1) (by omega) n0 0).trans (y 0)
      have y1 : w3.cell? ⟨w.heap.size + 1, 1, none⟩ = some (.int .i64 0) := (T3.cell (b := w.heap.size + 1) (by omega) n0 1).trans (y 1)
      have fr0 : w3.frozen? ⟨w.heap.size + 1, 0, none⟩ = false := (World.frozen?_of_block (T3.block (w.heap.size + 1) (by omega) n0)).trans (fr 0)
      have fr1 : w3.frozen? ⟨w.heap.size + 1, 1, none⟩ = false := (World.frozen?_of_block (T3.block (w.heap.size + 1) (by omega) n0)).trans (fr 1)
      have TW := (Turned.ofBelow (F := RAdr.foot ⟨z, hv, .slice da D.length dcap⟩) B2).trans T3
      have F3' : ∀ k, r3.foot k → RAdr.foot ⟨z, hv, .slice da D.length dcap⟩ k ∨ w.heap.size ≤ k := fun k hk => by
        rcases F3 k hk with e | e
        · exact Or.inl e
        · exact Or.inr (by omega)
      have n3 : ¬ r3.foot (w.heap.size + 1) := fun e => by
        rcases F3 _ e with e | e
        · exact n0 e
        · omega
      clear hK h x y fr hb x0 x1 x2 x3 x4 x5 x6 x7 hcd hnew T3 B2
      have hS := dec_err S f hE
      rw [hS] at K3
      have hE' : ((dec S f).E == 0) = false := by simpa using hE
      have hE2 : ((dec S f).E != 0) = true := by simpa using hE
      generalize (dec S f).E = E at *
      generalize (dec S f).N = N at *
      obtain ⟨K4, T4⟩ := rans_set (r := ⟨z, hv, .slice da D.length dcap⟩) K3 TW (w.heap.size + 1) (Nat.le_succ _) n3 (.int .i64 E) (.int .i64 N)
      have p0 : ((w3.setCell ⟨w.heap.size + 1, 0, none⟩ (.int .i64 E)).setCell ⟨w.heap.size + 1, 1, none⟩ (.int .i64 N)).cell? ⟨w.heap.size + 1, 0, none⟩ = some (.int .i64 E) := by
        rw [World.cell?_setCell_other _ _ _ _ (off_ne (by omega))]
        exact World.cell?_setCell_same _ _ _ y0
      have p1 : ((w3.setCell ⟨w.heap.size + 1, 0, none⟩ (.int .i64 E)).setCell ⟨w.heap.size + 1, 1, none⟩ (.int .i64 N)).cell? ⟨w.heap.size + 1, 1, none⟩ = some (.int .i64 N) := by
        refine World.cell?_setCell_same' _ _ _ ?_
        rw [World.cell?_setCell_other _ _ _ _ (off_ne (by omega)), y1]
        rfl
      have B5 : Below ((w3.setCell ⟨w.heap.size + 1, 0, none⟩ (.int .i64 E)).setCell ⟨w.heap.size + 1, 1, none⟩ (.int .i64 N)).heap.size ((w3.setCell ⟨w.heap.size + 1, 0, none⟩ (.int .i64 E)).setCell ⟨w.heap.size + 1, 1, none⟩ (.int .i64 N)) (((w3.setCell ⟨w.heap.size + 1, 0, none⟩ (.int .i64 E)).setCell ⟨w.heap.size + 1, 1, none⟩ (.int .i64 N)).alloc (.cells #[.int .i64 E, .int .i64 N] 66)) := (Below.refl _ _).alloc (Nat.le_refl _) _
      have u0 := (B5.cell (p := ⟨w.heap.size + 1, 0, none⟩) (by simp; omega)).trans p0
      have u1 := (B5.cell (p := ⟨w.heap.size + 1, 1, none⟩) (by simp; omega)).trans p1
      have HK := hid (K4.below B5)
      have HT := hid (T4.thenBelow B5)
      have Q3 := hid q3
      have zz : w.heap.size + 1 < w3.heap.size := by omega
      have zn : ¬ w3.heap.size = w.heap.size + 1 := by omega
      have zn' : ¬ w.heap.size + 1 = w3.heap.size := by omega
      clear K3 TW v hS hE q3 B5 K4 T4 p0 p1
      go_wp2
      exact bodyPost_ret (v := ansV E N) (by simp [results, Tryz.results30, go_sem, u0, u1]) rfl (by rw [HX.out]; exact ⟨r3, D, rfl, HK.out, hD, HT.out, F3', Q3.out⟩)

end Go.Proofs.YtdblmheoghhepaaGreatDoor

/- The document's 'Do': a command that is accepted. -/
namespace Go.Proofs.YtdblmheoghhepaaGreatDoor
open Go.RowKit

theorem wp_append_at (w : World) {ops : Array Oper} {rest : List Oper} {o : Oper} {a : Act} {Q : Exit → Act → World → Prop} (hg : o.guard = none) (m x : Operand) (t : TypeId) (hop : o.op = Op.call { callee := Callee.builtin Builtin.append, args := #[m, x], argTypes := #[t, t] })
    (v sl : Value) (hm : a.eval m = v) (hx : a.eval x = sl) (v' : Value) (w' : World) (hr : (Builtin.append_ #[t, t] o.type #[v, sl]).run Tryz.prog w = .ok v' w')
    (hK : wpList Tryz.prog ops Q rest (a.put o.dst v') w') : wpList Tryz.prog ops Q (o :: rest) a w := by
  refine wpList_plain hg fun K hK' => ?_
  unfold Oper.wp execOp
  simp only [hop, resolve, invoke, builtin, Sem.run_bind, Sem.run_pure, Result.andThen_ok, List.map_toArray, List.map_cons, List.map_nil, hm, hx, hr]
  exact hK' _ _ hK

/-- The boxes of the call: the command's, the result's, the answer's. -/
structure Bx (W : World) (n b : Nat) (f : Nat → Int) (N : Int) : Prop where
  c : ∀ j, j < 8 → W.cell? ⟨n, j, none⟩ = some (.int .i64 (f j))
  y0 : W.cell? ⟨n + 1, 0, none⟩ = some (.int .i64 0)
  y1 : W.cell? ⟨n + 1, 1, none⟩ = some (.int .i64 0)
  f0 : W.frozen? ⟨n + 1, 0, none⟩ = false
  f1 : W.frozen? ⟨n + 1, 1, none⟩ = false
  a0 : W.cell? ⟨b, 0, none⟩ = some (.int .i64 0)
  a1 : W.cell? ⟨b, 1, none⟩ = some (.int .i64 N)
theorem Bx.same {W W' : World} {n b : Nat} {f : Nat → Int} {N : Int} (h : Bx W n b f N) (e1 : W'.heap[n]? = W.heap[n]?) (e2 : W'.heap[n + 1]? = W.heap[n + 1]?) (e3 : W'.heap[b]? = W.heap[b]?) : Bx W' n b f N :=
  ⟨fun j hj => (World.cell?_of_block (a := ⟨n, j, none⟩) e1).trans (h.c j hj), (World.cell?_of_block (a := ⟨n + 1, 0, none⟩) e2).trans h.y0, (World.cell?_of_block (a := ⟨n + 1, 1, none⟩) e2).trans h.y1, (World.frozen?_of_block (a := ⟨n + 1, 0, none⟩) e2).trans h.f0, (World.frozen?_of_block (a := ⟨n + 1, 1, none⟩) e2).trans h.f1, (World.cell?_of_block (a := ⟨b, 0, none⟩) e3).trans h.a0, (World.cell?_of_block (a := ⟨b, 1, none⟩) e3).trans h.a1⟩
theorem Bx.lt {W : World} {n b : Nat} {f : Nat → Int} {N : Int} (h : Bx W n b f N) : n < W.heap.size ∧ n + 1 < W.heap.size ∧ b < W.heap.size :=
  ⟨World.block_lt_of_cell? W ⟨n, 0, none⟩ (h.c 0 (by omega)), World.block_lt_of_cell? W ⟨n + 1, 0, none⟩ h.y0, World.block_lt_of_cell? W ⟨b, 0, none⟩ h.a0⟩
theorem Bx.turned {F : Nat → Prop} {W W' : World} {n b : Nat} {f : Nat → Int} {N : Int} (h : Bx W n b f N) (t : Turned F W W') (h1 : ¬ F n) (h2 : ¬ F (n + 1)) (h3 : ¬ F b) : Bx W' n b f N :=
  h.same (t.block n h.lt.1 h1) (t.block (n + 1) h.lt.2.1 h2) (t.block b h.lt.2.2 h3)
theorem Bx.below {W W' : World} {n b : Nat} {f : Nat → Int} {N : Int} (h : Bx W n b f N) (hb : Below W.heap.size W W') : Bx W' n b f N :=
  h.turned (F := fun _ => False) (Turned.ofBelow hb) (fun e => e) (fun e => e) (fun e => e)

theorem Turned.chain {F G : Nat → Prop} {w W W' : World} (h : Turned F w W) (hG : ∀ k, G k → F k ∨ w.heap.size ≤ k) (t : Turned G W W') : Turned F w W' :=
  ⟨t.os.trans h.os, t.tape.trans h.tape, t.output.trans h.output, Nat.le_trans h.size t.size, fun k hk hn => (t.block k (Nat.lt_of_lt_of_le hk h.size) (fun e => by
    rcases hG k e with x | x
    · exact hn x
    · omega)).trans (h.block k hk hn)⟩

/-- What the region of the append reads. -/
def LoadsD (z n b : Nat) (dv : Value) (f : Nat → Int) (N : Int) (w : World) : Prop := w.cell? ⟨z, 82, none⟩ = some dv ∧ Bx w n b f N

/-- The end of 'Do': the frame goes behind the journal, the answer is handed on. -/
theorem rdo_fin {w W W' : World} {z : Nat} {hv dv hv0 dv0 : Value} {now : Int} {P : Nat → Int} {H D' : List (Nat → Int)} {J J' : List Int} {n : Nat} {u v : Value}
    (K : RAt W ⟨z, hv, dv⟩ now P H D' J) (hn : ¬ RAdr.foot ⟨z, hv, dv⟩ (n + 1)) (T : Turned (RAdr.foot ⟨z, hv0, dv0⟩) w W) (hwn : w.heap.size ≤ n) (hW' : W' = ((W.setCell ⟨z, 83, none⟩ (.string (strOfNums J'))).setCell ⟨n + 1, 0, none⟩ u).setCell ⟨n + 1, 1, none⟩ v) :
    RAt W' ⟨z, hv, dv⟩ now P H D' J' ∧ Turned (RAdr.foot ⟨z, hv0, dv0⟩) w W' := by
  subst hW'
  have K1 := K.setJ J'
  have T1 := T.setCell (p := ⟨z, 83, none⟩) (Or.inl (Or.inl rfl)) (.string (strOfNums J'))
  refine ⟨K1.same (fun k hk => ?_), (T1.setCell (p := ⟨n + 1, 0, none⟩) (Or.inr (by show w.heap.size ≤ n + 1; omega)) _).setCell (p := ⟨n + 1, 1, none⟩) (Or.inr (by show w.heap.size ≤ n + 1; omega)) _⟩
  have hne : k ≠ n + 1 := fun e => hn (e ▸ hk)
  rw [Below.heap_setCell _ _ _ _ hne, Below.heap_setCell _ _ _ _ hne]

set_option maxRecDepth 100000 in
set_option maxHeartbeats 16000000 in
theorem rdo_yes (r : RAdr) (S : Led) (D : List (Nat → Int)) (f : Nat → Int) (w : World) (h : RLed w r S D) (hD : DOk S.A D) (hr : refOk f = true) (hO : LOk S) (hl : S.H.length ≤ 60) (hnew : ∀ d ∈ D, d 1 ≠ f 1) (hE : (dec S f).E = 0) (hJ : S.J.length ≤ 100000000000) (X : Dec) (HX : Hid (X = ⟨{ (dec S f).S with A := pushA S.A (ansRow f 0 (dec S f).N), J := S.J ++ bytesS (frS f) }, 0, (dec S f).N⟩)) :
    Calls Tryz.prog 30 #[.pointer (some ⟨r.q, 0, none⟩), cmdV f] w (RDone w r X) := by
  have hfoot : ∀ k, r.foot k → k < w.heap.size := fun k hk => h.foot_lt hk
  have n0 : ¬ r.foot (w.heap.size + 1) := fun e => by have := hfoot _ e; omega
  have eE : refE f = 0 := by unfold refE; rw [hr]; rfl
  obtain ⟨z, hv, dv⟩ := r
  obtain ⟨da, dcap, hdv⟩ := own_slice h.drow
  simp only at hdv ⊢
  subst hdv
  have hzl : z < w.heap.size := h.q_lt
  have l8 := hD.len
  go_enter Tryz.func30, Tryz.ntmps30
  go_wp2_with fail
  refine (refRight_any f _).mono ?_
  rw [eE]
  rintro e w2 ⟨rfl, hb2⟩
  clear eE
  go_wp2
  have HN := hid hnew
  go_loopw [6] (fun v wr => ∃ k : Nat, k ≤ D.length ∧ v = .int .i64 (k : Int) ∧ Below ((w.alloc (.cells (cmdC f) 33)).alloc (.cells #[.int .i64 0, .int .i64 0] 66)).heap.size ((w.alloc (.cells (cmdC f) 33)).alloc (.cells #[.int .i64 0, .int .i64 0] 66)) wr) (fun v _ => D.length - (intOf v).toNat)
  case atStart => exact ⟨0, Nat.zero_le _, rfl, hb2⟩
  case round =>
    clear hb2
    obtain ⟨k, hk, rfl, hb⟩ := hrel
    have hK : RLed wr ⟨z, hv, .slice da D.length dcap⟩ S D := h.below (two_boxes hb).2.2.2.2
    by_cases hkl : k < D.length
    · obtain ⟨d', hk'⟩ : ∃ d', D[k]? = some d' := ⟨D[k]'(by omega), List.getElem?_eq_getElem _⟩
      obtain ⟨gd, cd, ed, c0, c1, c2, c3, c4, c5, c6, c7, c8, c9, _⟩ := hK.dones hk'
      simp only [Value.slice.injEq] at ed
      obtain ⟨rfl, -, -⟩ := ed
      have hkI : (k : Int) < (D.length : Int) := by omega
      have hcd : wr.cell? ⟨z, 82, none⟩ = some (.slice (some ⟨gd, 0, none⟩) D.length dcap) := hK.cd
      obtain ⟨x, y, fr, sz, B2⟩ := two_boxes hb
      have x0 : wr.cell? ⟨w.heap.size, 0, none⟩ = some (.int .i64 (f 0)) := x 0
      have x1 : wr.cell? ⟨w.heap.size, 1, none⟩ = some (.int .i64 (f 1)) := x 1
      have x2 : wr.cell? ⟨w.heap.size, 2, none⟩ = some (.int .i64 (f 2)) := x 2
      have x3 : wr.cell? ⟨w.heap.size, 3, none⟩ = some (.int .i64 (f 3)) := x 3
      have x4 : wr.cell? ⟨w.heap.size, 4, none⟩ = some (.int .i64 (f 4)) := x 4
      have x5 : wr.cell? ⟨w.heap.size, 5, none⟩ = some (.int .i64 (f 5)) := x 5
      have x6 : wr.cell? ⟨w.heap.size, 6, none⟩ = some (.int .i64 (f 6)) := x 6
      have x7 : wr.cell? ⟨w.heap.size, 7, none⟩ = some (.int .i64 (f 7)) := x 7
      have y0 : wr.cell? ⟨w.heap.size + 1, 0, none⟩ = some (.int .i64 0) := y 0
      have y1 : wr.cell? ⟨w.heap.size + 1, 1, none⟩ = some (.int .i64 0) := y 1
      have fr0 := fr 0
      have fr1 := fr 1
      have hne := hnew d' (List.mem_of_getElem? hk')
      clear hK h x y fr hnew
      have hid1 : (d' 1 == f 1) = false := by simpa using hne
      by_cases e0 : d' 0 = f 0
      · rw [e0] at c0
        clear e0
        go_wp2
        go_region
        go_wp2
        go_region
        go_wp2
        go_roundw
        case rel => exact ⟨k + 1, by omega, by go_num, hb.drew.drew⟩
        case measure => simp [intOf]; omega
      · have e0' : (d' 0 == f 0) = false := by simpa using e0
        clear e0
        go_wp2
        go_region
        go_wp2
        go_region
        go_wp2
        go_roundw
        case rel => exact ⟨k + 1, by omega, by go_num, hb.drew.drew⟩
        case measure => simp [intOf]; omega
    · have ekl : k = D.length := by omega
      subst ekl
      obtain ⟨x, y, fr, sz, B2⟩ := two_boxes hb
      have x0 : wr.cell? ⟨w.heap.size, 0, none⟩ = some (.int .i64 (f 0)) := x 0
      have x1 : wr.cell? ⟨w.heap.size, 1, none⟩ = some (.int .i64 (f 1)) := x 1
      have x2 : wr.cell? ⟨w.heap.size, 2, none⟩ = some (.int .i64 (f 2)) := x 2
      have x3 : wr.cell? ⟨w.heap.size, 3, none⟩ = some (.int .i64 (f 3)) := x 3
      have x4 : wr.cell? ⟨w.heap.size, 4, none⟩ = some (.int .i64 (f 4)) := x 4
      have x5 : wr.cell? ⟨w.heap.size, 5, none⟩ = some (.int .i64 (f 5)) := x 5
      have x6 : wr.cell? ⟨w.heap.size, 6, none⟩ = some (.int .i64 (f 6)) := x 6
      have x7 : wr.cell? ⟨w.heap.size, 7, none⟩ = some (.int .i64 (f 7)) := x 7
      have hcd : wr.cell? ⟨z, 82, none⟩ = some (.slice da D.length dcap) := hK.cd
      have nc : ¬ RAdr.foot ⟨z, hv, .slice da D.length dcap⟩ w.heap.size := fun e => by have := hfoot _ e; omega
      go_wp2_with fail
      refine (rdecides_any ⟨z, hv, .slice da D.length dcap⟩ S D f _ hK hO hl (rightC_of f hr)).mono ?_
      rintro e w3 ⟨r3, rfl, K3, T3, F3, q3⟩
      have s3 := T3.size
      have v : ∀ j, w3.cell? ⟨w.heap.size, j, none⟩ = (cmdC f)[j]? := fun j => (T3.cell (b := w.heap.size) (by omega) nc j).trans (x j)
      have y0 : w3.cell? ⟨w.heap.size + 1, 0, none⟩ = some (.int .i64 0) := (T3.cell (b := w.heap.size + 1) (by omega) n0 0).trans (y 0)
      have y1 : w3.cell? ⟨w.heap.size + 1, 1, none⟩ = some (.int .i64 0) := (T3.cell (b := w.heap.size + 1) (by omega) n0 1).trans (y 1)
      have fr0 : w3.frozen? ⟨w.heap.size + 1, 0, none⟩ = false := (World.frozen?_of_block (T3.block (w.heap.size + 1) (by omega) n0)).trans (fr 0)
      have fr1 : w3.frozen? ⟨w.heap.size + 1, 1, none⟩ = false := (World.frozen?_of_block (T3.block (w.heap.size + 1) (by omega) n0)).trans (fr 1)
      have TW := (Turned.ofBelow (F := RAdr.foot ⟨z, hv, .slice da D.length dcap⟩) B2).trans T3
      have F3' : ∀ k, r3.foot k → RAdr.foot ⟨z, hv, .slice da D.length dcap⟩ k ∨ w.heap.size ≤ k := fun k hk => by
        rcases F3 k hk with e | e
        · exact Or.inl e
        · exact Or.inr (by omega)
      have n3 : ¬ r3.foot (w.heap.size + 1) := fun e => by
        rcases F3 _ e with e | e
        · exact n0 e
        · omega
      clear hK h x y fr hb x0 x1 x2 x3 x4 x5 x6 x7 hcd hnew T3 B2
      obtain ⟨hA3, hJ3⟩ := dec_AJ S f
      have hk0 := refOk_kind f hr
      have HDN := hid (dok_push (r := ansRow f 0 (dec S f).N) hD (by show f 0 ≠ 0; omega) HN.out)
      have hadd : ∀ W : World, (Op.stringOp .add (strOfNums S.J) (strOfNums (frT f))).run Tryz.prog W = .ok (.string (strOfNums (S.J ++ bytesS (frS f)))) W := fun W => by
        have hb : rightB f = true := by rw [right_ref]; exact hr
        have e1 : frT f = frameL f := if_pos hb
        have e2 : strOfNums (bytesS (frS f)) = strOfNums (frameL f) := bytesS_str _
        have e3 := frS_le f
        rw [e1, run_string_add_sum W _ _ (by rw [strOfNums_size]; unfold frS at e3; omega), ← str_add, e2]
      have HXX := hid (show X = ⟨⟨(dec S f).S.now, (dec S f).S.G, (dec S f).S.H, pushA S.A (ansRow f 0 (dec S f).N), S.J ++ bytesS (frS f)⟩, 0, (dec S f).N⟩ from HX.out)
      rw [hE]
      obtain ⟨z3, hv3, dv3⟩ := r3
      have q3' : z3 = z := q3
      subst q3'
      have K3' : RAt w3 ⟨z3, hv3, dv3⟩ (dec S f).S.now (pofG (dec S f).S.G) (dec S f).S.H D S.J := hJ3 ▸ K3
      obtain ⟨da3, dc3, hdv3⟩ := own_slice K3'.drow
      simp only at hdv3
      subst hdv3
      generalize (dec S f).N = N at *
      generalize (dec S f).S.now = now3 at *
      generalize (dec S f).S.G = G3 at *
      generalize (dec S f).S.H = H3 at *
      generalize hJJ : S.J ++ bytesS (frS f) = J' at *
      generalize S.J = J at *
      clear K3 hA3 hJ3 hE HX q3 hJJ
      have BX3 : Bx (w3.alloc (.cells #[.int .i64 0, .int .i64 N] 66)) w.heap.size w3.heap.size f N := by
        have B4 : Below w3.heap.size w3 (w3.alloc (.cells #[.int .i64 0, .int .i64 N] 66)) := (Below.refl _ _).alloc (Nat.le_refl _) _
        refine ⟨fun j hj => (B4.cell (p := ⟨w.heap.size, j, none⟩) (by show w.heap.size < _; omega)).trans ?_, (B4.cell (p := ⟨w.heap.size + 1, 0, none⟩) (by show w.heap.size + 1 < _; omega)).trans y0, (B4.cell (p := ⟨w.heap.size + 1, 1, none⟩) (by show w.heap.size + 1 < _; omega)).trans y1, (B4.frozen (p := ⟨w.heap.size + 1, 0, none⟩) (by show w.heap.size + 1 < _; omega)).trans fr0, (B4.frozen (p := ⟨w.heap.size + 1, 1, none⟩) (by show w.heap.size + 1 < _; omega)).trans fr1, by simp [go_sem], by simp [go_sem]⟩
        rw [v j]
        match j, hj with
        | 0, _ | 1, _ | 2, _ | 3, _ | 4, _ | 5, _ | 6, _ | 7, _ => rfl
      have K4 := K3'.below (w' := (w3.alloc (.cells #[.int .i64 0, .int .i64 N] 66))) ((Below.refl _ _).alloc (Nat.le_refl _) _)
      have TW4 := TW.alloc (.cells #[.int .i64 0, .int .i64 N] 66)
      have zl3 : z3 < w3.heap.size := K3'.q_lt
      have nb3 : ¬ RAdr.foot ⟨z3, hv3, .slice da3 D.length dc3⟩ w3.heap.size := fun e => by have := K3'.foot_lt e; omega
      have n3c : ¬ RAdr.foot ⟨z3, hv3, .slice da3 D.length dc3⟩ w.heap.size := fun e => by
        rcases F3 _ e with e | e
        · exact nc e
        · omega
      clear K3' TW v y0 y1 fr0 fr1 hk0
      have K5 := K4.below (w' := (((w3.alloc (.cells #[.int .i64 0, .int .i64 N] 66)).alloc (.cells #[.int .i64 (f 0), .int .i64 (f 1), .int .i64 (f 2), .int .i64 (f 3), .int .i64 (f 4), .int .i64 (f 5), .int .i64 (f 6), .int .i64 (f 7), .int .i64 0, .int .i64 N] 110)).drew)) (((Below.refl _ _).alloc (Nat.le_refl _) _).drew)
      obtain ⟨v5, w5, hr5, own5, g5, l5, gv, cv5, ev5⟩ := run_append_done (((w3.alloc (.cells #[.int .i64 0, .int .i64 N] 66)).alloc (.cells #[.int .i64 (f 0), .int .i64 (f 1), .int .i64 (f 2), .int .i64 (f 3), .int .i64 (f 4), .int .i64 (f 5), .int .i64 (f 6), .int .i64 (f 7), .int .i64 0, .int .i64 N] 110)).drew) 51 (.slice da3 D.length dc3) D (ansRow f 0 N) (w3.heap.size + 1) K5.drow (fun j hj => by
        have := World.cell?_alloc_new (w3.alloc (.cells #[.int .i64 0, .int .i64 N] 66)) #[.int .i64 (f 0), .int .i64 (f 1), .int .i64 (f 2), .int .i64 (f 3), .int .i64 (f 4), .int .i64 (f 5), .int .i64 (f 6), .int .i64 (f 7), .int .i64 0, .int .i64 N] 110 j
        simp only [World.size_alloc] at this
        show ((w3.alloc (.cells #[.int .i64 0, .int .i64 N] 66)).alloc (.cells #[.int .i64 (f 0), .int .i64 (f 1), .int .i64 (f 2), .int .i64 (f 3), .int .i64 (f 4), .int .i64 (f 5), .int .i64 (f 6), .int .i64 (f 7), .int .i64 0, .int .i64 N] 110)).cell? ⟨w3.heap.size + 1, j, none⟩ = _
        rw [this]
        match j, hj with
        | 0, _ | 1, _ | 2, _ | 3, _ | 4, _ | 5, _ | 6, _ | 7, _ | 8, _ | 9, _ => rfl) l8
      subst ev5
      have hcap5 : D.length + 1 ≤ cv5 := by
        rcases own5.2 with ⟨e, _⟩ | ⟨g, cap, cur, e, hg, hh, hc1, _⟩
        · cases e
        · simp only [Value.slice.injEq] at e
          obtain ⟨-, e2, e3⟩ := e
          omega
      obtain ⟨K6, T6, F6⟩ := K5.newD own5 g5 (Or.inr rfl) (Or.inr l5)
      simp only at K6 T6 F6
      have B45 : Below (w3.alloc (.cells #[.int .i64 0, .int .i64 N] 66)).heap.size (w3.alloc (.cells #[.int .i64 0, .int .i64 N] 66)) (((w3.alloc (.cells #[.int .i64 0, .int .i64 N] 66)).alloc (.cells #[.int .i64 (f 0), .int .i64 (f 1), .int .i64 (f 2), .int .i64 (f 3), .int .i64 (f 4), .int .i64 (f 5), .int .i64 (f 6), .int .i64 (f 7), .int .i64 0, .int .i64 N] 110)).drew) := ((Below.refl _ _).alloc (Nat.le_refl _) _).drew
      have BX5 := BX3.below B45
      have T55 : Turned (RAdr.foot ⟨z3, hv3, .slice da3 D.length dc3⟩) (((w3.alloc (.cells #[.int .i64 0, .int .i64 N] 66)).alloc (.cells #[.int .i64 (f 0), .int .i64 (f 1), .int .i64 (f 2), .int .i64 (f 3), .int .i64 (f 4), .int .i64 (f 5), .int .i64 (f 6), .int .i64 (f 7), .int .i64 0, .int .i64 N] 110)).drew) w5 := Turned.ofGrown g5 (fun k e => Or.inl (Or.inr (Or.inr e)))
      have BX5' := BX5.turned T55 n3c n3 nb3
      have BX6 := BX5.turned T6 n3c n3 nb3
      have ez : w5.heap[z3]? = (((w3.alloc (.cells #[.int .i64 0, .int .i64 N] 66)).alloc (.cells #[.int .i64 (f 0), .int .i64 (f 1), .int .i64 (f 2), .int .i64 (f 3), .int .i64 (f 4), .int .i64 (f 5), .int .i64 (f 6), .int .i64 (f 7), .int .i64 0, .int .i64 N] 110)).drew).heap[z3]? := g5.block z3 (by simp; omega) (fun e => K5.dap z3 e.symm rfl)
      have K82 : w5.cell? ⟨z3, 82, none⟩ = some (.slice da3 D.length dc3) := (World.cell?_of_block (a := ⟨z3, 82, none⟩) ez).trans K5.cd
      have HF82 : w5.frozen? ⟨z3, 82, none⟩ = false := (World.frozen?_of_block (a := ⟨z3, 82, none⟩) ez).trans (K5.free 82)
      have hS1 : LoadsD z3 w.heap.size w3.heap.size (.slice da3 D.length dc3) f N (w3.alloc (.cells #[.int .i64 0, .int .i64 N] 66)).drew := ⟨K4.cd, BX3.below (Below.refl _ _).drew⟩
      have hS2 : LoadsD z3 w.heap.size w3.heap.size (.slice da3 D.length dc3) f N (((w3.alloc (.cells #[.int .i64 0, .int .i64 N] 66)).alloc (.cells #[.int .i64 (f 0), .int .i64 (f 1), .int .i64 (f 2), .int .i64 (f 3), .int .i64 (f 4), .int .i64 (f 5), .int .i64 (f 6), .int .i64 (f 7), .int .i64 0, .int .i64 N] 110)).drew) := ⟨K5.cd, BX5⟩
      have hS3 : LoadsD z3 w.heap.size w3.heap.size (.slice da3 D.length dc3) f N w5 := ⟨K82, BX5'⟩
      have TWW := hid (show Turned (RAdr.foot ⟨z3, hv, .slice da D.length dcap⟩) w (w5.setCell ⟨z3, 82, none⟩ (.slice (some ⟨gv, 0, none⟩) (D.length + 1) cv5)) from ⟨by rw [T6.os]; exact TW4.os, by rw [T6.tape]; exact TW4.tape, by rw [T6.output]; exact TW4.output, Nat.le_trans TW4.size (Nat.le_trans (by simp) T6.size), fun k hk hn => by
        have hn3 : ¬ RAdr.foot ⟨z3, hv3, .slice da3 D.length dc3⟩ k := fun e => by
          rcases F3 _ e with e | e
          · exact hn e
          · omega
        have hk5 : k < (((w3.alloc (.cells #[.int .i64 0, .int .i64 N] 66)).alloc (.cells #[.int .i64 (f 0), .int .i64 (f 1), .int .i64 (f 2), .int .i64 (f 3), .int .i64 (f 4), .int .i64 (f 5), .int .i64 (f 6), .int .i64 (f 7), .int .i64 0, .int .i64 N] 110)).drew).heap.size := by simp; omega
        exact (T6.block k hk5 hn3).trans ((B45.block k (by simp; omega)).trans (TW4.block k hk hn))⟩)
      have FWW := hid (show ∀ k, RAdr.foot ⟨z3, hv3, .slice (some ⟨gv, 0, none⟩) (D.length + 1) cv5⟩ k → RAdr.foot ⟨z3, hv, .slice da D.length dcap⟩ k ∨ w.heap.size ≤ k from fun k hk => by
        rcases F6 k hk with e | e
        · exact F3' k e
        · simp at e
          exact Or.inr (by omega))
      have n6 : ¬ RAdr.foot ⟨z3, hv3, .slice (some ⟨gv, 0, none⟩) (D.length + 1) cv5⟩ (w.heap.size + 1) := fun e => by
        rcases F6 _ e with e | e
        · exact n3 e
        · simp at e
          omega
      have n6c : ¬ RAdr.foot ⟨z3, hv3, .slice (some ⟨gv, 0, none⟩) (D.length + 1) cv5⟩ w.heap.size := fun e => by
        rcases F6 _ e with e | e
        · exact n3c e
        · simp at e
          omega
      have n6b : ¬ RAdr.foot ⟨z3, hv3, .slice (some ⟨gv, 0, none⟩) (D.length + 1) cv5⟩ w3.heap.size := fun e => by
        rcases F6 _ e with e | e
        · exact nb3 e
        · simp at e
          omega
      clear own5 g5 l5 K5 T6 F6 B45 BX5 T55 BX5' ez K4 TW4
      obtain ⟨W6, hW6⟩ : ∃ W6, W6 = w5.setCell ⟨z3, 82, none⟩ (.slice (some ⟨gv, 0, none⟩) (D.length + 1) cv5) := ⟨_, rfl⟩
      rw [← hW6] at K6 BX6 TWW
      have h82 : W6.cell? ⟨z3, 82, none⟩ = some (.slice (some ⟨gv, 0, none⟩) (D.length + 1) cv5) := K6.cd
      have zn1 : ¬ z3 = w.heap.size + 1 := by omega
      have zn2 : ¬ w.heap.size + 1 = z3 := by omega
      have zb1 : ¬ z3 = w3.heap.size := by omega
      have zb2 : ¬ w3.heap.size = z3 := by omega
      have nb1 : ¬ w3.heap.size = w.heap.size + 1 := by omega
      have nb2 : ¬ w.heap.size + 1 = w3.heap.size := by omega
      by_cases h8 : 8 < D.length + 1
      · have h8I : (8 : Int) < (D.length : Int) + 1 := by omega
        have ED := hid (show last8 D (ansRow f 0 N) = (D ++ [ansRow f 0 N]).drop 1 from if_pos h8)
        have hc9 : 9 ≤ cv5 := by omega
        have hcs : ¬ cv5 = 1 := by omega
        have hcs2 : ¬ cv5 - 1 = 0 := by omega
        obtain ⟨v7, w7a, hr7, own7, g7, l7, g', c', ev7⟩ := run_append_rest W6 51 gv (D.length + 1) cv5 (D ++ [ansRow f 0 N]) K6.drow (by simp) (by omega) (by omega) (cv5 - 1)
        simp only [Nat.add_sub_cancel] at hr7 ev7
        subst ev7
        obtain ⟨K8, T8, F8⟩ := K6.newD own7 g7 (Or.inl rfl) (by rcases l7 with e | e <;> simp [e])
        simp only at K8 T8 F8
        have BX8 := BX6.turned T8 n6c n6 n6b
        have BXa := BX6.turned (Turned.ofGrown (F := fun _ => False) g7 (fun k e => by cases e)) (fun e => e) (fun e => e) (fun e => e)
        have ez7 : w7a.heap[z3]? = W6.heap[z3]? := g7.block z3 K6.q_lt (fun e => by cases e)
        have k82 : w7a.cell? ⟨z3, 82, none⟩ = some (.slice (some ⟨gv, 0, none⟩) (D.length + 1) cv5) := (World.cell?_of_block (a := ⟨z3, 82, none⟩) ez7).trans K6.cd
        have hf82 : w7a.frozen? ⟨z3, 82, none⟩ = false := (World.frozen?_of_block (a := ⟨z3, 82, none⟩) ez7).trans (K6.free 82)
        have T8' := TWW.out.chain FWW.out T8
        have FW8 := hid (show ∀ k, RAdr.foot ⟨z3, hv3, .slice (some ⟨g', 0, none⟩) D.length c'⟩ k → RAdr.foot ⟨z3, hv, .slice da D.length dcap⟩ k ∨ w.heap.size ≤ k from fun k hk => by
          rcases F8 k hk with e | e
          · exact FWW.out k e
          · exact Or.inr (Nat.le_trans TWW.out.size e))
        have n8 : ¬ RAdr.foot ⟨z3, hv3, .slice (some ⟨g', 0, none⟩) D.length c'⟩ (w.heap.size + 1) := fun e => by
          rcases F8 _ e with e | e
          · exact n6 e
          · have := BX6.lt.2.1
            omega
        have x0 := BXa.c 0 (by omega)
        have x1 := BXa.c 1 (by omega)
        have x2 := BXa.c 2 (by omega)
        have x3 := BXa.c 3 (by omega)
        have x4 := BXa.c 4 (by omega)
        have x5 := BXa.c 5 (by omega)
        have x6 := BXa.c 6 (by omega)
        have x7 := BXa.c 7 (by omega)
        have zc1 : ¬ z3 = w.heap.size := by omega
        have zc2 : ¬ w.heap.size = z3 := by omega
        clear own7 g7 l7 F8 T8 ez7 BXa
        go_wp2
        refine wp_region_E (LoadsD z3 w.heap.size w3.heap.size (.slice da3 D.length dc3) f N) 12 (by kernel_rfl) ?_
        refine wpAnyE_take (i := 0) (v := .pointer (some ⟨z3, 0, none⟩)) rfl (by kernel_rfl) (by kernel_rfl) (by kernel_rfl) (by kernel_rfl) (fun _ _ _ h => h) (by kernel_rfl) hS1 (by rfl) (fun w' hw => by obtain ⟨l0, lb⟩ := hw; obtain ⟨lc, ly0, ly1, lf0, lf1, la0, la1⟩ := lb; have lc0 := lc 0 (by omega); have lc1 := lc 1 (by omega); have lc2 := lc 2 (by omega); have lc3 := lc 3 (by omega); have lc4 := lc 4 (by omega); have lc5 := lc 5 (by omega); have lc6 := lc 6 (by omega); have lc7 := lc 7 (by omega); go_simp) ?_
        simp only [Act.put]
        refine wpAnyE_take (i := 1) (v := .pointer (some ⟨z3, 0, none⟩)) rfl (by kernel_rfl) (by kernel_rfl) (by kernel_rfl) (by kernel_rfl) (fun _ _ _ h => h) (by kernel_rfl) hS1 (by rfl) (fun w' hw => by obtain ⟨l0, lb⟩ := hw; obtain ⟨lc, ly0, ly1, lf0, lf1, la0, la1⟩ := lb; have lc0 := lc 0 (by omega); have lc1 := lc 1 (by omega); have lc2 := lc 2 (by omega); have lc3 := lc 3 (by omega); have lc4 := lc 4 (by omega); have lc5 := lc 5 (by omega); have lc6 := lc 6 (by omega); have lc7 := lc 7 (by omega); go_simp) ?_
        simp only [Act.put]
        refine wpAnyE_take (i := 2) (v := .pointer (some ⟨z3, 0, none⟩)) rfl (by kernel_rfl) (by kernel_rfl) (by kernel_rfl) (by kernel_rfl) (fun _ _ _ h => h) (by kernel_rfl) hS1 (by rfl) (fun w' hw => by obtain ⟨l0, lb⟩ := hw; obtain ⟨lc, ly0, ly1, lf0, lf1, la0, la1⟩ := lb; have lc0 := lc 0 (by omega); have lc1 := lc 1 (by omega); have lc2 := lc 2 (by omega); have lc3 := lc 3 (by omega); have lc4 := lc 4 (by omega); have lc5 := lc 5 (by omega); have lc6 := lc 6 (by omega); have lc7 := lc 7 (by omega); go_simp) ?_
        simp only [Act.put]
        refine wpAnyE_take (i := 3) (v := .pointer (some ⟨z3, 82, none⟩)) rfl (by kernel_rfl) (by kernel_rfl) (by kernel_rfl) (by kernel_rfl) (fun _ _ _ h => h) (by kernel_rfl) hS1 (by rfl) (fun w' hw => by obtain ⟨l0, lb⟩ := hw; obtain ⟨lc, ly0, ly1, lf0, lf1, la0, la1⟩ := lb; have lc0 := lc 0 (by omega); have lc1 := lc 1 (by omega); have lc2 := lc 2 (by omega); have lc3 := lc 3 (by omega); have lc4 := lc 4 (by omega); have lc5 := lc 5 (by omega); have lc6 := lc 6 (by omega); have lc7 := lc 7 (by omega); go_simp) ?_
        simp only [Act.put]
        refine wpAnyE_take (i := 4) (v := .slice da3 D.length dc3) rfl (by kernel_rfl) (by kernel_rfl) (by kernel_rfl) (by kernel_rfl) (fun _ _ _ h => h) (by kernel_rfl) hS1 (by rfl) (fun w' hw => by obtain ⟨l0, lb⟩ := hw; obtain ⟨lc, ly0, ly1, lf0, lf1, la0, la1⟩ := lb; have lc0 := lc 0 (by omega); have lc1 := lc 1 (by omega); have lc2 := lc 2 (by omega); have lc3 := lc 3 (by omega); have lc4 := lc 4 (by omega); have lc5 := lc 5 (by omega); have lc6 := lc 6 (by omega); have lc7 := lc 7 (by omega); go_simp) ?_
        simp only [Act.put]
        refine wpAnyE_take (i := 5) (v := cmdV f) rfl (by kernel_rfl) (by kernel_rfl) (by kernel_rfl) (by kernel_rfl) (fun _ _ _ h => h) (by kernel_rfl) hS1 (by rfl) (fun w' hw => by obtain ⟨l0, lb⟩ := hw; obtain ⟨lc, ly0, ly1, lf0, lf1, la0, la1⟩ := lb; have lc0 := lc 0 (by omega); have lc1 := lc 1 (by omega); have lc2 := lc 2 (by omega); have lc3 := lc 3 (by omega); have lc4 := lc 4 (by omega); have lc5 := lc 5 (by omega); have lc6 := lc 6 (by omega); have lc7 := lc 7 (by omega); go_simp) ?_
        simp only [Act.put]
        refine wpAnyE_take (i := 6) (v := ansV 0 N) rfl (by kernel_rfl) (by kernel_rfl) (by kernel_rfl) (by kernel_rfl) (fun _ _ _ h => h) (by kernel_rfl) hS1 (by rfl) (fun w' hw => by obtain ⟨l0, lb⟩ := hw; obtain ⟨lc, ly0, ly1, lf0, lf1, la0, la1⟩ := lb; have lc0 := lc 0 (by omega); have lc1 := lc 1 (by omega); have lc2 := lc 2 (by omega); have lc3 := lc 3 (by omega); have lc4 := lc 4 (by omega); have lc5 := lc 5 (by omega); have lc6 := lc 6 (by omega); have lc7 := lc 7 (by omega); go_simp) ?_
        simp only [Act.put]
        refine wpAnyE_take (i := 7) (v := .agg #[.int .i64 (f 0), .int .i64 (f 1), .int .i64 (f 2), .int .i64 (f 3), .int .i64 (f 4), .int .i64 (f 5), .int .i64 (f 6), .int .i64 (f 7), .int .i64 0, .int .i64 N]) rfl (by kernel_rfl) (by kernel_rfl) (by kernel_rfl) (by kernel_rfl) (fun _ _ _ h => h) (by kernel_rfl) hS1 (by rfl) (fun w' hw => by obtain ⟨l0, lb⟩ := hw; obtain ⟨lc, ly0, ly1, lf0, lf1, la0, la1⟩ := lb; have lc0 := lc 0 (by omega); have lc1 := lc 1 (by omega); have lc2 := lc 2 (by omega); have lc3 := lc 3 (by omega); have lc4 := lc 4 (by omega); have lc5 := lc 5 (by omega); have lc6 := lc 6 (by omega); have lc7 := lc 7 (by omega); go_simp) ?_
        simp only [Act.put]
        refine wpAnyE_one (i := 8) (v := .slice (some ⟨w3.heap.size + 1, 0, none⟩) 1 1) (w' := (((w3.alloc (.cells #[.int .i64 0, .int .i64 N] 66)).alloc (.cells #[.int .i64 (f 0), .int .i64 (f 1), .int .i64 (f 2), .int .i64 (f 3), .int .i64 (f 4), .int .i64 (f 5), .int .i64 (f 6), .int .i64 (f 7), .int .i64 0, .int .i64 N] 110)).drew)) rfl (by kernel_rfl) (by rfl) (by first | (go_simp; done) | (go_simp; rfl)) hS2 ?_
        simp only [Act.put]
        refine wpAnyE_append (i := 9) (d := 72) (ty := 51) (tys := #[51, 51]) (s := .tmp 67) (x := .tmp 71) (v := .slice da3 D.length dc3) (sl := .slice (some ⟨w3.heap.size + 1, 0, none⟩) 1 1) (v' := .slice (some ⟨gv, 0, none⟩) (D.length + 1) cv5) (w' := w5) (by kernel_rfl) (by kernel_rfl) (by go_simp) (by go_simp) hr5 hS3 ?_
        simp only [Act.put]
        refine wpAnyE_one (i := 10) (v := .pointer (some ⟨z3, 0, none⟩)) (w' := w5) rfl (by kernel_rfl) (by rfl) (by go_simp) hS3 ?_
        simp only [Act.put]
        refine wpAnyE_one (i := 11) (v := .pointer (some ⟨z3, 82, none⟩)) (w' := w5) rfl (by kernel_rfl) (by rfl) (by go_simp) hS3 ?_
        simp only [Act.put]
        refine wpAnyE_last (w' := W6) rfl (by kernel_rfl) (by kernel_rfl) (by rfl) (by rw [hW6]; go_simp) ?_
        simp only [Act.put]
        clear hS1 hS2 hS3 hr5 K82 HF82 hW6
        go_wp2_with (at_builtin; refine wp_append_at _ rfl _ _ 51 rfl _ _ rfl rfl _ _ hr7 ?_)
        refine (refFrame_any f _).mono ?_
        rintro e w9 ⟨rfl, hb9⟩
        have K9 := K8.below hb9
        have BX9 := BX8.below hb9
        have T9 := T8'.thenBelow hb9
        clear x0 x1 x2 x3 x4 x5 x6 x7 K8 BX8 T8' k82 hf82 hr7
        have c83 : w9.cell? ⟨z3, 83, none⟩ = some (.string (strOfNums J)) := K9.cj
        have f83 : w9.frozen? ⟨z3, 83, none⟩ = false := K9.free 83
        obtain ⟨bc, by0, by1, bf0, bf1, ba0, ba1⟩ := BX9
        have p0 : (((w9.setCell ⟨z3, 83, none⟩ (.string (strOfNums J'))).setCell ⟨w.heap.size + 1, 0, none⟩ (.int .i64 0)).setCell ⟨w.heap.size + 1, 1, none⟩ (.int .i64 N)).cell? ⟨w.heap.size + 1, 0, none⟩ = some (.int .i64 0) := by
          rw [World.cell?_setCell_other _ _ _ _ (off_ne (by omega))]
          refine World.cell?_setCell_same' _ _ _ ?_
          rw [World.cell?_setCell_other _ _ _ _ (fun e => zn1 (congrArg Addr.block e)), by0]
          rfl
        have p1 : (((w9.setCell ⟨z3, 83, none⟩ (.string (strOfNums J'))).setCell ⟨w.heap.size + 1, 0, none⟩ (.int .i64 0)).setCell ⟨w.heap.size + 1, 1, none⟩ (.int .i64 N)).cell? ⟨w.heap.size + 1, 1, none⟩ = some (.int .i64 N) := by
          refine World.cell?_setCell_same' _ _ _ ?_
          rw [World.cell?_setCell_other _ _ _ _ (off_ne (by omega)), World.cell?_setCell_other _ _ _ _ (fun e => zn1 (congrArg Addr.block e)), by1]
          rfl
        obtain ⟨KF, TF⟩ := rdo_fin (n := w.heap.size) K9 n8 T9 (Nat.le_refl _) rfl (J' := J') (u := .int .i64 0) (v := .int .i64 N)
        clear K9 T9 BX6 K6 hb9 h82 bc
        go_wp2
        exact bodyPost_ret (v := ansV 0 N) (by simp [results, Tryz.results30, go_sem, p0, p1]) rfl (by rw [HXX.out]; exact ⟨_, _, rfl, KF, by rw [← ED.out]; exact HDN.out, TF, FW8.out, rfl⟩)
      · have h8I : ¬ (8 : Int) < (D.length : Int) + 1 := by omega
        have ED := hid (show last8 D (ansRow f 0 N) = D ++ [ansRow f 0 N] from if_neg h8)
        have x0 := BX6.c 0 (by omega)
        have x1 := BX6.c 1 (by omega)
        have x2 := BX6.c 2 (by omega)
        have x3 := BX6.c 3 (by omega)
        have x4 := BX6.c 4 (by omega)
        have x5 := BX6.c 5 (by omega)
        have x6 := BX6.c 6 (by omega)
        have x7 := BX6.c 7 (by omega)
        go_wp2
        refine wp_region_E (LoadsD z3 w.heap.size w3.heap.size (.slice da3 D.length dc3) f N) 12 (by kernel_rfl) ?_
        refine wpAnyE_take (i := 0) (v := .pointer (some ⟨z3, 0, none⟩)) rfl (by kernel_rfl) (by kernel_rfl) (by kernel_rfl) (by kernel_rfl) (fun _ _ _ h => h) (by kernel_rfl) hS1 (by rfl) (fun w' hw => by obtain ⟨l0, lb⟩ := hw; obtain ⟨lc, ly0, ly1, lf0, lf1, la0, la1⟩ := lb; have lc0 := lc 0 (by omega); have lc1 := lc 1 (by omega); have lc2 := lc 2 (by omega); have lc3 := lc 3 (by omega); have lc4 := lc 4 (by omega); have lc5 := lc 5 (by omega); have lc6 := lc 6 (by omega); have lc7 := lc 7 (by omega); go_simp) ?_
        simp only [Act.put]
        refine wpAnyE_take (i := 1) (v := .pointer (some ⟨z3, 0, none⟩)) rfl (by kernel_rfl) (by kernel_rfl) (by kernel_rfl) (by kernel_rfl) (fun _ _ _ h => h) (by kernel_rfl) hS1 (by rfl) (fun w' hw => by obtain ⟨l0, lb⟩ := hw; obtain ⟨lc, ly0, ly1, lf0, lf1, la0, la1⟩ := lb; have lc0 := lc 0 (by omega); have lc1 := lc 1 (by omega); have lc2 := lc 2 (by omega); have lc3 := lc 3 (by omega); have lc4 := lc 4 (by omega); have lc5 := lc 5 (by omega); have lc6 := lc 6 (by omega); have lc7 := lc 7 (by omega); go_simp) ?_
        simp only [Act.put]
        refine wpAnyE_take (i := 2) (v := .pointer (some ⟨z3, 0, none⟩)) rfl (by kernel_rfl) (by kernel_rfl) (by kernel_rfl) (by kernel_rfl) (fun _ _ _ h => h) (by kernel_rfl) hS1 (by rfl) (fun w' hw => by obtain ⟨l0, lb⟩ := hw; obtain ⟨lc, ly0, ly1, lf0, lf1, la0, la1⟩ := lb; have lc0 := lc 0 (by omega); have lc1 := lc 1 (by omega); have lc2 := lc 2 (by omega); have lc3 := lc 3 (by omega); have lc4 := lc 4 (by omega); have lc5 := lc 5 (by omega); have lc6 := lc 6 (by omega); have lc7 := lc 7 (by omega); go_simp) ?_
        simp only [Act.put]
        refine wpAnyE_take (i := 3) (v := .pointer (some ⟨z3, 82, none⟩)) rfl (by kernel_rfl) (by kernel_rfl) (by kernel_rfl) (by kernel_rfl) (fun _ _ _ h => h) (by kernel_rfl) hS1 (by rfl) (fun w' hw => by obtain ⟨l0, lb⟩ := hw; obtain ⟨lc, ly0, ly1, lf0, lf1, la0, la1⟩ := lb; have lc0 := lc 0 (by omega); have lc1 := lc 1 (by omega); have lc2 := lc 2 (by omega); have lc3 := lc 3 (by omega); have lc4 := lc 4 (by omega); have lc5 := lc 5 (by omega); have lc6 := lc 6 (by omega); have lc7 := lc 7 (by omega); go_simp) ?_
        simp only [Act.put]
        refine wpAnyE_take (i := 4) (v := .slice da3 D.length dc3) rfl (by kernel_rfl) (by kernel_rfl) (by kernel_rfl) (by kernel_rfl) (fun _ _ _ h => h) (by kernel_rfl) hS1 (by rfl) (fun w' hw => by obtain ⟨l0, lb⟩ := hw; obtain ⟨lc, ly0, ly1, lf0, lf1, la0, la1⟩ := lb; have lc0 := lc 0 (by omega); have lc1 := lc 1 (by omega); have lc2 := lc 2 (by omega); have lc3 := lc 3 (by omega); have lc4 := lc 4 (by omega); have lc5 := lc 5 (by omega); have lc6 := lc 6 (by omega); have lc7 := lc 7 (by omega); go_simp) ?_
        simp only [Act.put]
        refine wpAnyE_take (i := 5) (v := cmdV f) rfl (by kernel_rfl) (by kernel_rfl) (by kernel_rfl) (by kernel_rfl) (fun _ _ _ h => h) (by kernel_rfl) hS1 (by rfl) (fun w' hw => by obtain ⟨l0, lb⟩ := hw; obtain ⟨lc, ly0, ly1, lf0, lf1, la0, la1⟩ := lb; have lc0 := lc 0 (by omega); have lc1 := lc 1 (by omega); have lc2 := lc 2 (by omega); have lc3 := lc 3 (by omega); have lc4 := lc 4 (by omega); have lc5 := lc 5 (by omega); have lc6 := lc 6 (by omega); have lc7 := lc 7 (by omega); go_simp) ?_
        simp only [Act.put]
        refine wpAnyE_take (i := 6) (v := ansV 0 N) rfl (by kernel_rfl) (by kernel_rfl) (by kernel_rfl) (by kernel_rfl) (fun _ _ _ h => h) (by kernel_rfl) hS1 (by rfl) (fun w' hw => by obtain ⟨l0, lb⟩ := hw; obtain ⟨lc, ly0, ly1, lf0, lf1, la0, la1⟩ := lb; have lc0 := lc 0 (by omega); have lc1 := lc 1 (by omega); have lc2 := lc 2 (by omega); have lc3 := lc 3 (by omega); have lc4 := lc 4 (by omega); have lc5 := lc 5 (by omega); have lc6 := lc 6 (by omega); have lc7 := lc 7 (by omega); go_simp) ?_
        simp only [Act.put]
        refine wpAnyE_take (i := 7) (v := .agg #[.int .i64 (f 0), .int .i64 (f 1), .int .i64 (f 2), .int .i64 (f 3), .int .i64 (f 4), .int .i64 (f 5), .int .i64 (f 6), .int .i64 (f 7), .int .i64 0, .int .i64 N]) rfl (by kernel_rfl) (by kernel_rfl) (by kernel_rfl) (by kernel_rfl) (fun _ _ _ h => h) (by kernel_rfl) hS1 (by rfl) (fun w' hw => by obtain ⟨l0, lb⟩ := hw; obtain ⟨lc, ly0, ly1, lf0, lf1, la0, la1⟩ := lb; have lc0 := lc 0 (by omega); have lc1 := lc 1 (by omega); have lc2 := lc 2 (by omega); have lc3 := lc 3 (by omega); have lc4 := lc 4 (by omega); have lc5 := lc 5 (by omega); have lc6 := lc 6 (by omega); have lc7 := lc 7 (by omega); go_simp) ?_
        simp only [Act.put]
        refine wpAnyE_one (i := 8) (v := .slice (some ⟨w3.heap.size + 1, 0, none⟩) 1 1) (w' := (((w3.alloc (.cells #[.int .i64 0, .int .i64 N] 66)).alloc (.cells #[.int .i64 (f 0), .int .i64 (f 1), .int .i64 (f 2), .int .i64 (f 3), .int .i64 (f 4), .int .i64 (f 5), .int .i64 (f 6), .int .i64 (f 7), .int .i64 0, .int .i64 N] 110)).drew)) rfl (by kernel_rfl) (by rfl) (by first | (go_simp; done) | (go_simp; rfl)) hS2 ?_
        simp only [Act.put]
        refine wpAnyE_append (i := 9) (d := 72) (ty := 51) (tys := #[51, 51]) (s := .tmp 67) (x := .tmp 71) (v := .slice da3 D.length dc3) (sl := .slice (some ⟨w3.heap.size + 1, 0, none⟩) 1 1) (v' := .slice (some ⟨gv, 0, none⟩) (D.length + 1) cv5) (w' := w5) (by kernel_rfl) (by kernel_rfl) (by go_simp) (by go_simp) hr5 hS3 ?_
        simp only [Act.put]
        refine wpAnyE_one (i := 10) (v := .pointer (some ⟨z3, 0, none⟩)) (w' := w5) rfl (by kernel_rfl) (by rfl) (by go_simp) hS3 ?_
        simp only [Act.put]
        refine wpAnyE_one (i := 11) (v := .pointer (some ⟨z3, 82, none⟩)) (w' := w5) rfl (by kernel_rfl) (by rfl) (by go_simp) hS3 ?_
        simp only [Act.put]
        refine wpAnyE_last (w' := W6) rfl (by kernel_rfl) (by kernel_rfl) (by rfl) (by rw [hW6]; go_simp) ?_
        simp only [Act.put]
        clear hS1 hS2 hS3 hr5 K82 HF82 hW6
        go_wp2_with fail
        refine (refFrame_any f _).mono ?_
        rintro e w7 ⟨rfl, hb7⟩
        have K7 := K6.below hb7
        have BX7 := BX6.below hb7
        have T7 := TWW.out.thenBelow hb7
        have c83 : w7.cell? ⟨z3, 83, none⟩ = some (.string (strOfNums J)) := K7.cj
        have f83 : w7.frozen? ⟨z3, 83, none⟩ = false := K7.free 83
        obtain ⟨bc, by0, by1, bf0, bf1, ba0, ba1⟩ := BX7
        have p0 : (((w7.setCell ⟨z3, 83, none⟩ (.string (strOfNums J'))).setCell ⟨w.heap.size + 1, 0, none⟩ (.int .i64 0)).setCell ⟨w.heap.size + 1, 1, none⟩ (.int .i64 N)).cell? ⟨w.heap.size + 1, 0, none⟩ = some (.int .i64 0) := by
          rw [World.cell?_setCell_other _ _ _ _ (off_ne (by omega))]
          refine World.cell?_setCell_same' _ _ _ ?_
          rw [World.cell?_setCell_other _ _ _ _ (fun e => zn1 (congrArg Addr.block e)), by0]
          rfl
        have p1 : (((w7.setCell ⟨z3, 83, none⟩ (.string (strOfNums J'))).setCell ⟨w.heap.size + 1, 0, none⟩ (.int .i64 0)).setCell ⟨w.heap.size + 1, 1, none⟩ (.int .i64 N)).cell? ⟨w.heap.size + 1, 1, none⟩ = some (.int .i64 N) := by
          refine World.cell?_setCell_same' _ _ _ ?_
          rw [World.cell?_setCell_other _ _ _ _ (off_ne (by omega)), World.cell?_setCell_other _ _ _ _ (fun e => zn1 (congrArg Addr.block e)), by1]
          rfl
        obtain ⟨KF, TF⟩ := rdo_fin (n := w.heap.size) K7 n6 T7 (Nat.le_refl _) rfl (J' := J') (u := .int .i64 0) (v := .int .i64 N)
        clear K7 T7 BX6 K6 hb7 x0 x1 x2 x3 x4 x5 x6 x7 h82 bc
        go_wp2
        exact bodyPost_ret (v := ansV 0 N) (by simp [results, Tryz.results30, go_sem, p0, p1]) rfl (by rw [HXX.out]; exact ⟨_, _, rfl, KF, by rw [← ED.out]; exact HDN.out, TF, FWW.out, rfl⟩)

end Go.Proofs.YtdblmheoghhepaaGreatDoor

/- The document's 'Do' at any command. -/
namespace Go.Proofs.YtdblmheoghhepaaGreatDoor
open Go.RowKit

theorem rdo_any (r : RAdr) (S : Led) (D : List (Nat → Int)) (f : Nat → Int) (w : World) (h : RLed w r S D) (hO : LOk S) (hD : DOk S.A D) (hl : S.H.length ≤ 60) (hJ : S.J.length ≤ 100000000000) :
    Calls Tryz.prog 30 #[.pointer (some ⟨r.q, 0, none⟩), cmdV f] w (RDone w r (doD S f)) := by
  cases hr : refOk f with
  | false =>
    have e : doD S f = ⟨S, 1, 0⟩ := by unfold doD; rw [hr]; rfl
    rw [e]
    exact rdo_wrong r S D f w h hD hr
  | true =>
    by_cases hx : ∃ d ∈ D, d 1 = f 1
    · obtain ⟨d, hd, h1⟩ := hx
      obtain ⟨i, hi⟩ := List.getElem?_of_mem hd
      obtain ⟨k, hk, hrow⟩ := dok_hit hD hi h1
      have hb : ∀ (j : Nat) (x : Nat → Int), j < i → D[j]? = some x → x 1 ≠ f 1 := fun j x hj hx e => by
        have := hD.ids _ _ _ _ (rev_at hx) (rev_at hi) (e.trans h1.symm)
        have hl1 : j < D.length := (List.getElem?_eq_some_iff.1 hx).1
        have hl2 : i < D.length := (List.getElem?_eq_some_iff.1 hi).1
        omega
      have hs : same8 (rowA S.A k) f = same8 d f := by
        unfold same8
        rw [hrow 0 (by omega), hrow 1 (by omega), hrow 2 (by omega), hrow 3 (by omega), hrow 4 (by omega), hrow 5 (by omega), hrow 6 (by omega), hrow 7 (by omega)]
      have e : doD S f = if same8 d f = true then ⟨S, d 8, d 9⟩ else ⟨S, 1, 0⟩ := by
        unfold doD
        rw [if_pos hr, hk]
        simp only [hs, hrow 8 (by omega), hrow 9 (by omega)]
      exact rdo_hit r S D f w h hD hr i d hi h1 hb (doD S f) e
    · have hn : ∀ d ∈ D, d 1 ≠ f 1 := fun d hd e => hx ⟨d, hd, e⟩
      have hm := dok_miss hD hn
      by_cases hE : (dec S f).E = 0
      · have e : doD S f = ⟨{ (dec S f).S with A := pushA S.A (ansRow f 0 (dec S f).N), J := S.J ++ bytesS (frS f) }, 0, (dec S f).N⟩ := by
          unfold doD
          rw [if_pos hr, hm]
          simp only [hE, if_true]
        exact rdo_yes r S D f w h hD hr hO hl hn hE hJ (doD S f) e
      · have e : doD S f = ⟨S, (dec S f).E, (dec S f).N⟩ := by
          unfold doD
          rw [if_pos hr, hm]
          simp only [hE, if_false]
        exact rdo_no r S D f w h hD hr hO hl hn hE (doD S f) e

end Go.Proofs.YtdblmheoghhepaaGreatDoor
