/- The document's ledger: 'promises'; 'decides' of a promise. -/
import Derived.Test.YtdblmheoghhepaaGreatDoorKRefTick
import Derived.Test.YtdblmheoghhepaaGreatDoorKPhase
import Derived.Maps.AppendAt
namespace Go.Proofs.YtdblmheoghhepaaGreatDoor
open Go.RowKit

/-- Two boxes that were made behind w, in a later world. -/
theorem two_boxes {w w2 : World} {C1 C2 : Array Value} {t1 t2 : TypeId} (hb : Below ((w.alloc (.cells C1 t1)).alloc (.cells C2 t2)).heap.size ((w.alloc (.cells C1 t1)).alloc (.cells C2 t2)) w2) :
    (∀ j, w2.cell? ⟨w.heap.size, j, none⟩ = C1[j]?) ∧ (∀ j, w2.cell? ⟨w.heap.size + 1, j, none⟩ = C2[j]?) ∧ (∀ j, w2.frozen? ⟨w.heap.size + 1, j, none⟩ = false) ∧ w.heap.size + 2 ≤ w2.heap.size ∧ Below w.heap.size w w2 := by
  have hs := hb.size
  simp only [World.size_alloc] at hs
  refine ⟨fun j => ?_, fun j => ?_, fun j => ?_, by omega, (((Below.refl _ _).alloc (Nat.le_refl _) _).alloc (by simp) _).trans (hb.mono (by simp; omega))⟩
  · rw [hb.cell (p := ⟨w.heap.size, j, none⟩) (by simp; omega), World.cell?_alloc_past _ _ _ (by simp), World.cell?_alloc_new]
  · rw [hb.cell (p := ⟨w.heap.size + 1, j, none⟩) (by simp)]
    have := World.cell?_alloc_new (w.alloc (.cells C1 t1)) C2 t2 j
    simpa only [World.size_alloc] using this
  · rw [hb.frozen (p := ⟨w.heap.size + 1, j, none⟩) (by simp)]
    have := free_new (w.alloc (.cells C1 t1)) C2 t2 j
    simpa only [World.size_alloc] using this

theorem RAt.push {w w1 : World} {r : RAdr} {now : Int} {P : Nat → Int} {v' : Value} {H H' D : List (Nat → Int)} {J : List Int} (h : RAt w r now P H D J) (hown : w1.ownsRow 0 57 8 v' H'.length (H'.flatMap hc)) (hg : w.grownBy w1 r.hv.ownBlock) (hl : v'.ownBlock = r.hv.ownBlock ∨ v'.ownBlock = some w.heap.size) :
    RAt (w1.setCell ⟨r.q, 81, none⟩ v') ⟨r.q, v', r.dv⟩ now P H' D J ∧ Turned r.foot w (w1.setCell ⟨r.q, 81, none⟩ v') ∧ (∀ k, RAdr.foot ⟨r.q, v', r.dv⟩ k → r.foot k ∨ w.heap.size ≤ k) := by
  have hql := h.q_lt
  have eb : w1.heap[r.q]? = w.heap[r.q]? := hg.block r.q hql (fun e => (h.hap r.q e.symm).1 rfl)
  have hap : ∀ k, v'.ownBlock = some k → k ≠ r.q ∧ r.dv.ownBlock ≠ some k := fun k hk => by
    rcases hl with e | e
    · exact h.hap k (e ▸ hk)
    · have : some k = some w.heap.size := hk.symm.trans e
      cases this
      exact ⟨by omega, fun e => by have := own_blt h.drow e; omega⟩
  have hdb : ∀ k, r.dv.ownBlock = some k → w1.heap[k]? = w.heap[k]? := fun k hk => hg.block k (own_blt h.drow hk) (fun e => (h.hap k e.symm).2 hk)
  refine ⟨⟨?_, nums_other (h.nums.same eb) (by omega) _, World.cell?_setCell_same _ _ _ ((World.cell?_of_block (a := ⟨r.q, 81, none⟩) eb).trans h.ch), ?_, ?_, fun j => ?_, own_same hown (fun k hk => Below.heap_setCell _ _ _ _ (hap k hk).1), own_same (own_same h.drow hdb) (fun k hk => Below.heap_setCell _ _ _ _ (h.dap k hk)), hap, h.dap⟩, ?_, ?_⟩
  · rw [World.cell?_setCell_other _ _ _ _ (off_ne (by omega))]; exact (World.cell?_of_block (a := ⟨r.q, 0, none⟩) eb).trans h.c0
  · rw [World.cell?_setCell_other _ _ _ _ (off_ne (by omega))]; exact (World.cell?_of_block (a := ⟨r.q, 82, none⟩) eb).trans h.cd
  · rw [World.cell?_setCell_other _ _ _ _ (off_ne (by omega))]; exact (World.cell?_of_block (a := ⟨r.q, 83, none⟩) eb).trans h.cj
  · rw [World.frozen?_setCell]; exact (World.frozen?_of_block (a := ⟨r.q, j, none⟩) eb).trans (h.free j)
  · exact (Turned.ofGrown (F := r.foot) hg (fun k e => Or.inl (Or.inr (Or.inl e)))).setCell (p := ⟨r.q, 81, none⟩) (Or.inl (Or.inl rfl)) _
  · rintro k (e | e | e)
    · exact Or.inl (Or.inl e)
    · rcases hl with e' | e'
      · exact Or.inl (Or.inr (Or.inl (e' ▸ e)))
      · right
        have : some k = some w.heap.size := e.symm.trans e'
        cases this
        exact Nat.le_refl _
    · exact Or.inl (Or.inr (Or.inr e))

set_option maxRecDepth 100000 in
set_option maxHeartbeats 4000000 in
theorem rprom_many (r : RAdr) (S : Led) (D : List (Nat → Int)) (id q t : Int) (g c d : Nat) (w : World) (h : RLed w r S D) (hm : 60 ≤ S.H.length) :
    Calls Tryz.prog 81 #[.pointer (some ⟨r.q, 0, none⟩), cv 4 id g c d q 0 t] w (RDecd w r S D 2 0) := by
  obtain ⟨z, hv, dv⟩ := r
  obtain ⟨ha, hcap, hvs⟩ := own_slice h.hrow
  simp only at hvs ⊢
  subst hvs
  have hzl : z < w.heap.size := h.q_lt
  have hch : w.cell? ⟨z, 81, none⟩ = some (.slice ha S.H.length hcap) := h.ch
  have hmI : (60 : Int) ≤ (S.H.length : Int) := by omega
  have HH := hid h
  clear h hm
  go_enter Tryz.func81, Tryz.ntmps81
  go_wp2
  exact bodyPost_ret (v := ansV 2 0) (by simp [results, Tryz.results81, go_sem]) rfl ⟨_, rfl, HH.out.below (((Below.refl _ _).alloc (Nat.le_refl _) _).alloc (by simp) _), Turned.ofBelow (((Below.refl _ _).alloc (Nat.le_refl _) _).alloc (by simp) _), fun k hk => Or.inl hk, rfl⟩

set_option maxRecDepth 100000 in
set_option maxHeartbeats 8000000 in
theorem rprom_share (r : RAdr) (S : Led) (D : List (Nat → Int)) (id q t : Int) (g c d : Nat) (w : World) (h : RLed w r S D) (hO : LOk S) (hg : g < 4) (hc3 : c < 3) (_ : d < 16) (hm : ¬ 60 ≤ S.H.length) (hf : freeS S g c < q) :
    Calls Tryz.prog 81 #[.pointer (some ⟨r.q, 0, none⟩), cv 4 id g c d q 0 t] w (RDecd w r S D 4 0) := by
  have hfoot : ∀ k, r.foot k → k < w.heap.size := fun k hk => h.foot_lt hk
  obtain ⟨z, hv, dv⟩ := r
  obtain ⟨ha, hcap, hvs⟩ := own_slice h.hrow
  simp only at hvs ⊢
  subst hvs
  have hzl : z < w.heap.size := h.q_lt
  have hch : w.cell? ⟨z, 81, none⟩ = some (.slice ha S.H.length hcap) := h.ch
  have hmI : ¬ (60 : Int) ≤ (S.H.length : Int) := by omega
  have n0 : ¬ RAdr.foot ⟨z, .slice ha S.H.length hcap, dv⟩ (w.heap.size + 1) := fun e => by have := hfoot _ e; omega
  have h1 : RLed ((w.alloc (.cells (cc 4 id g c d q 0 t) 33)).alloc (.cells #[.int .i64 0, .int .i64 0] 66)) ⟨z, .slice ha S.H.length hcap, dv⟩ S D := h.below (((Below.refl _ _).alloc (Nat.le_refl _) _).alloc (by simp) _)
  clear h
  go_enter Tryz.func81, Tryz.ntmps81
  go_wp2_with fail
  refine (rfree_any ⟨z, .slice ha S.H.length hcap, dv⟩ S D g c _ h1 hO (by omega) hg hc3).mono ?_
  rintro e w2 ⟨rfl, hb2⟩
  have h2 := h1.below hb2
  obtain ⟨x, y, fr, sz, B2⟩ := two_boxes hb2
  have x2 : w2.cell? ⟨w.heap.size, 2, none⟩ = some (.int .i64 g) := x 2
  have x4 : w2.cell? ⟨w.heap.size, 4, none⟩ = some (.int .i64 d) := x 4
  have x5 : w2.cell? ⟨w.heap.size, 5, none⟩ = some (.int .i64 q) := x 5
  have y0 : w2.cell? ⟨w.heap.size + 1, 0, none⟩ = some (.int .i64 0) := y 0
  have y1 : w2.cell? ⟨w.heap.size + 1, 1, none⟩ = some (.int .i64 0) := y 1
  have fr0 := fr 0
  have fr1 := fr 1
  obtain ⟨K4, T4⟩ := rans_set (r := ⟨z, .slice ha S.H.length hcap, dv⟩) h2 (Turned.ofBelow B2) (w.heap.size + 1) (Nat.le_succ _) n0 (.int .i64 4) (.int .i64 0)
  clear h1 h2 hb2 B2 x y fr hch hO
  go_wp2
  exact bodyPost_ret (v := ansV 4 0) (by simp [results, Tryz.results81, go_sem, y0, y1]) rfl ⟨_, rfl, K4, T4, fun k hk => Or.inl hk, rfl⟩

set_option maxRecDepth 100000 in
set_option maxHeartbeats 8000000 in
theorem rprom_stock (r : RAdr) (S : Led) (D : List (Nat → Int)) (id q t : Int) (g c d : Nat) (w : World) (h : RLed w r S D) (hO : LOk S) (hg : g < 4) (hc3 : c < 3) (hd : d < 16) (hm : ¬ 60 ≤ S.H.length) (hf : ¬ freeS S g c < q) (hs : atpS S g d < q) :
    Calls Tryz.prog 81 #[.pointer (some ⟨r.q, 0, none⟩), cv 4 id g c d q 0 t] w (RDecd w r S D 3 0) := by
  have hfoot : ∀ k, r.foot k → k < w.heap.size := fun k hk => h.foot_lt hk
  obtain ⟨z, hv, dv⟩ := r
  obtain ⟨ha, hcap, hvs⟩ := own_slice h.hrow
  simp only at hvs ⊢
  subst hvs
  have hzl : z < w.heap.size := h.q_lt
  have hch : w.cell? ⟨z, 81, none⟩ = some (.slice ha S.H.length hcap) := h.ch
  have hmI : ¬ (60 : Int) ≤ (S.H.length : Int) := by omega
  have n0 : ¬ RAdr.foot ⟨z, .slice ha S.H.length hcap, dv⟩ (w.heap.size + 1) := fun e => by have := hfoot _ e; omega
  have h1 : RLed ((w.alloc (.cells (cc 4 id g c d q 0 t) 33)).alloc (.cells #[.int .i64 0, .int .i64 0] 66)) ⟨z, .slice ha S.H.length hcap, dv⟩ S D := h.below (((Below.refl _ _).alloc (Nat.le_refl _) _).alloc (by simp) _)
  clear h
  go_enter Tryz.func81, Tryz.ntmps81
  go_wp2_with fail
  refine (rfree_any ⟨z, .slice ha S.H.length hcap, dv⟩ S D g c _ h1 hO (by omega) hg hc3).mono ?_
  rintro e w2 ⟨rfl, hb2⟩
  have h2 := h1.below hb2
  obtain ⟨x, y, fr, sz, B2⟩ := two_boxes hb2
  have x2 : w2.cell? ⟨w.heap.size, 2, none⟩ = some (.int .i64 g) := x 2
  have x4 : w2.cell? ⟨w.heap.size, 4, none⟩ = some (.int .i64 d) := x 4
  have x5 : w2.cell? ⟨w.heap.size, 5, none⟩ = some (.int .i64 q) := x 5
  have y0 : w2.cell? ⟨w.heap.size + 1, 0, none⟩ = some (.int .i64 0) := y 0
  have y1 : w2.cell? ⟨w.heap.size + 1, 1, none⟩ = some (.int .i64 0) := y 1
  have fr0 := fr 0
  have fr1 := fr 1
  have hb1' := hid hb2
  clear h1 hb2 x y fr hch
  go_wp2_with fail
  refine (ratp_any ⟨z, .slice ha S.H.length hcap, dv⟩ S D g d _ h2 hO (by omega) hg hd).mono ?_
  rintro e w3 ⟨rfl, hb3⟩
  have hsz3 := hb3.size
  have h3 := h2.below hb3
  have hb13 := hb1'.out.trans (hb3.mono hb1'.out.size)
  obtain ⟨x, y, fr, sz', B3⟩ := two_boxes hb13
  have v2 : w3.cell? ⟨w.heap.size, 2, none⟩ = some (.int .i64 g) := x 2
  have v3 : w3.cell? ⟨w.heap.size, 3, none⟩ = some (.int .i64 c) := x 3
  have v4 : w3.cell? ⟨w.heap.size, 4, none⟩ = some (.int .i64 d) := x 4
  have v5 : w3.cell? ⟨w.heap.size, 5, none⟩ = some (.int .i64 q) := x 5
  have v7 : w3.cell? ⟨w.heap.size, 7, none⟩ = some (.int .i64 t) := x 7
  have u0 : w3.cell? ⟨w.heap.size + 1, 0, none⟩ = some (.int .i64 0) := y 0
  have u1 : w3.cell? ⟨w.heap.size + 1, 1, none⟩ = some (.int .i64 0) := y 1
  have g0 := fr 0
  have g1 := fr 1
  clear hb1' hb13 h2 hb3 B2 x y fr x2 x4 x5 y0 y1 fr0 fr1
  obtain ⟨K4, T4⟩ := rans_set (r := ⟨z, .slice ha S.H.length hcap, dv⟩) h3 (Turned.ofBelow B3) (w.heap.size + 1) (Nat.le_succ _) n0 (.int .i64 3) (.int .i64 0)
  clear h3 B3 hO
  go_wp2
  exact bodyPost_ret (v := ansV 3 0) (by simp [results, Tryz.results81, go_sem, u0, u1]) rfl ⟨_, rfl, K4, T4, fun k hk => Or.inl hk, rfl⟩

/-- What the loads of the promise's region read. -/
def LoadsT (b cb : Nat) (hv : Value) (now g c d q t : Int) (w : World) : Prop :=
  w.cell? ⟨b, 81, none⟩ = some hv ∧ w.cell? ⟨b, 0, none⟩ = some (.int .i64 now) ∧ w.cell? ⟨cb, 2, none⟩ = some (.int .i64 g) ∧ w.cell? ⟨cb, 3, none⟩ = some (.int .i64 c) ∧
    w.cell? ⟨cb, 4, none⟩ = some (.int .i64 d) ∧ w.cell? ⟨cb, 5, none⟩ = some (.int .i64 q) ∧ w.cell? ⟨cb, 7, none⟩ = some (.int .i64 t)

set_option maxRecDepth 100000 in
set_option maxHeartbeats 8000000 in
theorem rprom_yes (r : RAdr) (S : Led) (D : List (Nat → Int)) (id q t : Int) (g c d : Nat) (w : World) (h : RLed w r S D) (hO : LOk S) (hg : g < 4) (hc3 : c < 3) (hd : d < 16) (hm : ¬ 60 ≤ S.H.length) (hf : ¬ freeS S g c < q) (hs : ¬ atpS S g d < q) (ht : 0 ≤ t ∧ t ≤ 1000) :
    Calls Tryz.prog 81 #[.pointer (some ⟨r.q, 0, none⟩), cv 4 id g c d q 0 t] w (RDecd w r { S with H := S.H ++ [newH S g c d q t] } D 0 ((S.H.length : Int) + 1)) := by
  have hfoot : ∀ k, r.foot k → k < w.heap.size := fun k hk => h.foot_lt hk
  obtain ⟨z, hv, dv⟩ := r
  obtain ⟨ha, hcap, hvs⟩ := own_slice h.hrow
  simp only at hvs ⊢
  subst hvs
  have hzl : z < w.heap.size := h.q_lt
  have hch : w.cell? ⟨z, 81, none⟩ = some (.slice ha S.H.length hcap) := h.ch
  have hmI : ¬ (60 : Int) ≤ (S.H.length : Int) := by omega
  have n0 : ¬ RAdr.foot ⟨z, .slice ha S.H.length hcap, dv⟩ (w.heap.size + 1) := fun e => by have := hfoot _ e; omega
  have h1 : RLed ((w.alloc (.cells (cc 4 id g c d q 0 t) 33)).alloc (.cells #[.int .i64 0, .int .i64 0] 66)) ⟨z, .slice ha S.H.length hcap, dv⟩ S D := h.below (((Below.refl _ _).alloc (Nat.le_refl _) _).alloc (by simp) _)
  clear h
  go_enter Tryz.func81, Tryz.ntmps81
  go_wp2_with fail
  refine (rfree_any ⟨z, .slice ha S.H.length hcap, dv⟩ S D g c _ h1 hO (by omega) hg hc3).mono ?_
  rintro e w2 ⟨rfl, hb2⟩
  have h2 := h1.below hb2
  obtain ⟨x, y, fr, sz, B2⟩ := two_boxes hb2
  have x2 : w2.cell? ⟨w.heap.size, 2, none⟩ = some (.int .i64 g) := x 2
  have x4 : w2.cell? ⟨w.heap.size, 4, none⟩ = some (.int .i64 d) := x 4
  have x5 : w2.cell? ⟨w.heap.size, 5, none⟩ = some (.int .i64 q) := x 5
  have y0 : w2.cell? ⟨w.heap.size + 1, 0, none⟩ = some (.int .i64 0) := y 0
  have y1 : w2.cell? ⟨w.heap.size + 1, 1, none⟩ = some (.int .i64 0) := y 1
  have fr0 := fr 0
  have fr1 := fr 1
  have hb1' := hid hb2
  clear h1 hb2 x y fr hch
  go_wp2_with fail
  refine (ratp_any ⟨z, .slice ha S.H.length hcap, dv⟩ S D g d _ h2 hO (by omega) hg hd).mono ?_
  rintro e w3 ⟨rfl, hb3⟩
  have hsz3 := hb3.size
  have h3 := h2.below hb3
  have hb13 := hb1'.out.trans (hb3.mono hb1'.out.size)
  obtain ⟨x, y, fr, sz', B3⟩ := two_boxes hb13
  have v2 : w3.cell? ⟨w.heap.size, 2, none⟩ = some (.int .i64 g) := x 2
  have v3 : w3.cell? ⟨w.heap.size, 3, none⟩ = some (.int .i64 c) := x 3
  have v4 : w3.cell? ⟨w.heap.size, 4, none⟩ = some (.int .i64 d) := x 4
  have v5 : w3.cell? ⟨w.heap.size, 5, none⟩ = some (.int .i64 q) := x 5
  have v7 : w3.cell? ⟨w.heap.size, 7, none⟩ = some (.int .i64 t) := x 7
  have u0 : w3.cell? ⟨w.heap.size + 1, 0, none⟩ = some (.int .i64 0) := y 0
  have u1 : w3.cell? ⟨w.heap.size + 1, 1, none⟩ = some (.int .i64 0) := y 1
  have g0 := fr 0
  have g1 := fr 1
  clear hb1' hb13 h2 hb3 B2 x y fr x2 x4 x5 y0 y1 fr0 fr1
  obtain ⟨now, G, H, A, J⟩ := S
  replace h3 : RAt w3 ⟨z, .slice ha H.length hcap, dv⟩ now (pofG G) H D J := h3
  have hn : 0 ≤ now ∧ now ≤ 1000000 := hO.now
  replace hm : ¬ 60 ≤ H.length := hm
  replace hmI : ¬ (60 : Int) ≤ (H.length : Int) := by omega
  obtain ⟨i0, hi, hz0, hz1, hz2⟩ := info_parts info57
  have hz3 : z < w3.heap.size := h3.q_lt
  have Bx : Below w3.heap.size w3 ((w3.alloc (.cells (cc ((H.length : Int) + 1) g c d q now (now + t) 1) 57)).drew) := ((Below.refl _ _).alloc (Nat.le_refl _) _).drew
  have h4 := h3.below Bx
  obtain ⟨v', w2', hr, hown2, hg2, _, hl2⟩ := run_append_own_at (P := Tryz.prog) ((w3.alloc (.cells (cc ((H.length : Int) + 1) g c d q now (now + t) 1) 57)).drew) 0 50 50 57 i0 (cmdV zeroH) 8 64 Tryz.underlying50 hi hz0 hz1 hz2 rfl (by decide) (.slice ha H.length hcap) H.length (H.flatMap hc) h4.hrow ⟨w3.heap.size, 0, none⟩ 1 1 (hc (newH ⟨now, G, H, A, J⟩ g c d q t)) rfl (by
      intro j u hu
      rw [add_off]
      show (w3.alloc (.cells (cc ((H.length : Int) + 1) g c d q now (now + t) 1) 57)).cell? ⟨w3.heap.size, j, none⟩ = some u
      rw [World.cell?_alloc_new, ← hu]
      simp only [List.getElem?_toArray]
      rfl) (cells8_one _) (by unfold maxLen; omega) (by omega) (Nat.zero_le _)
  have own' : w2'.ownsRow 0 57 8 v' (H ++ [newH ⟨now, G, H, A, J⟩ g c d q t]).length ((H ++ [newH ⟨now, G, H, A, J⟩ g c d q t]).flatMap hc) := by
    simpa using hown2
  obtain ⟨gv, capv, ev⟩ : ∃ g cap, v' = .slice (some ⟨g, 0, none⟩) (H.length + 1) cap := by
    rcases hown2.2 with ⟨_, e⟩ | ⟨g, cap, cur, e, _⟩
    · omega
    · exact ⟨g, cap, e⟩
  subst ev
  obtain ⟨K5, T5, Q5⟩ := h4.push own' hg2 hl2
  simp only at K5 T5 Q5
  have ne81 : ∀ e : some z = (Value.slice ha H.length hcap).ownBlock, False := fun e => (h4.hap z e.symm).1 rfl
  have eb : ∀ k, k < w3.heap.size → ¬ RAdr.foot ⟨z, .slice ha H.length hcap, dv⟩ k → w2'.heap[k]? = w3.heap[k]? := fun k hk hn => (hg2.block k (by simp; omega) (fun e => hn (Or.inr (Or.inl e.symm)))).trans (Bx.block k hk)
  have ez : w2'.heap[z]? = w3.heap[z]? := (hg2.block z (by simp; omega) (fun e => ne81 e)).trans (Bx.block z hz3)
  have k81 : w2'.cell? ⟨z, 81, none⟩ = some (.slice ha H.length hcap) := (World.cell?_of_block (a := ⟨z, 81, none⟩) ez).trans h3.ch
  have k0 : w2'.cell? ⟨z, 0, none⟩ = some (.int .i64 now) := (World.cell?_of_block (a := ⟨z, 0, none⟩) ez).trans h3.c0
  have hf81 : w2'.frozen? ⟨z, 81, none⟩ = false := (World.frozen?_of_block (a := ⟨z, 81, none⟩) ez).trans (h3.free 81)
  have n00 : ¬ RAdr.foot ⟨z, .slice ha H.length hcap, dv⟩ w.heap.size := fun e => by have := hfoot _ e; omega
  have ec := eb w.heap.size (by omega) n00
  have er := eb (w.heap.size + 1) (by omega) n0
  have k2 : w2'.cell? ⟨w.heap.size, 2, none⟩ = some (.int .i64 g) := (World.cell?_of_block (a := ⟨w.heap.size, 2, none⟩) ec).trans v2
  have k3 : w2'.cell? ⟨w.heap.size, 3, none⟩ = some (.int .i64 c) := (World.cell?_of_block (a := ⟨w.heap.size, 3, none⟩) ec).trans v3
  have k4 : w2'.cell? ⟨w.heap.size, 4, none⟩ = some (.int .i64 d) := (World.cell?_of_block (a := ⟨w.heap.size, 4, none⟩) ec).trans v4
  have k5 : w2'.cell? ⟨w.heap.size, 5, none⟩ = some (.int .i64 q) := (World.cell?_of_block (a := ⟨w.heap.size, 5, none⟩) ec).trans v5
  have k7 : w2'.cell? ⟨w.heap.size, 7, none⟩ = some (.int .i64 t) := (World.cell?_of_block (a := ⟨w.heap.size, 7, none⟩) ec).trans v7
  have p0 : w2'.cell? ⟨w.heap.size + 1, 0, none⟩ = some (.int .i64 0) := (World.cell?_of_block (a := ⟨w.heap.size + 1, 0, none⟩) er).trans u0
  have p1 : w2'.cell? ⟨w.heap.size + 1, 1, none⟩ = some (.int .i64 0) := (World.cell?_of_block (a := ⟨w.heap.size + 1, 1, none⟩) er).trans u1
  have pf0 : w2'.frozen? ⟨w.heap.size + 1, 0, none⟩ = false := (World.frozen?_of_block (a := ⟨w.heap.size + 1, 0, none⟩) er).trans g0
  have pf1 : w2'.frozen? ⟨w.heap.size + 1, 1, none⟩ = false := (World.frozen?_of_block (a := ⟨w.heap.size + 1, 1, none⟩) er).trans g1
  have hW : IntKind.i64.wrap (now + t) = now + t := w64i _ (by omega)
  have hW2 : IntKind.i64.wrap ((H.length : Int) + 1) = (H.length : Int) + 1 := w64i _ (by omega)
  have hch3 := h3.ch
  have hS1 : LoadsT z w.heap.size (.slice ha H.length hcap) now g c d q t w3.drew := ⟨h3.ch, h3.c0, v2, v3, v4, v5, v7⟩
  have hS2 : LoadsT z w.heap.size (.slice ha H.length hcap) now g c d q t ((w3.alloc (.cells (cc ((H.length : Int) + 1) g c d q now (now + t) 1) 57)).drew) := by
    obtain ⟨l0, l1, l2, l3, l4, l5, l7⟩ := hS1
    have hx : ∀ (a : Addr) (v : Value), w3.drew.cell? a = some v → ((w3.alloc (.cells (cc ((H.length : Int) + 1) g c d q now (now + t) 1) 57)).drew).cell? a = some v := fun a v e =>
      (World.cell?_alloc_some w3.drew a (.cells (cc ((H.length : Int) + 1) g c d q now (now + t) 1) 57) (by rw [e]; rfl)).trans e
    exact ⟨hx _ _ l0, hx _ _ l1, hx _ _ l2, hx _ _ l3, hx _ _ l4, hx _ _ l5, hx _ _ l7⟩
  have hS3 : LoadsT z w.heap.size (.slice ha H.length hcap) now g c d q t w2' := ⟨k81, k0, k2, k3, k4, k5, k7⟩
  have zn1 : ¬ z = w.heap.size + 1 := by omega
  have zn2 : ¬ w.heap.size + 1 = z := by omega
  have TB := (Turned.ofBelow (F := RAdr.foot ⟨z, .slice ha H.length hcap, dv⟩) B3).trans ((Turned.ofBelow Bx).trans T5)
  have n5 : ¬ RAdr.foot ⟨z, .slice (some ⟨gv, 0, none⟩) (H.length + 1) capv, dv⟩ (w.heap.size + 1) := fun e => by
    rcases Q5 _ e with e | e
    · exact n0 e
    · simp at e
      omega
  obtain ⟨K6, T6⟩ := rans_set (S := ⟨now, G, H ++ [newH ⟨now, G, H, A, J⟩ g c d q t], A, J⟩) (D := D) K5 TB (w.heap.size + 1) (Nat.le_succ _) n5 (.int .i64 0) (.int .i64 ((H.length : Int) + 1))
  clear h3 h4 hown2 own' hg2 hl2 hz0 hz1 hz2 hi hO TB T5 K5 eb ez ec er ne81
  go_wp2
  refine wp_region_E (LoadsT z w.heap.size (.slice ha H.length hcap) now g c d q t) 30 (by kernel_rfl) ?_
  refine wpAnyE_take (i := 0) (v := .pointer (some ⟨z, 0, none⟩)) rfl (by kernel_rfl) (by kernel_rfl) (by kernel_rfl) (by kernel_rfl) (fun _ _ _ h => h) (by kernel_rfl) hS1 (by rfl) (fun w' hw => by obtain ⟨l0, l1, l2, l3, l4, l5, l7⟩ := hw; go_simp) ?_
  simp only [Act.put]
  refine wpAnyE_take (i := 1) (v := .pointer (some ⟨z, 0, none⟩)) rfl (by kernel_rfl) (by kernel_rfl) (by kernel_rfl) (by kernel_rfl) (fun _ _ _ h => h) (by kernel_rfl) hS1 (by rfl) (fun w' hw => by obtain ⟨l0, l1, l2, l3, l4, l5, l7⟩ := hw; go_simp) ?_
  simp only [Act.put]
  refine wpAnyE_take (i := 2) (v := .pointer (some ⟨z, 0, none⟩)) rfl (by kernel_rfl) (by kernel_rfl) (by kernel_rfl) (by kernel_rfl) (fun _ _ _ h => h) (by kernel_rfl) hS1 (by rfl) (fun w' hw => by obtain ⟨l0, l1, l2, l3, l4, l5, l7⟩ := hw; go_simp) ?_
  simp only [Act.put]
  refine wpAnyE_take (i := 3) (v := .pointer (some ⟨z, 81, none⟩)) rfl (by kernel_rfl) (by kernel_rfl) (by kernel_rfl) (by kernel_rfl) (fun _ _ _ h => h) (by kernel_rfl) hS1 (by rfl) (fun w' hw => by obtain ⟨l0, l1, l2, l3, l4, l5, l7⟩ := hw; go_simp) ?_
  simp only [Act.put]
  refine wpAnyE_take (i := 4) (v := .slice ha H.length hcap) rfl (by kernel_rfl) (by kernel_rfl) (by kernel_rfl) (by kernel_rfl) (fun _ _ _ h => h) (by kernel_rfl) hS1 (by rfl) (fun w' hw => by obtain ⟨l0, l1, l2, l3, l4, l5, l7⟩ := hw; go_simp) ?_
  simp only [Act.put]
  refine wpAnyE_take (i := 5) (v := .int .i64 ((H.length : Int) + 1)) rfl (by kernel_rfl) (by kernel_rfl) (by kernel_rfl) (by kernel_rfl) (fun _ _ _ h => h) (by kernel_rfl) hS1 (by rfl) (fun w' hw => by obtain ⟨l0, l1, l2, l3, l4, l5, l7⟩ := hw; go_simp) ?_
  simp only [Act.put]
  refine wpAnyE_take (i := 6) (v := .pointer (some ⟨w.heap.size, 2, none⟩)) rfl (by kernel_rfl) (by kernel_rfl) (by kernel_rfl) (by kernel_rfl) (fun _ _ _ h => h) (by kernel_rfl) hS1 (by rfl) (fun w' hw => by obtain ⟨l0, l1, l2, l3, l4, l5, l7⟩ := hw; go_simp) ?_
  simp only [Act.put]
  refine wpAnyE_take (i := 7) (v := .int .i64 g) rfl (by kernel_rfl) (by kernel_rfl) (by kernel_rfl) (by kernel_rfl) (fun _ _ _ h => h) (by kernel_rfl) hS1 (by rfl) (fun w' hw => by obtain ⟨l0, l1, l2, l3, l4, l5, l7⟩ := hw; go_simp) ?_
  simp only [Act.put]
  refine wpAnyE_take (i := 8) (v := .pointer (some ⟨w.heap.size, 3, none⟩)) rfl (by kernel_rfl) (by kernel_rfl) (by kernel_rfl) (by kernel_rfl) (fun _ _ _ h => h) (by kernel_rfl) hS1 (by rfl) (fun w' hw => by obtain ⟨l0, l1, l2, l3, l4, l5, l7⟩ := hw; go_simp) ?_
  simp only [Act.put]
  refine wpAnyE_take (i := 9) (v := .int .i64 c) rfl (by kernel_rfl) (by kernel_rfl) (by kernel_rfl) (by kernel_rfl) (fun _ _ _ h => h) (by kernel_rfl) hS1 (by rfl) (fun w' hw => by obtain ⟨l0, l1, l2, l3, l4, l5, l7⟩ := hw; go_simp) ?_
  simp only [Act.put]
  refine wpAnyE_take (i := 10) (v := .pointer (some ⟨w.heap.size, 4, none⟩)) rfl (by kernel_rfl) (by kernel_rfl) (by kernel_rfl) (by kernel_rfl) (fun _ _ _ h => h) (by kernel_rfl) hS1 (by rfl) (fun w' hw => by obtain ⟨l0, l1, l2, l3, l4, l5, l7⟩ := hw; go_simp) ?_
  simp only [Act.put]
  refine wpAnyE_take (i := 11) (v := .int .i64 d) rfl (by kernel_rfl) (by kernel_rfl) (by kernel_rfl) (by kernel_rfl) (fun _ _ _ h => h) (by kernel_rfl) hS1 (by rfl) (fun w' hw => by obtain ⟨l0, l1, l2, l3, l4, l5, l7⟩ := hw; go_simp) ?_
  simp only [Act.put]
  refine wpAnyE_take (i := 12) (v := .pointer (some ⟨w.heap.size, 5, none⟩)) rfl (by kernel_rfl) (by kernel_rfl) (by kernel_rfl) (by kernel_rfl) (fun _ _ _ h => h) (by kernel_rfl) hS1 (by rfl) (fun w' hw => by obtain ⟨l0, l1, l2, l3, l4, l5, l7⟩ := hw; go_simp) ?_
  simp only [Act.put]
  refine wpAnyE_take (i := 13) (v := .int .i64 q) rfl (by kernel_rfl) (by kernel_rfl) (by kernel_rfl) (by kernel_rfl) (fun _ _ _ h => h) (by kernel_rfl) hS1 (by rfl) (fun w' hw => by obtain ⟨l0, l1, l2, l3, l4, l5, l7⟩ := hw; go_simp) ?_
  simp only [Act.put]
  refine wpAnyE_take (i := 14) (v := .pointer (some ⟨z, 0, none⟩)) rfl (by kernel_rfl) (by kernel_rfl) (by kernel_rfl) (by kernel_rfl) (fun _ _ _ h => h) (by kernel_rfl) hS1 (by rfl) (fun w' hw => by obtain ⟨l0, l1, l2, l3, l4, l5, l7⟩ := hw; go_simp) ?_
  simp only [Act.put]
  refine wpAnyE_take (i := 15) (v := .pointer (some ⟨z, 0, none⟩)) rfl (by kernel_rfl) (by kernel_rfl) (by kernel_rfl) (by kernel_rfl) (fun _ _ _ h => h) (by kernel_rfl) hS1 (by rfl) (fun w' hw => by obtain ⟨l0, l1, l2, l3, l4, l5, l7⟩ := hw; go_simp) ?_
  simp only [Act.put]
  refine wpAnyE_take (i := 16) (v := .pointer (some ⟨z, 0, none⟩)) rfl (by kernel_rfl) (by kernel_rfl) (by kernel_rfl) (by kernel_rfl) (fun _ _ _ h => h) (by kernel_rfl) hS1 (by rfl) (fun w' hw => by obtain ⟨l0, l1, l2, l3, l4, l5, l7⟩ := hw; go_simp) ?_
  simp only [Act.put]
  refine wpAnyE_take (i := 17) (v := .int .i64 now) rfl (by kernel_rfl) (by kernel_rfl) (by kernel_rfl) (by kernel_rfl) (fun _ _ _ h => h) (by kernel_rfl) hS1 (by rfl) (fun w' hw => by obtain ⟨l0, l1, l2, l3, l4, l5, l7⟩ := hw; go_simp) ?_
  simp only [Act.put]
  refine wpAnyE_take (i := 18) (v := .pointer (some ⟨z, 0, none⟩)) rfl (by kernel_rfl) (by kernel_rfl) (by kernel_rfl) (by kernel_rfl) (fun _ _ _ h => h) (by kernel_rfl) hS1 (by rfl) (fun w' hw => by obtain ⟨l0, l1, l2, l3, l4, l5, l7⟩ := hw; go_simp) ?_
  simp only [Act.put]
  refine wpAnyE_take (i := 19) (v := .pointer (some ⟨z, 0, none⟩)) rfl (by kernel_rfl) (by kernel_rfl) (by kernel_rfl) (by kernel_rfl) (fun _ _ _ h => h) (by kernel_rfl) hS1 (by rfl) (fun w' hw => by obtain ⟨l0, l1, l2, l3, l4, l5, l7⟩ := hw; go_simp) ?_
  simp only [Act.put]
  refine wpAnyE_take (i := 20) (v := .pointer (some ⟨z, 0, none⟩)) rfl (by kernel_rfl) (by kernel_rfl) (by kernel_rfl) (by kernel_rfl) (fun _ _ _ h => h) (by kernel_rfl) hS1 (by rfl) (fun w' hw => by obtain ⟨l0, l1, l2, l3, l4, l5, l7⟩ := hw; go_simp) ?_
  simp only [Act.put]
  refine wpAnyE_take (i := 21) (v := .int .i64 now) rfl (by kernel_rfl) (by kernel_rfl) (by kernel_rfl) (by kernel_rfl) (fun _ _ _ h => h) (by kernel_rfl) hS1 (by rfl) (fun w' hw => by obtain ⟨l0, l1, l2, l3, l4, l5, l7⟩ := hw; go_simp) ?_
  simp only [Act.put]
  refine wpAnyE_take (i := 22) (v := .pointer (some ⟨w.heap.size, 7, none⟩)) rfl (by kernel_rfl) (by kernel_rfl) (by kernel_rfl) (by kernel_rfl) (fun _ _ _ h => h) (by kernel_rfl) hS1 (by rfl) (fun w' hw => by obtain ⟨l0, l1, l2, l3, l4, l5, l7⟩ := hw; go_simp) ?_
  simp only [Act.put]
  refine wpAnyE_take (i := 23) (v := .int .i64 t) rfl (by kernel_rfl) (by kernel_rfl) (by kernel_rfl) (by kernel_rfl) (fun _ _ _ h => h) (by kernel_rfl) hS1 (by rfl) (fun w' hw => by obtain ⟨l0, l1, l2, l3, l4, l5, l7⟩ := hw; go_simp) ?_
  simp only [Act.put]
  refine wpAnyE_take (i := 24) (v := .int .i64 (now + t)) rfl (by kernel_rfl) (by kernel_rfl) (by kernel_rfl) (by kernel_rfl) (fun _ _ _ h => h) (by kernel_rfl) hS1 (by rfl) (fun w' hw => by obtain ⟨l0, l1, l2, l3, l4, l5, l7⟩ := hw; go_simp) ?_
  simp only [Act.put]
  refine wpAnyE_take (i := 25) (v := cv ((H.length : Int) + 1) g c d q now (now + t) 1) rfl (by kernel_rfl) (by kernel_rfl) (by kernel_rfl) (by kernel_rfl) (fun _ _ _ h => h) (by kernel_rfl) hS1 (by rfl) (fun w' hw => by obtain ⟨l0, l1, l2, l3, l4, l5, l7⟩ := hw; go_simp) ?_
  simp only [Act.put]
  refine wpAnyE_one (i := 26) (v := .slice (some ⟨w3.heap.size, 0, none⟩) 1 1) (w' := ((w3.alloc (.cells (cc ((H.length : Int) + 1) g c d q now (now + t) 1) 57)).drew)) rfl (by kernel_rfl) (by rfl) (by first | (go_simp; done) | (go_simp; rfl)) hS2 ?_
  simp only [Act.put]
  refine wpAnyE_append (i := 27) (d := 70) (ty := 50) (tys := #[50, 50]) (s := .tmp 47) (x := .tmp 69) (v := .slice ha H.length hcap) (sl := .slice (some ⟨w3.heap.size, 0, none⟩) 1 1) (v' := .slice (some ⟨gv, 0, none⟩) (H.length + 1) capv) (w' := w2') (by kernel_rfl) (by kernel_rfl) (by go_simp) (by go_simp) hr hS3 ?_
  simp only [Act.put]
  refine wpAnyE_one (i := 28) (v := .pointer (some ⟨z, 0, none⟩)) (w' := w2') rfl (by kernel_rfl) (by rfl) (by go_simp) hS3 ?_
  simp only [Act.put]
  refine wpAnyE_one (i := 29) (v := .pointer (some ⟨z, 81, none⟩)) (w' := w2') rfl (by kernel_rfl) (by rfl) (by go_simp) hS3 ?_
  simp only [Act.put]
  refine wpAnyE_last (w' := w2'.setCell ⟨z, 81, none⟩ (.slice (some ⟨gv, 0, none⟩) (H.length + 1) capv)) rfl (by kernel_rfl) (by kernel_rfl) (by rfl) (by go_simp) ?_
  simp only [Act.put]
  go_wp2
  exact bodyPost_ret (v := ansV 0 ((H.length : Int) + 1)) (by simp [results, Tryz.results81, go_sem, p0, p1]) rfl ⟨_, rfl, K6, T6, fun k hk => by
    rcases Q5 k hk with h | h
    · exact Or.inl h
    · simp at h
      exact Or.inr (by omega), rfl⟩

end Go.Proofs.YtdblmheoghhepaaGreatDoor
