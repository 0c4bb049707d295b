/- The caller's book: 'takes' of a promise. -/
import Derived.Test.YtdblmheoghhepaaDoorKKeepAll
import Derived.Maps.AppendAt
import Derived.Test.YtdblmheoghhepaaDoorKPhase
namespace Go.Proofs.YtdblmheoghhepaaDoor
open Go.RowKit

theorem KAt.push {w w1 : World} {b : Nat} {l : Value} {now : Int} {P : Nat → Int} {hv v' : Value} {H H' : List (Nat → Int)} (h : KAt w b l now P hv H) (hown : w1.ownsRow 0 61 8 v' H'.length (H'.flatMap hc)) (hg : w.grownBy w1 hv.ownBlock) (hl : v'.ownBlock = hv.ownBlock ∨ v'.ownBlock = some w.heap.size) :
    KAt (w1.setCell ⟨b, 82, none⟩ v') b l now P v' H' ∧ Turned (KFoot b hv) w (w1.setCell ⟨b, 82, none⟩ v') ∧ (∀ k, KFoot b v' k → KFoot b hv k ∨ w.heap.size ≤ k) := by
  have hbl := h.b_lt
  have eb : w1.heap[b]? = w.heap[b]? := hg.block b hbl (fun e => h.apart b e.symm rfl)
  have hap : ∀ k, v'.ownBlock = some k → k ≠ b := fun k hk => by
    rcases hl with e | e
    · exact h.apart k (e ▸ hk)
    · have : some k = some w.heap.size := hk.symm.trans e
      cases this
      omega
  refine ⟨⟨?_, ?_, nums_other (h.nums.same eb) (by omega) _, World.cell?_setCell_same _ _ _ ((World.cell?_of_block (a := ⟨b, 82, none⟩) eb).trans h.ch), fun j => ?_, own_same hown (fun k hk => Below.heap_setCell _ _ _ _ (hap k hk)), hap⟩, ?_, ?_⟩
  · rw [World.cell?_setCell_other _ _ _ _ (off_ne (by omega))]; exact (World.cell?_of_block (a := ⟨b, 0, none⟩) eb).trans h.c0
  · rw [World.cell?_setCell_other _ _ _ _ (off_ne (by omega))]; exact (World.cell?_of_block (a := ⟨b, 1, none⟩) eb).trans h.c1
  · rw [World.frozen?_setCell]; exact (World.frozen?_of_block (a := ⟨b, j, none⟩) eb).trans (h.free j)
  · exact (Turned.ofGrown (F := KFoot b hv) hg (fun k e => Or.inl (Or.inr e))).setCell (p := ⟨b, 82, none⟩) (Or.inl (Or.inl rfl)) _
  · rintro k (e | e)
    · exact Or.inl (Or.inl e)
    · rcases hl with e' | e'
      · exact Or.inl (Or.inr (e' ▸ e))
      · right
        have : some k = some w.heap.size := e.symm.trans e'
        cases this
        exact Nat.le_refl _

/-- A hold as the caller reckons it. -/
abbrev newK (n g c d q now t : Int) : Nat → Int := eight n g c d q now (now + t) 1

/-- What the loads of the promise's region read. -/
def LoadsT (b cb : Nat) (hv : Value) (now g c d q t : Int) (w : World) : Prop :=
  w.cell? ⟨b, 82, none⟩ = some hv ∧ w.cell? ⟨b, 1, none⟩ = some (.int .i64 now) ∧ w.cell? ⟨cb, 2, none⟩ = some (.int .i64 g) ∧ w.cell? ⟨cb, 3, none⟩ = some (.int .i64 c) ∧
    w.cell? ⟨cb, 4, none⟩ = some (.int .i64 d) ∧ w.cell? ⟨cb, 5, none⟩ = some (.int .i64 q) ∧ w.cell? ⟨cb, 7, none⟩ = some (.int .i64 t)

set_option maxRecDepth 100000 in
set_option maxHeartbeats 4000000 in
theorem takes4 (b : Nat) (l : Value) (now : Int) (P : Nat → Int) (hv : Value) (H : List (Nat → Int)) (id q t : Int) (g c d : Nat) (w : World) (h : KAt w b l now P hv H) (hn : 0 ≤ now ∧ now ≤ 1000000) (ht : 0 ≤ t ∧ t ≤ 1000) (hl : H.length ≤ 60) :
    Calls Tryd.prog 18 #[.pointer (some ⟨b, 0, none⟩), cv 4 id g c d q 0 t, ansV 0 ((H.length : Int) + 1)] w fun e w' => e = .returned (.bool true) ∧ ∃ v', KAt w' b l now P v' (H ++ [newK ((H.length : Int) + 1) g c d q now t]) ∧ Turned (KFoot b hv) w w' ∧ (∀ k, KFoot b v' k → KFoot b hv k ∨ w.heap.size ≤ k) := by
  obtain ⟨i0, hi, hz0, hz1, hz2⟩ := info_parts info61
  have hbl := h.b_lt
  have hch := h.ch
  have hc1 := h.c1
  have hf82 := h.free 82
  have Bx : Below w.heap.size w ((((w.alloc (.cells (cc 4 id g c d q 0 t) 23)).alloc (.cells #[.int .i64 0, .int .i64 ((H.length : Int) + 1)] 39)).alloc (.cells (cc ((H.length : Int) + 1) g c d q now (now + t) 1) 61)).drew) := (((((Below.refl _ _).alloc (Nat.le_refl _) _).alloc (by simp) _).alloc (by simp; omega) _).drew)
  have h1 := h.below Bx
  obtain ⟨v', w2, hr, hown2, hg2, _, hl2⟩ := run_append_own_at (P := Tryd.prog) ((((w.alloc (.cells (cc 4 id g c d q 0 t) 23)).alloc (.cells #[.int .i64 0, .int .i64 ((H.length : Int) + 1)] 39)).alloc (.cells (cc ((H.length : Int) + 1) g c d q now (now + t) 1) 61)).drew) 0 46 46 61 i0 (cmdV zeroH) 8 64 Tryd.underlying46 hi hz0 hz1 hz2 rfl (by decide) hv H.length (H.flatMap hc) h1.rows ⟨w.heap.size + 1 + 1, 0, none⟩ 1 1 (hc (newK ((H.length : Int) + 1) g c d q now t)) rfl (by
      intro j u hu
      rw [add_off]
      have := World.cell?_alloc_new ((w.alloc (.cells (cc 4 id g c d q 0 t) 23)).alloc (.cells #[.int .i64 0, .int .i64 ((H.length : Int) + 1)] 39)) (cc ((H.length : Int) + 1) g c d q now (now + t) 1) 61 j
      simp only [World.size_alloc] at this
      show (((w.alloc (.cells (cc 4 id g c d q 0 t) 23)).alloc (.cells #[.int .i64 0, .int .i64 ((H.length : Int) + 1)] 39)).alloc (.cells (cc ((H.length : Int) + 1) g c d q now (now + t) 1) 61)).cell? ⟨w.heap.size + 1 + 1, j, none⟩ = some u
      rw [this, ← hu]
      simp only [List.getElem?_toArray]
      rfl) (cells8_one _) (by unfold maxLen; omega) (by omega) (Nat.zero_le _)
  have own' : w2.ownsRow 0 61 8 v' (H ++ [newK ((H.length : Int) + 1) g c d q now t]).length ((H ++ [newK ((H.length : Int) + 1) g c d q now t]).flatMap hc) := by
    simpa using hown2
  obtain ⟨gv, capv, ev⟩ : ∃ g cap, v' = .slice (some ⟨g, 0, none⟩) (H.length + 1) cap := by
    rcases hown2.2 with ⟨_, e⟩ | ⟨g, cap, cur, e, _⟩
    · omega
    · exact ⟨g, cap, e⟩
  subst ev
  obtain ⟨K3, T3, Q3⟩ := h1.push own' hg2 hl2
  have hbl1 := h1.b_lt
  have ebb : w2.heap[b]? = _ := hg2.block b hbl1 (fun e => h1.apart b e.symm rfl)
  have hch2 : w2.cell? ⟨b, 82, none⟩ = some hv := (World.cell?_of_block (a := ⟨b, 82, none⟩) ebb).trans h1.ch
  have hf2 : w2.frozen? ⟨b, 82, none⟩ = false := (World.frozen?_of_block (a := ⟨b, 82, none⟩) ebb).trans (h1.free 82)
  have hW : IntKind.i64.wrap (now + t) = now + t := w64i _ (by omega)
  have hW2 : IntKind.i64.wrap ((H.length : Int) + 1) = (H.length : Int) + 1 := w64i _ (by omega)
  have hfp : ∀ k, KFoot b hv k → k < w.heap.size := fun k hk => by
    rcases hk with rfl | hk
    · exact hbl
    · exact h.row_lt hk
  have hbx : ∀ j, w.heap.size ≤ j → j < w.heap.size + 3 → w2.heap[j]? = ((((w.alloc (.cells (cc 4 id g c d q 0 t) 23)).alloc (.cells #[.int .i64 0, .int .i64 ((H.length : Int) + 1)] 39)).alloc (.cells (cc ((H.length : Int) + 1) g c d q now (now + t) 1) 61)).drew).heap[j]? := fun j hj hj2 => hg2.block j (by simp; omega) (fun e => by have := hfp j (Or.inr e.symm); omega)
  have an : w2.cell? ⟨w.heap.size + 1, 1, none⟩ = some (.int .i64 ((H.length : Int) + 1)) := (World.cell?_of_block (a := ⟨w.heap.size + 1, 1, none⟩) (hbx (w.heap.size + 1) (by omega) (by omega))).trans (by simp [go_sem])
  have hb1 : b < w.heap.size + 1 := by omega
  have hb2 : b < w.heap.size + 1 + 1 := by omega
  have ne3 : ¬ w.heap.size + 1 + 1 = b := by omega
  have ne4 : ¬ b = w.heap.size + 1 + 1 := by omega
  have ne5 : ¬ b = w.heap.size := by omega
  have ne6 : ¬ w.heap.size = b := by omega
  have ne1 : ¬ w.heap.size + 1 = b := by omega
  have ne2 : ¬ b = w.heap.size + 1 := by omega
  have k1 : w2.cell? ⟨b, 1, none⟩ = some (.int .i64 now) := (World.cell?_of_block (a := ⟨b, 1, none⟩) ebb).trans h1.c1
  have bxc : ∀ j, w2.cell? ⟨w.heap.size, j, none⟩ = (cc 4 id g c d q 0 t)[j]? := fun j => (World.cell?_of_block (a := ⟨w.heap.size, j, none⟩) (hbx w.heap.size (by omega) (by omega))).trans (by
    show (((w.alloc (.cells (cc 4 id g c d q 0 t) 23)).alloc (.cells #[.int .i64 0, .int .i64 ((H.length : Int) + 1)] 39)).alloc (.cells (cc ((H.length : Int) + 1) g c d q now (now + t) 1) 61)).cell? ⟨w.heap.size, j, none⟩ = _
    rw [World.cell?_alloc_past _ _ _ (by simp; omega), World.cell?_alloc_past _ _ _ (by simp), World.cell?_alloc_new])
  have k2 : w2.cell? ⟨w.heap.size, 2, none⟩ = some (.int .i64 g) := bxc 2
  have k3 : w2.cell? ⟨w.heap.size, 3, none⟩ = some (.int .i64 c) := bxc 3
  have k4 : w2.cell? ⟨w.heap.size, 4, none⟩ = some (.int .i64 d) := bxc 4
  have k5 : w2.cell? ⟨w.heap.size, 5, none⟩ = some (.int .i64 q) := bxc 5
  have k7 : w2.cell? ⟨w.heap.size, 7, none⟩ = some (.int .i64 t) := bxc 7
  clear bxc
  obtain ⟨hvl, hvs⟩ : ∃ a c', hv = .slice a H.length c' := by
    rcases h.rows.2 with ⟨e, e2⟩ | ⟨g, cap, cur, e, _⟩
    · exact ⟨none, 0, by rw [e, e2]⟩
    · exact ⟨_, _, e⟩
  obtain ⟨hvc, hvs⟩ := hvs
  subst hvs
  have hS1 : LoadsT b w.heap.size (.slice hvl H.length hvc) now g c d q t (((w.alloc (.cells (cc 4 id g c d q 0 t) 23)).alloc (.cells #[.int .i64 0, .int .i64 ((H.length : Int) + 1)] 39)).drew) := by
    have B1 : Below w.heap.size w (((w.alloc (.cells (cc 4 id g c d q 0 t) 23)).alloc (.cells #[.int .i64 0, .int .i64 ((H.length : Int) + 1)] 39)).drew) := ((((Below.refl _ _).alloc (Nat.le_refl _) _).alloc (by simp) _).drew)
    have hK := h.below B1
    have bx : ∀ j, (((w.alloc (.cells (cc 4 id g c d q 0 t) 23)).alloc (.cells #[.int .i64 0, .int .i64 ((H.length : Int) + 1)] 39)).drew).cell? ⟨w.heap.size, j, none⟩ = (cc 4 id g c d q 0 t)[j]? := fun j => by
      show (((w.alloc (.cells (cc 4 id g c d q 0 t) 23)).alloc (.cells #[.int .i64 0, .int .i64 ((H.length : Int) + 1)] 39))).cell? ⟨w.heap.size, j, none⟩ = _
      rw [World.cell?_alloc_past _ _ _ (by simp), World.cell?_alloc_new]
    exact ⟨hK.ch, hK.c1, bx 2, bx 3, bx 4, bx 5, bx 7⟩
  have hS2 : LoadsT b w.heap.size (.slice hvl H.length hvc) now g c d q t ((((w.alloc (.cells (cc 4 id g c d q 0 t) 23)).alloc (.cells #[.int .i64 0, .int .i64 ((H.length : Int) + 1)] 39)).alloc (.cells (cc ((H.length : Int) + 1) g c d q now (now + t) 1) 61)).drew) := by
    obtain ⟨l0, l1, l2, l3, l4, l5, l7⟩ := hS1
    have hx : ∀ (a : Addr) (v : Value), (((w.alloc (.cells (cc 4 id g c d q 0 t) 23)).alloc (.cells #[.int .i64 0, .int .i64 ((H.length : Int) + 1)] 39)).drew).cell? a = some v → ((((w.alloc (.cells (cc 4 id g c d q 0 t) 23)).alloc (.cells #[.int .i64 0, .int .i64 ((H.length : Int) + 1)] 39)).alloc (.cells (cc ((H.length : Int) + 1) g c d q now (now + t) 1) 61)).drew).cell? a = some v := fun a v e =>
      (World.cell?_alloc_some (((w.alloc (.cells (cc 4 id g c d q 0 t) 23)).alloc (.cells #[.int .i64 0, .int .i64 ((H.length : Int) + 1)] 39)).drew) a (.cells (cc ((H.length : Int) + 1) g c d q now (now + t) 1) 61) (by rw [e]; rfl)).trans e
    exact ⟨hx _ _ l0, hx _ _ l1, hx _ _ l2, hx _ _ l3, hx _ _ l4, hx _ _ l5, hx _ _ l7⟩
  have hS3 : LoadsT b w.heap.size (.slice hvl H.length hvc) now g c d q t w2 := ⟨hch2, k1, k2, k3, k4, k5, k7⟩
  clear h h1 hown2 own' hg2 hl2 hbx hz0 hz1 hz2 hi
  go_enter Tryd.func18, Tryd.ntmps18
  go_wp2
  refine wp_region_E (LoadsT b w.heap.size (.slice hvl H.length hvc) now g c d q t) 30 (by kernel_rfl) ?_
  refine wpAnyE_take (i := 0) (v := .pointer (some ⟨b, 0, none⟩)) rfl (by kernel_rfl) (by kernel_rfl) (by kernel_rfl) (by kernel_rfl) (fun _ _ _ h => h) (by kernel_rfl) hS1 (by rfl) (fun w' hw => by obtain ⟨l0, l1, l2, l3, l4, l5, l7⟩ := hw; go_simp) ?_
  simp only [Act.put]
  refine wpAnyE_take (i := 1) (v := .pointer (some ⟨b, 0, none⟩)) rfl (by kernel_rfl) (by kernel_rfl) (by kernel_rfl) (by kernel_rfl) (fun _ _ _ h => h) (by kernel_rfl) hS1 (by rfl) (fun w' hw => by obtain ⟨l0, l1, l2, l3, l4, l5, l7⟩ := hw; go_simp) ?_
  simp only [Act.put]
  refine wpAnyE_take (i := 2) (v := .pointer (some ⟨b, 0, none⟩)) rfl (by kernel_rfl) (by kernel_rfl) (by kernel_rfl) (by kernel_rfl) (fun _ _ _ h => h) (by kernel_rfl) hS1 (by rfl) (fun w' hw => by obtain ⟨l0, l1, l2, l3, l4, l5, l7⟩ := hw; go_simp) ?_
  simp only [Act.put]
  refine wpAnyE_take (i := 3) (v := .pointer (some ⟨b, 82, none⟩)) rfl (by kernel_rfl) (by kernel_rfl) (by kernel_rfl) (by kernel_rfl) (fun _ _ _ h => h) (by kernel_rfl) hS1 (by rfl) (fun w' hw => by obtain ⟨l0, l1, l2, l3, l4, l5, l7⟩ := hw; go_simp) ?_
  simp only [Act.put]
  refine wpAnyE_take (i := 4) (v := .slice hvl H.length hvc) rfl (by kernel_rfl) (by kernel_rfl) (by kernel_rfl) (by kernel_rfl) (fun _ _ _ h => h) (by kernel_rfl) hS1 (by rfl) (fun w' hw => by obtain ⟨l0, l1, l2, l3, l4, l5, l7⟩ := hw; go_simp) ?_
  simp only [Act.put]
  refine wpAnyE_take (i := 5) (v := .int .i64 ((H.length : Int) + 1)) rfl (by kernel_rfl) (by kernel_rfl) (by kernel_rfl) (by kernel_rfl) (fun _ _ _ h => h) (by kernel_rfl) hS1 (by rfl) (fun w' hw => by obtain ⟨l0, l1, l2, l3, l4, l5, l7⟩ := hw; go_simp) ?_
  simp only [Act.put]
  refine wpAnyE_take (i := 6) (v := .pointer (some ⟨w.heap.size, 2, none⟩)) rfl (by kernel_rfl) (by kernel_rfl) (by kernel_rfl) (by kernel_rfl) (fun _ _ _ h => h) (by kernel_rfl) hS1 (by rfl) (fun w' hw => by obtain ⟨l0, l1, l2, l3, l4, l5, l7⟩ := hw; go_simp) ?_
  simp only [Act.put]
  refine wpAnyE_take (i := 7) (v := .int .i64 g) rfl (by kernel_rfl) (by kernel_rfl) (by kernel_rfl) (by kernel_rfl) (fun _ _ _ h => h) (by kernel_rfl) hS1 (by rfl) (fun w' hw => by obtain ⟨l0, l1, l2, l3, l4, l5, l7⟩ := hw; go_simp) ?_
  simp only [Act.put]
  refine wpAnyE_take (i := 8) (v := .pointer (some ⟨w.heap.size, 3, none⟩)) rfl (by kernel_rfl) (by kernel_rfl) (by kernel_rfl) (by kernel_rfl) (fun _ _ _ h => h) (by kernel_rfl) hS1 (by rfl) (fun w' hw => by obtain ⟨l0, l1, l2, l3, l4, l5, l7⟩ := hw; go_simp) ?_
  simp only [Act.put]
  refine wpAnyE_take (i := 9) (v := .int .i64 c) rfl (by kernel_rfl) (by kernel_rfl) (by kernel_rfl) (by kernel_rfl) (fun _ _ _ h => h) (by kernel_rfl) hS1 (by rfl) (fun w' hw => by obtain ⟨l0, l1, l2, l3, l4, l5, l7⟩ := hw; go_simp) ?_
  simp only [Act.put]
  refine wpAnyE_take (i := 10) (v := .pointer (some ⟨w.heap.size, 4, none⟩)) rfl (by kernel_rfl) (by kernel_rfl) (by kernel_rfl) (by kernel_rfl) (fun _ _ _ h => h) (by kernel_rfl) hS1 (by rfl) (fun w' hw => by obtain ⟨l0, l1, l2, l3, l4, l5, l7⟩ := hw; go_simp) ?_
  simp only [Act.put]
  refine wpAnyE_take (i := 11) (v := .int .i64 d) rfl (by kernel_rfl) (by kernel_rfl) (by kernel_rfl) (by kernel_rfl) (fun _ _ _ h => h) (by kernel_rfl) hS1 (by rfl) (fun w' hw => by obtain ⟨l0, l1, l2, l3, l4, l5, l7⟩ := hw; go_simp) ?_
  simp only [Act.put]
  refine wpAnyE_take (i := 12) (v := .pointer (some ⟨w.heap.size, 5, none⟩)) rfl (by kernel_rfl) (by kernel_rfl) (by kernel_rfl) (by kernel_rfl) (fun _ _ _ h => h) (by kernel_rfl) hS1 (by rfl) (fun w' hw => by obtain ⟨l0, l1, l2, l3, l4, l5, l7⟩ := hw; go_simp) ?_
  simp only [Act.put]
  refine wpAnyE_take (i := 13) (v := .int .i64 q) rfl (by kernel_rfl) (by kernel_rfl) (by kernel_rfl) (by kernel_rfl) (fun _ _ _ h => h) (by kernel_rfl) hS1 (by rfl) (fun w' hw => by obtain ⟨l0, l1, l2, l3, l4, l5, l7⟩ := hw; go_simp) ?_
  simp only [Act.put]
  refine wpAnyE_take (i := 14) (v := .pointer (some ⟨b, 0, none⟩)) rfl (by kernel_rfl) (by kernel_rfl) (by kernel_rfl) (by kernel_rfl) (fun _ _ _ h => h) (by kernel_rfl) hS1 (by rfl) (fun w' hw => by obtain ⟨l0, l1, l2, l3, l4, l5, l7⟩ := hw; go_simp) ?_
  simp only [Act.put]
  refine wpAnyE_take (i := 15) (v := .pointer (some ⟨b, 0, none⟩)) rfl (by kernel_rfl) (by kernel_rfl) (by kernel_rfl) (by kernel_rfl) (fun _ _ _ h => h) (by kernel_rfl) hS1 (by rfl) (fun w' hw => by obtain ⟨l0, l1, l2, l3, l4, l5, l7⟩ := hw; go_simp) ?_
  simp only [Act.put]
  refine wpAnyE_take (i := 16) (v := .pointer (some ⟨b, 1, none⟩)) rfl (by kernel_rfl) (by kernel_rfl) (by kernel_rfl) (by kernel_rfl) (fun _ _ _ h => h) (by kernel_rfl) hS1 (by rfl) (fun w' hw => by obtain ⟨l0, l1, l2, l3, l4, l5, l7⟩ := hw; go_simp) ?_
  simp only [Act.put]
  refine wpAnyE_take (i := 17) (v := .int .i64 now) rfl (by kernel_rfl) (by kernel_rfl) (by kernel_rfl) (by kernel_rfl) (fun _ _ _ h => h) (by kernel_rfl) hS1 (by rfl) (fun w' hw => by obtain ⟨l0, l1, l2, l3, l4, l5, l7⟩ := hw; go_simp) ?_
  simp only [Act.put]
  refine wpAnyE_take (i := 18) (v := .pointer (some ⟨b, 0, none⟩)) rfl (by kernel_rfl) (by kernel_rfl) (by kernel_rfl) (by kernel_rfl) (fun _ _ _ h => h) (by kernel_rfl) hS1 (by rfl) (fun w' hw => by obtain ⟨l0, l1, l2, l3, l4, l5, l7⟩ := hw; go_simp) ?_
  simp only [Act.put]
  refine wpAnyE_take (i := 19) (v := .pointer (some ⟨b, 0, none⟩)) rfl (by kernel_rfl) (by kernel_rfl) (by kernel_rfl) (by kernel_rfl) (fun _ _ _ h => h) (by kernel_rfl) hS1 (by rfl) (fun w' hw => by obtain ⟨l0, l1, l2, l3, l4, l5, l7⟩ := hw; go_simp) ?_
  simp only [Act.put]
  refine wpAnyE_take (i := 20) (v := .pointer (some ⟨b, 1, none⟩)) rfl (by kernel_rfl) (by kernel_rfl) (by kernel_rfl) (by kernel_rfl) (fun _ _ _ h => h) (by kernel_rfl) hS1 (by rfl) (fun w' hw => by obtain ⟨l0, l1, l2, l3, l4, l5, l7⟩ := hw; go_simp) ?_
  simp only [Act.put]
  refine wpAnyE_take (i := 21) (v := .int .i64 now) rfl (by kernel_rfl) (by kernel_rfl) (by kernel_rfl) (by kernel_rfl) (fun _ _ _ h => h) (by kernel_rfl) hS1 (by rfl) (fun w' hw => by obtain ⟨l0, l1, l2, l3, l4, l5, l7⟩ := hw; go_simp) ?_
  simp only [Act.put]
  refine wpAnyE_take (i := 22) (v := .pointer (some ⟨w.heap.size, 7, none⟩)) rfl (by kernel_rfl) (by kernel_rfl) (by kernel_rfl) (by kernel_rfl) (fun _ _ _ h => h) (by kernel_rfl) hS1 (by rfl) (fun w' hw => by obtain ⟨l0, l1, l2, l3, l4, l5, l7⟩ := hw; go_simp) ?_
  simp only [Act.put]
  refine wpAnyE_take (i := 23) (v := .int .i64 t) rfl (by kernel_rfl) (by kernel_rfl) (by kernel_rfl) (by kernel_rfl) (fun _ _ _ h => h) (by kernel_rfl) hS1 (by rfl) (fun w' hw => by obtain ⟨l0, l1, l2, l3, l4, l5, l7⟩ := hw; go_simp) ?_
  simp only [Act.put]
  refine wpAnyE_take (i := 24) (v := .int .i64 (now + t)) rfl (by kernel_rfl) (by kernel_rfl) (by kernel_rfl) (by kernel_rfl) (fun _ _ _ h => h) (by kernel_rfl) hS1 (by rfl) (fun w' hw => by obtain ⟨l0, l1, l2, l3, l4, l5, l7⟩ := hw; go_simp) ?_
  simp only [Act.put]
  refine wpAnyE_take (i := 25) (v := cv ((H.length : Int) + 1) g c d q now (now + t) 1) rfl (by kernel_rfl) (by kernel_rfl) (by kernel_rfl) (by kernel_rfl) (fun _ _ _ h => h) (by kernel_rfl) hS1 (by rfl) (fun w' hw => by obtain ⟨l0, l1, l2, l3, l4, l5, l7⟩ := hw; go_simp) ?_
  simp only [Act.put]
  refine wpAnyE_one (i := 26) (v := .slice (some ⟨w.heap.size + 1 + 1, 0, none⟩) 1 1) (w' := ((((w.alloc (.cells (cc 4 id g c d q 0 t) 23)).alloc (.cells #[.int .i64 0, .int .i64 ((H.length : Int) + 1)] 39)).alloc (.cells (cc ((H.length : Int) + 1) g c d q now (now + t) 1) 61)).drew)) rfl (by kernel_rfl) (by rfl) (by first | (go_simp; done) | (go_simp; rfl)) hS2 ?_
  simp only [Act.put]
  refine wpAnyE_append (i := 27) (d := 119) (ty := 46) (tys := #[46, 46]) (s := .tmp 96) (x := .tmp 118) (v := .slice hvl H.length hvc) (sl := .slice (some ⟨w.heap.size + 1 + 1, 0, none⟩) 1 1) (v' := .slice (some ⟨gv, 0, none⟩) (H.length + 1) capv) (w' := w2) (by kernel_rfl) (by kernel_rfl) (by go_simp) (by go_simp) hr hS3 ?_
  simp only [Act.put]
  refine wpAnyE_one (i := 28) (v := .pointer (some ⟨b, 0, none⟩)) (w' := w2) rfl (by kernel_rfl) (by rfl) (by go_simp) hS3 ?_
  simp only [Act.put]
  refine wpAnyE_one (i := 29) (v := .pointer (some ⟨b, 82, none⟩)) (w' := w2) rfl (by kernel_rfl) (by rfl) (by go_simp) hS3 ?_
  simp only [Act.put]
  refine wpAnyE_last (w' := w2.setCell ⟨b, 82, none⟩ (.slice (some ⟨gv, 0, none⟩) (H.length + 1) capv)) rfl (by kernel_rfl) (by kernel_rfl) (by rfl) (by go_simp) ?_
  simp only [Act.put]
  go_wp2
  go_ret
  exact ⟨rfl, _, K3, (Turned.ofBelow Bx).trans T3, fun k hk => by
    rcases Q3 k hk with h | h
    · exact Or.inl h
    · simp at h
      exact Or.inr (by omega)⟩

end Go.Proofs.YtdblmheoghhepaaDoor
