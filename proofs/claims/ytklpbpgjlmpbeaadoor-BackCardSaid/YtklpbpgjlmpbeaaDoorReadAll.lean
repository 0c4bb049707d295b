/- 'read' of package command: a command's numbers off some bytes. -/
import Derived.Test.YtklpbpgjlmpbeaaDoorRight
import Derived.Test.YtklpbpgjlmpbeaaDoorRead
import Derived.Deep.RegionHeld3
namespace Go.Proofs.YtklpbpgjlmpbeaaDoor
open Go.RowKit

def upd (f : Nat → Int) (i : Nat) (n : Int) : Nat → Int := fun j => if i = j then n else f j
/-- The numbers that bytes tell, part by part. -/
def rd : List UInt8 → List Part → (Nat → Int) → (Nat → Int)
  | _, [], f => f
  | l, p :: t, f => rd (l.drop p.width) t (upd f (ix p.need) (num (l.take p.width) - p.lift))
theorem wsum_cons (p : Part) (t : List Part) : wsum (p :: t) = p.width + wsum t := by simp [wsum]
theorem rd_snoc (l : List UInt8) (M : List Part) (p : Part) (f : Nat → Int) : rd l (M ++ [p]) f = upd (rd l M f) (ix p.need) (num ((l.drop (wsum M)).take p.width) - p.lift) := by
  induction M generalizing l f with
  | nil => simp [rd, wsum]
  | cons a t ih =>
    rw [List.cons_append, rd, rd, ih, wsum_cons, List.drop_drop]
theorem wsum_take (L : List Part) (m : Nat) : wsum (L.take m) ≤ wsum L := by
  have e := congrArg wsum (List.take_append_drop m L)
  have e2 : wsum (L.take m ++ L.drop m) = wsum (L.take m) + wsum (L.drop m) := by unfold wsum; rw [List.map_append, List.sum_append]
  omega
theorem numFrom_zero (t : ByteArray) (n : Nat) : numFrom t 0 n = num (t.data.toList.take n) := by simp [numFrom]

/-- What holds at the head of each round of 'read'. -/
def DInv (w : World) (l : List UInt8) (g : Nat) (L : List Part) (k : Nat) (wr : World) : Prop :=
  CmdAt wr w.heap.size (fun _ => 0) ∧ Free wr w.heap.size ∧ CmdAt wr (w.heap.size + 1) (rd l (L.take k) (fun _ => 0)) ∧ Free wr (w.heap.size + 1) ∧ PartsAt wr g L ∧ Below w.heap.size w wr ∧ w.heap.size + 2 ≤ wr.heap.size

theorem below8 {B : Nat} {w wr : World} (hb : Below B w wr) (b : Nat) (hB : B ≤ b) (v0 v1 v2 v3 v4 v5 v6 v7 : Value) : Below B w ((((((((wr.setCell ⟨b, 0, none⟩ v0).setCell ⟨b, 1, none⟩ v1).setCell ⟨b, 2, none⟩ v2).setCell ⟨b, 3, none⟩ v3).setCell ⟨b, 4, none⟩ v4).setCell ⟨b, 5, none⟩ v5).setCell ⟨b, 6, none⟩ v6).setCell ⟨b, 7, none⟩ v7) :=
  (((((((hb.setCell hB v0).setCell hB v1).setCell hB v2).setCell hB v3).setCell hB v4).setCell hB v5).setCell hB v6).setCell hB v7

theorem extract_toList (t : ByteArray) (n : Nat) : (t.extract n t.size).data.toList = t.data.toList.drop n := by
  simp only [ByteArray.data_extract, Array.toList_extract, List.extract_eq_take_drop]
  exact List.take_of_length_le (by simp)

theorem DInv_step {w wr wc : World} {l : List UInt8} {g : Nat} {L : List Part} {k : Nat} {p : Part} {n : Int} (hZ : CmdAt wr w.heap.size (fun _ => 0)) (hZF : Free wr w.heap.size) (hN : CmdAt wr (w.heap.size + 1) (rd l (L.take k) (fun _ => 0))) (hF : Free wr (w.heap.size + 1)) (hp : PartsAt wr g L) (hb : Below w.heap.size w wr)
    (hsz : w.heap.size + 2 ≤ wr.heap.size) (hg : g < w.heap.size) (h1 : Below wr.heap.size wr wc) (hT : L.take (k + 1) = L.take k ++ [p]) (hix : ix p.need < 8) (hn : n = num ((l.drop (wsum (L.take k))).take p.width) - p.lift) :
    DInv w l g L (k + 1) (wc.setCell ⟨w.heap.size + 1, ix p.need, none⟩ (.int .i64 n)) := by
  have hN1 := hN.below h1 (by omega)
  have hF1 := hF.below h1 (by omega)
  have hp1 := hp.below h1
  have hs1 := h1.size
  have keep : ∀ b j, b ≠ w.heap.size + 1 → (wc.setCell ⟨w.heap.size + 1, ix p.need, none⟩ (.int .i64 n)).cell? ⟨b, j, none⟩ = wc.cell? ⟨b, j, none⟩ := fun b j hne => World.cell?_of_block (w := wc) (Below.heap_setCell wc _ _ b hne)
  refine ⟨fun j hj => (keep _ j (by omega)).trans ((hZ.below h1 (by omega)) j hj), ?_, ?_, ?_, hp1.setCell (by simp; omega) _, (hb.trans (h1.mono (by omega))).setCell (by simp) _, by simp; omega⟩
  · intro j
    rw [World.frozen?_setCell]
    exact (hZF.below h1 (by omega)) j
  · intro j hj
    rw [hT, rd_snoc, ← hn]
    unfold upd
    by_cases e : ix p.need = j
    · subst e
      rw [if_pos rfl]
      exact World.cell?_setCell_same' wc _ _ (by rw [hN1 _ hix]; rfl)
    · rw [if_neg e, World.cell?_setCell_other _ _ _ _ (by intro h; cases h; exact e rfl)]
      exact hN1 j hj
  · intro j
    rw [World.frozen?_setCell]
    exact hF1 j

set_option maxRecDepth 100000 in
set_option maxHeartbeats 1000000 in
theorem readAll_any (L : List Part) (g : Nat) (s : ByteArray) (w : World) (hL : L.length ≤ 9) (hs : s.size ≤ maxLen) (hg : g < w.heap.size) (hp : PartsAt w g L) (hw : ∀ p ∈ L, p.width ≤ 4 ∧ 0 ≤ p.lift ∧ p.lift ≤ 4294967296) (hsum : wsum L ≤ s.size) :
    Calls Tryd.prog 59 #[.slice (some ⟨g, 0, none⟩) L.length 9, .string s] w fun e w' => e = .returned (cmdV (rd s.data.toList L fun _ => 0)) ∧ Below w.heap.size w w' := by
  unfold maxLen at hs
  go_enter Tryd.func59, Tryd.ntmps59
  go_wp2
  have I0 : DInv w s.data.toList g L 0 ((w.alloc (.cells (cmdC fun _ => 0) 23)).alloc (.cells (cmdC fun _ => 0) 23)) := by
    have b1 : Below w.heap.size w (w.alloc (.cells (cmdC fun _ => 0) 23)) := (Below.refl _ _).alloc (Nat.le_refl _) _
    have b2 : Below (w.heap.size + 1) (w.alloc (.cells (cmdC fun _ => 0) 23)) ((w.alloc (.cells (cmdC fun _ => 0) 23)).alloc (.cells (cmdC fun _ => 0) 23)) := (Below.refl _ _).alloc (by simp) _
    have b3 := b1.trans (b2.mono (by omega))
    refine ⟨(CmdAt.new w _ 23).below b2 (by omega), (free_new w _ 23).below b2 (by omega), ?_, ?_, hp.belowB b3 hg, b3, by simp⟩
    · simpa [rd] using CmdAt.new (w.alloc (.cells (cmdC fun _ => 0) 23)) (fun _ => 0) 23
    · simpa using free_new (w.alloc (.cells (cmdC fun _ => 0) 23)) (cmdC fun _ => 0) 23
  go_loopw [1, 10] (fun v i wr => ∃ (k : Nat) (t : ByteArray), k ≤ L.length ∧ i = .int .i64 k ∧ v = .string t ∧ t.data.toList = s.data.toList.drop (wsum (L.take k)) ∧ DInv w s.data.toList g L k wr) (fun _ i _ => L.length - (intOf i).toNat)
  case atStart => exact ⟨0, s, by omega, rfl, rfl, by simp [wsum], I0⟩
  case round =>
    obtain ⟨k, t, hk, rfl, rfl, hts, hZ, hZF, hN, hF, hp, hb, hsz⟩ := hrel
    have hts' : Hid (t.data.toList = s.data.toList.drop (wsum (L.take k))) := hts
    clear hts
    by_cases hlt : k < L.length
    · obtain ⟨p, hpk⟩ : ∃ p, L[k]? = some p := ⟨L[k], by simp [hlt]⟩
      obtain ⟨c0, c1, c2, c3, c4⟩ := hp.2 k p hpk
      obtain ⟨w1, w2, w3⟩ := hw p (List.mem_of_getElem? hpk)
      have hix := ix_lt p.need
      have HT : Hid (L.take (k + 1) = L.take k ++ [p]) := by show _ = _; rw [List.take_add_one, hpk]; rfl
      have hgz : g < wr.heap.size := hp.1
      have htl : t.size = s.size - wsum (L.take k) := by
        have := congrArg List.length hts'.out
        simpa using this
      have hsl : wsum (L.take k) + p.width ≤ wsum L := by
        rw [← wsum_snoc, ← HT.out]
        exact wsum_take L (k + 1)
      have ht1 : p.width ≤ t.size := by omega
      have ht2 : t.size ≤ 9223372036854775807 := by omega
      have z1 : w.heap.size < wr.heap.size := by omega
      have z2 : w.heap.size + 1 < wr.heap.size := by omega
      have ne1 : ¬ w.heap.size + 1 = wr.heap.size := by omega
      have ne2 : ¬ wr.heap.size = w.heap.size + 1 := by omega
      have nc := hN (ix p.need) hix
      have fc := hF (ix p.need)
      clear hpk htl hsl hw
      go_wp2
      go_region_held3 (fun w' => w'.cell? ⟨wr.heap.size, 0, none⟩ = some (.int .u16 p.need) ∧ w'.cell? ⟨wr.heap.size, 1, none⟩ = some (.int .i64 p.low) ∧ w'.cell? ⟨wr.heap.size, 2, none⟩ = some (.int .i64 p.high) ∧ w'.cell? ⟨wr.heap.size, 3, none⟩ = some (.int .i64 (p.width : Int)) ∧ w'.cell? ⟨wr.heap.size, 4, none⟩ = some (.int .i64 p.lift)) (first | (go_keep; done) | (simp; done)) (first | (go_at_call 58; refine (in_any p (w.heap.size + 1) _).mono ?_; rintro e wa ⟨rfl, ha⟩; have za : wr.heap.size < wa.heap.size := (by have := ha.size; (try simp at this); omega); have za2 : w.heap.size + 1 < wa.heap.size := (by omega); obtain ⟨ca, fa⟩ := bcell ha) | (go_at_call 87; refine (read_any p t _ (by unfold maxLen; omega) w1 ht1 w2 w3).mono ?_; rintro e wb ⟨rfl, hbb⟩; have zb : wr.heap.size < wb.heap.size := (by have := hbb.size; (try simp at this); omega); have zb2 : w.heap.size + 1 < wb.heap.size := (by omega); obtain ⟨cb, fb⟩ := bcell hbb))
      have h1 : Below wr.heap.size wr wb := (((Below.refl wr.heap.size wr).alloc (Nat.le_refl _) _).drew.trans (ha.mono (by simp))).trans (hbb.mono (by omega))
      have hn : Hid (numFrom t 0 p.width - p.lift = num ((s.data.toList.drop (wsum (L.take k))).take p.width) - p.lift) := by show _ = _; rw [numFrom_zero, hts'.out]
      have J := DInv_step hZ hZF hN hF hp hb hsz hg h1 HT.out hix hn.out
      have T : Hid ((t.extract p.width t.size).data.toList = s.data.toList.drop (wsum (L.take (k + 1)))) := by
        show _ = _
        rw [HT.out, wsum_snoc, ← List.drop_drop, ← hts'.out, extract_toList]
      clear hZ hZF hN hF hp hb hts' hn h1 ca fa cb fb ha hbb I0
      go_wp2
      go_roundw
      case rel => exact ⟨k + 1, _, by omega, by go_num, rfl, T.out, J⟩
      case measure => simp [intOf]; omega
    · have he : k = L.length := by omega
      subst he
      simp only [List.take_length] at hN
      obtain ⟨c0, c1, c2, c3, c4, c5, c6, c7⟩ := hZ.all
      obtain ⟨d0, d1, d2, d3, d4, d5, d6, d7⟩ := hN.all
      have f0 := hZF 0
      have f1 := hZF 1
      have f2 := hZF 2
      have f3 := hZF 3
      have f4 := hZF 4
      have f5 := hZF 5
      have f6 := hZF 6
      have f7 := hZF 7
      clear hZ hZF hN hF hp
      go_wp2
      refine bodyPost_ret (v := cmdV (rd s.data.toList L fun _ => 0)) (by simp [results, Tryd.results59, go_sem, *]) rfl ⟨rfl, ?_⟩
      exact below8 hb _ (Nat.le_refl _) _ _ _ _ _ _ _ _

end Go.Proofs.YtklpbpgjlmpbeaaDoor
