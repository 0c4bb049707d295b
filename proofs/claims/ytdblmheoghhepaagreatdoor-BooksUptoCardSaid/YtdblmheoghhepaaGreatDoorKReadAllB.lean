/- 'read' of package command: a command's numbers off some bytes. -/
import Derived.Test.YtdblmheoghhepaaGreatDoorKBase
import Derived.Test.YtdblmheoghhepaaGreatDoorKRead
import Derived.Deep.RegionHeld3
namespace Go.Proofs.YtdblmheoghhepaaGreatDoor
open Go.RowKit

def upd (f : Nat → Int) (i : Nat) (n : Int) : Nat → Int := fun j => if i = j then n else f j
/-- The numbers that bytes tell, part by part. -/
def rd : List UInt8 → List Part → (Nat → Int) → (Nat → Int)
  | _, [], f => f
  | l, p :: t, f => rd (l.drop p.width) t (upd f (ix p.need) (num (l.take p.width) - p.lift))
theorem wsum_cons (p : Part) (t : List Part) : wsum (p :: t) = p.width + wsum t := by simp [wsum]
theorem rd_snoc (l : List UInt8) (M : List Part) (p : Part) (f : Nat → Int) : rd l (M ++ [p]) f = upd (rd l M f) (ix p.need) (num ((l.drop (wsum M)).take p.width) - p.lift) := by
  induction M generalizing l f with
  | nil => simp [rd, wsum]
  | cons a t ih =>
    rw [List.cons_append, rd, rd, ih, wsum_cons, List.drop_drop]
theorem wsum_take (L : List Part) (m : Nat) : wsum (L.take m) ≤ wsum L := by
  have e := congrArg wsum (List.take_append_drop m L)
  have e2 : wsum (L.take m ++ L.drop m) = wsum (L.take m) + wsum (L.drop m) := by unfold wsum; rw [List.map_append, List.sum_append]
  omega
theorem numFrom_zero (t : ByteArray) (n : Nat) : numFrom t 0 n = num (t.data.toList.take n) := by simp [numFrom]

/-- What holds at the head of each round of 'read'. -/
def DInv (w : World) (l : List UInt8) (g : Nat) (L : List Part) (k : Nat) (wr : World) : Prop :=
  CmdAt wr w.heap.size (fun _ => 0) ∧ Free wr w.heap.size ∧ CmdAt wr (w.heap.size + 1) (rd l (L.take k) (fun _ => 0)) ∧ Free wr (w.heap.size + 1) ∧ PartsAt wr g L ∧ Below w.heap.size w wr ∧ w.heap.size + 2 ≤ wr.heap.size

theorem below8 {B : Nat} {w wr : World} (hb : Below B w wr) (b : Nat) (hB : B ≤ b) (v0 v1 v2 v3 v4 v5 v6 v7 : Value) : Below B w ((((((((wr.setCell ⟨b, 0, none⟩ v0).setCell ⟨b, 1, none⟩ v1).setCell ⟨b, 2, none⟩ v2).setCell ⟨b, 3, none⟩ v3).setCell ⟨b, 4, none⟩ v4).setCell ⟨b, 5, none⟩ v5).setCell ⟨b, 6, none⟩ v6).setCell ⟨b, 7, none⟩ v7) :=
  (((((((hb.setCell hB v0).setCell hB v1).setCell hB v2).setCell hB v3).setCell hB v4).setCell hB v5).setCell hB v6).setCell hB v7

theorem extract_toList (t : ByteArray) (n : Nat) : (t.extract n t.size).data.toList = t.data.toList.drop n := by
  simp only [ByteArray.data_extract, Array.toList_extract, List.extract_eq_take_drop]
  exact List.take_of_length_le (by simp)

theorem DInv_step {w wr wc : World} {l : List UInt8} {g : Nat} {L : List Part} {k : Nat} {p : Part} {n : Int} (hZ : CmdAt wr w.heap.size (fun _ => 0)) (hZF : Free wr w.heap.size) (hN : CmdAt wr (w.heap.size + 1) (rd l (L.take k) (fun _ => 0))) (hF : Free wr (w.heap.size + 1)) (hp : PartsAt wr g L) (hb : Below w.heap.size w wr)
    (hsz : w.heap.size + 2 ≤ wr.heap.size) (hg : g < w.heap.size) (h1 : Below wr.heap.size wr wc) (hT : L.take (k + 1) = L.take k ++ [p]) (hix : ix p.need < 8) (hn : n = num ((l.drop (wsum (L.take k))).take p.width) - p.lift) :
    DInv w l g L (k + 1) (wc.setCell ⟨w.heap.size + 1, ix p.need, none⟩ (.int .i64 n)) := by
  have hN1 := hN.below h1 (by omega)
  have hF1 := hF.below h1 (by omega)
  have hp1 := hp.below h1
  have hs1 := h1.size
  have keep : ∀ b j, b ≠ w.heap.size + 1 → (wc.setCell ⟨w.heap.size + 1, ix p.need, none⟩ (.int .i64 n)).cell? ⟨b, j, none⟩ = wc.cell? ⟨b, j, none⟩ := fun b j hne => World.cell?_of_block (w := wc) (Below.heap_setCell wc _ _ b hne)
  refine ⟨fun j hj => (keep _ j (by omega)).trans ((hZ.below h1 (by omega)) j hj), ?_, ?_, ?_, hp1.setCell (by simp; omega) _, (hb.trans (h1.mono (by omega))).setCell (by simp) _, by simp; omega⟩
  · intro j
    rw [World.frozen?_setCell]
    exact (hZF.below h1 (by omega)) j
  · intro j hj
    rw [hT, rd_snoc, ← hn]
    unfold upd
    by_cases e : ix p.need = j
    · subst e
      rw [if_pos rfl]
      exact World.cell?_setCell_same' wc _ _ (by rw [hN1 _ hix]; rfl)
    · rw [if_neg e, World.cell?_setCell_other _ _ _ _ (by intro h; cases h; exact e rfl)]
      exact hN1 j hj
  · intro j
    rw [World.frozen?_setCell]
    exact hF1 j

set_option maxRecDepth 100000 in
set_option maxHeartbeats 1000000 in
theorem readAll_any (L : List Part) (g : Nat) (s : ByteArray) (w : World) (hL : L.length ≤ 9) (hs : s.size ≤ maxLen) (hg : g < w.heap.size) (hp : PartsAt w g L) (hw : ∀ p ∈ L, p.width ≤ 4 ∧ 0 ≤ p.lift ∧ p.lift ≤ 4294967296) (hsum : wsum L ≤ s.size) :
    Calls Tryz.prog 66 #[.slice (some ⟨g, 0, none⟩) L.length 9, .string s] w fun e w' => e = .returned (cmdV (rd s.data.toList L fun _ => 0)) ∧ Below w.heap.size w w' := by
  unfold maxLen at hs
  go_enter Tryz.func66, Tryz.ntmps66
  go_wp2
  have I0 : DInv w s.data.toList g L 0 ((w.alloc (.cells (cmdC fun _ => 0) 33)).alloc (.cells (cmdC fun _ => 0) 33)) := by
    have b1 : Below w.heap.size w (w.alloc (.cells (cmdC fun _ => 0) 33)) := (Below.refl _ _).alloc (Nat.le_refl _) _
    have b2 : Below (w.heap.size + 1) (w.alloc (.cells (cmdC fun _ => 0) 33)) ((w.alloc (.cells (cmdC fun _ => 0) 33)).alloc (.cells (cmdC fun _ => 0) 33)) := (Below.refl _ _).alloc (by simp) _
    have b3 := b1.trans (b2.mono (by omega))
    refine ⟨(CmdAt.new w _ 33).below b2 (by omega), (free_new w _ 33).below b2 (by omega), ?_, ?_, hp.belowB b3 hg, b3, by simp⟩
    · simpa [rd] using CmdAt.new (w.alloc (.cells (cmdC fun _ => 0) 33)) (fun _ => 0) 33
    · simpa using free_new (w.alloc (.cells (cmdC fun _ => 0) 33)) (cmdC fun _ => 0) 33
  go_loopw [1, 10] (fun v i wr => ∃ (k : Nat) (t : ByteArray), k ≤ L.length ∧ i = .int .i64 k ∧ v = .string t ∧ t.data.toList = s.data.toList.drop (wsum (L.take k)) ∧ DInv w s.data.toList g L k wr) (fun _ i _ => L.length - (intOf i).toNat)
  case atStart => exact ⟨0, s, by omega, rfl, rfl, by simp [wsum], I0⟩
  case round =>
    obtain ⟨k, t, hk, rfl, rfl, hts, hZ, hZF, hN, hF, hp, hb, hsz⟩ := hrel
    have hts' : Hid (t.data.toList = s.data.toList.drop (wsum (L.take k))) := hts
    clear hts
    by_cases hlt : k < L.length
    · obtain ⟨p, hpk⟩ : ∃ p, L[k]? = some p := ⟨L[k], by simp [hlt]⟩
      obtain ⟨c0, c1, c2, c3, c4⟩ := hp.2 k p hpk
      obtain ⟨w1, w2, w3⟩ := hw p (List.mem_of_getElem? hpk)
      have hix := ix_lt p.need
      have HT : Hid (L.take (k + 1) = L.take k ++ [p]) := by show _ = _; rw [List.take_add_one, hpk]; rfl
      have hgz : g < wr.heap.size := hp.1
      have htl : t.size = s.size - wsum (L.take k) := by
        have := congrArg List.length hts'.out
        simpa using this
      have hsl : wsum (L.take k) + p.width ≤ wsum L := by
        rw [← wsum_snoc, ← HT.out]
        exact wsum_take L (k + 1)
      have ht1 : p.width ≤ t.size := by omega
      have ht2 : t.size ≤ 9223372036854775807 := by omega
      have z1 : w.heap.size < wr.heap.size := by omega
      have z2 : w.heap.size + 1 < wr.heap.size := by omega
      have ne1 : ¬ w.heap.size + 1 = wr.heap.size := by omega
      have ne2 : ¬ wr.heap.size = w.heap.size + 1 := by omega
      have nc := hN (ix p.need) hix
      have fc := hF (ix p.need)
      clear hpk htl hsl hw
      go_wp2
      go_region_held3 (fun w' => w'.cell? ⟨wr.heap.size, 0, none⟩ = some (.int .u16 p.need) ∧ w'.cell? ⟨wr.heap.size, 1, none⟩ = some (.int .i64 p.low) ∧ w'.cell? ⟨wr.heap.size, 2, none⟩ = some (.int .i64 p.high) ∧ w'.cell? ⟨wr.heap.size, 3, none⟩ = some (.int .i64 (p.width : Int)) ∧ w'.cell? ⟨wr.heap.size, 4, none⟩ = some (.int .i64 p.lift)) (first | (go_keep; done) | (simp; done)) (first | (go_at_call 69; refine (in_any p (w.heap.size + 1) _).mono ?_; rintro e wa ⟨rfl, ha⟩; have za : wr.heap.size < wa.heap.size := (by have := ha.size; (try simp at this); omega); have za2 : w.heap.size + 1 < wa.heap.size := (by omega); obtain ⟨ca, fa⟩ := bcell ha) | (go_at_call 94; refine (read_any p t _ (by unfold maxLen; omega) w1 ht1 w2 w3).mono ?_; rintro e wb ⟨rfl, hbb⟩; have zb : wr.heap.size < wb.heap.size := (by have := hbb.size; (try simp at this); omega); have zb2 : w.heap.size + 1 < wb.heap.size := (by omega); obtain ⟨cb, fb⟩ := bcell hbb))
      have h1 : Below wr.heap.size wr wb := (((Below.refl wr.heap.size wr).alloc (Nat.le_refl _) _).drew.trans (ha.mono (by simp))).trans (hbb.mono (by omega))
      have hn : Hid (numFrom t 0 p.width - p.lift = num ((s.data.toList.drop (wsum (L.take k))).take p.width) - p.lift) := by show _ = _; rw [numFrom_zero, hts'.out]
      have J := DInv_step hZ hZF hN hF hp hb hsz hg h1 HT.out hix hn.out
      have T : Hid ((t.extract p.width t.size).data.toList = s.data.toList.drop (wsum (L.take (k + 1)))) := by
        show _ = _
        rw [HT.out, wsum_snoc, ← List.drop_drop, ← hts'.out, extract_toList]
      clear hZ hZF hN hF hp hb hts' hn h1 ca fa cb fb ha hbb I0
      go_wp2
      go_roundw
      case rel => exact ⟨k + 1, _, by omega, by go_num, rfl, T.out, J⟩
      case measure => simp [intOf]; omega
    · have he : k = L.length := by omega
      subst he
      simp only [List.take_length] at hN
      obtain ⟨c0, c1, c2, c3, c4, c5, c6, c7⟩ := hZ.all
      obtain ⟨d0, d1, d2, d3, d4, d5, d6, d7⟩ := hN.all
      have f0 := hZF 0
      have f1 := hZF 1
      have f2 := hZF 2
      have f3 := hZF 3
      have f4 := hZF 4
      have f5 := hZF 5
      have f6 := hZF 6
      have f7 := hZF 7
      clear hZ hZF hN hF hp
      go_wp2
      refine bodyPost_ret (v := cmdV (rd s.data.toList L fun _ => 0)) (by simp [results, Tryz.results66, go_sem, *]) rfl ⟨rfl, ?_⟩
      exact below8 hb _ (Nat.le_refl _) _ _ _ _ _ _ _ _

end Go.Proofs.YtdblmheoghhepaaGreatDoor

/- 'Unframe' of package command. -/
namespace Go.Proofs.YtdblmheoghhepaaGreatDoor
open Go.RowKit

theorem table_ok : ∀ p ∈ table, p.width ≤ 4 ∧ 0 ≤ p.lift ∧ p.lift ≤ 4294967296 := by
  intro p hp
  simp [table] at hp
  rcases hp with rfl | rfl | rfl | rfl | rfl | rfl | rfl | rfl | rfl <;> simp
theorem partsL_ok (k : Int) : ∀ p ∈ partsL k, p.width ≤ 4 ∧ 0 ≤ p.lift ∧ p.lift ≤ 4294967296 := fun p hp => table_ok p (List.mem_filter.1 hp).1

abbrev none3 : Value := .tuple #[cmdV fun _ => 0, .int .i64 0, .int .i64 8]

/-- The first two bytes agree: the kind's parts have as many bytes as the length says. -/
def headB (s : ByteArray) : Bool := match s.data.toList with
  | b0 :: b1 :: _ => ((b0.toNat : Int) == ((wsum (partsL (b1.toNat : Int)) : Nat) : Int))
  | _ => false
theorem headB_two (s : ByteArray) (h : 2 ≤ s.size) : headB s = (((s[0]'(by omega)).toNat : Int) == ((wsum (partsL ((s[1]'(by omega)).toNat : Int)) : Nat) : Int)) := by
  obtain ⟨⟨l⟩⟩ := s
  match l, h with
  | b0 :: b1 :: t, _ => rfl
theorem headB_short (s : ByteArray) (h : s.size < 2) : headB s = false := by
  obtain ⟨⟨l⟩⟩ := s
  match l, h with
  | [], _ => rfl
  | [b], _ => rfl

set_option maxRecDepth 100000 in
set_option maxHeartbeats 1000000 in
theorem head_no (s : ByteArray) (w : World) (hT : TabW w) (hs : s.size ≤ maxLen) (h : headB s = false) :
    Calls Tryz.prog 64 #[.string s] w fun e w' => e = .returned (.tuple #[.slice none 0 0, .int .i64 0]) ∧ Below w.heap.size w w' := by
  unfold maxLen at hs
  by_cases h2 : s.size < 2
  · clear h
    go_enter Tryz.func64, Tryz.ntmps64
    go_wp2
    go_ret2
    exact ⟨rfl, Below.refl _ _⟩
  · have h2' : 2 ≤ s.size := by omega
    obtain ⟨L, hL⟩ : ∃ L, L = partsL ((s[1]'(by omega)).toNat : Int) := ⟨_, rfl⟩
    have hm : (((s[0]'(by omega)).toNat : Int) != ((wsum L : Nat) : Int)) = true := by
      rw [headB_two s h2', ← hL] at h
      simpa using h
    have hk1 : wrap64 (((s[1]'(by omega)).toNat : Nat) : Int) = (((s[1]'(by omega)).toNat : Nat) : Int) := w64 _ (by have := (s[1]'(by omega)).toNat_lt; omega)
    have hk0 : wrap64 (((s[0]'(by omega)).toNat : Nat) : Int) = (((s[0]'(by omega)).toNat : Nat) : Int) := w64 _ (by have := (s[0]'(by omega)).toNat_lt; omega)
    have hl9 := partsL_len ((s[1]'(by omega)).toNat : Int)
    have hok := partsL_ok ((s[1]'(by omega)).toNat : Int)
    rw [← hL] at hl9 hok
    have HL : Hid (partsL ((s[1]'(by omega)).toNat : Int) = L) := hL.symm
    clear hL h
    go_enter Tryz.func64, Tryz.ntmps64
    go_wp2_with fail
    refine (partsOf_any _ _ hT).mono ?_
    rw [HL.out]
    rintro e w1 ⟨rfl, hp1, hb1⟩
    go_wp2_with fail
    refine (widthOf_any L _ _ hl9 (fun p hp => (hok p hp).1) hp1).mono ?_
    rintro e w2 ⟨rfl, hb2⟩
    have hB : Below w.heap.size w w2 := hb1.trans (hb2.mono hb1.size)
    clear hp1 hb1 hb2 hT hok
    go_wp2
    go_ret2
    exact ⟨rfl, hB⟩

set_option maxRecDepth 100000 in
set_option maxHeartbeats 1000000 in
theorem head_yes (s : ByteArray) (w : World) (hT : TabW w) (hs : s.size ≤ maxLen) (h2 : 2 ≤ s.size) (h : headB s = true) (L : List Part) (hL : partsL ((s[1]'(by omega)).toNat : Int) = L) :
    Calls Tryz.prog 64 #[.string s] w fun e w' => e = .returned (.tuple #[.slice (some ⟨w.heap.size, 0, none⟩) L.length 9, .int .i64 (1 + (wsum L : Int))]) ∧ PartsAt w' w.heap.size L ∧ Below w.heap.size w w' := by
  unfold maxLen at hs
  have hm : (((s[0]'(by omega)).toNat : Int) != ((wsum L : Nat) : Int)) = false := by
    rw [headB_two s h2, hL] at h
    simpa using h
  have hk1 : wrap64 (((s[1]'(by omega)).toNat : Nat) : Int) = (((s[1]'(by omega)).toNat : Nat) : Int) := w64 _ (by have := (s[1]'(by omega)).toNat_lt; omega)
  have hk0 : wrap64 (((s[0]'(by omega)).toNat : Nat) : Int) = (((s[0]'(by omega)).toNat : Nat) : Int) := w64 _ (by have := (s[0]'(by omega)).toNat_lt; omega)
  have hl9 := partsL_len ((s[1]'(by omega)).toNat : Int)
  have hok := partsL_ok ((s[1]'(by omega)).toNat : Int)
  rw [hL] at hl9 hok
  have hw := wsum_le L fun p hp => (hok p hp).1
  have HL : Hid (partsL ((s[1]'(by omega)).toNat : Int) = L) := hL
  clear hL h
  go_enter Tryz.func64, Tryz.ntmps64
  go_wp2_with fail
  refine (partsOf_any _ _ hT).mono ?_
  rw [HL.out]
  rintro e w1 ⟨rfl, hp1, hb1⟩
  go_wp2_with fail
  refine (widthOf_any L _ _ hl9 (fun p hp => (hok p hp).1) hp1).mono ?_
  rintro e w2 ⟨rfl, hb2⟩
  have hB : Below w.heap.size w w2 := hb1.trans (hb2.mono hb1.size)
  have hp2 := hp1.below hb2
  clear hp1 hb1 hb2 hT hok
  go_wp2
  go_ret2
  exact ⟨rfl, hp2, hB⟩

/-- A zero command's block behind all that came later. -/
theorem zero_new (w : World) {B : Nat} {w1 : World} (hb : Below B (w.alloc (.cells (cmdC fun _ => 0) 33)) w1) (hB : w.heap.size < B) : CmdAt w1 w.heap.size (fun _ => 0) ∧ Free w1 w.heap.size :=
  ⟨(CmdAt.new w _ 33).below hb hB, (free_new w _ 33).below hb hB⟩

set_option maxRecDepth 100000 in
set_option maxHeartbeats 1000000 in
theorem unframe_bad (s : ByteArray) (w : World) (hT : TabW w) (hs : s.size ≤ maxLen) (h : headB s = false) :
    Calls Tryz.prog 41 #[.string s] w fun e w' => e = .returned none3 ∧ Below w.heap.size w w' := by
  go_enter Tryz.func41, Tryz.ntmps41
  go_wp2_with fail
  refine (head_no s _ (hT.alloc _) hs h).mono ?_
  rintro e w2 ⟨rfl, hb2⟩
  simp only [World.size_alloc] at hb2
  obtain ⟨hZ, hF⟩ := zero_new w hb2 (by omega)
  obtain ⟨c0, c1, c2, c3, c4, c5, c6, c7⟩ := hZ.all
  have f0 := hF 0
  have f1 := hF 1
  have f2 := hF 2
  have f3 := hF 3
  have f4 := hF 4
  have f5 := hF 5
  have f6 := hF 6
  have f7 := hF 7
  have hB : Below w.heap.size w w2 := ((Below.refl _ _).alloc (Nat.le_refl _) _).trans (hb2.mono (by omega))
  clear hZ hF hb2 hT
  go_wp2
  refine bodyPost_ret (v := none3) (by simp [results, Tryz.results41, go_sem, *]) rfl ⟨rfl, ?_⟩
  exact below8 hB _ (Nat.le_refl _) _ _ _ _ _ _ _ _

set_option maxRecDepth 100000 in
set_option maxHeartbeats 1000000 in
theorem unframe_cut (s : ByteArray) (w : World) (hT : TabW w) (hs : s.size ≤ maxLen) (h2 : 2 ≤ s.size) (h : headB s = true) (L : List Part) (hL : partsL ((s[1]'(by omega)).toNat : Int) = L) (hlen : s.size < 1 + wsum L) :
    Calls Tryz.prog 41 #[.string s] w fun e w' => e = .returned none3 ∧ Below w.heap.size w w' := by
  have hne : ((1 + (wsum L : Int)) == 0) = false := by
    have : ¬ (1 + (wsum L : Int)) = 0 := by omega
    simpa using this
  have hlt : (s.size : Int) < 1 + (wsum L : Int) := by omega
  go_enter Tryz.func41, Tryz.ntmps41
  go_wp2_with fail
  refine (head_yes s _ (hT.alloc _) hs h2 h L hL).mono ?_
  rintro e w2 ⟨rfl, hp2, hb2⟩
  simp only [World.size_alloc] at hb2
  obtain ⟨hZ, hF⟩ := zero_new w hb2 (by omega)
  obtain ⟨c0, c1, c2, c3, c4, c5, c6, c7⟩ := hZ.all
  have f0 := hF 0
  have f1 := hF 1
  have f2 := hF 2
  have f3 := hF 3
  have f4 := hF 4
  have f5 := hF 5
  have f6 := hF 6
  have f7 := hF 7
  have hB : Below w.heap.size w w2 := ((Below.refl _ _).alloc (Nat.le_refl _) _).trans (hb2.mono (by omega))
  clear hZ hF hb2 hT hp2 hL
  go_wp2
  refine bodyPost_ret (v := none3) (by simp [results, Tryz.results41, go_sem, *]) rfl ⟨rfl, ?_⟩
  exact below8 hB _ (Nat.le_refl _) _ _ _ _ _ _ _ _

theorem unframe_short (s : ByteArray) (w : World) (hT : TabW w) (h : s.size < 2) :
    Calls Tryz.prog 41 #[.string s] w fun e w' => e = .returned none3 ∧ Below w.heap.size w w' := unframe_bad s w hT (by unfold maxLen; omega) (headB_short s h)

theorem unframe_wrong (s : ByteArray) (w : World) (hT : TabW w) (hs : s.size ≤ maxLen) (h : 2 ≤ s.size) (L : List Part) (hL : partsL ((s[1]'(by omega)).toNat : Int) = L)
    (hm : (((s[0]'(by omega)).toNat : Int) != ((wsum L : Nat) : Int)) = true ∨ ((((s[0]'(by omega)).toNat : Int) != ((wsum L : Nat) : Int)) = false ∧ s.size < 1 + wsum L)) :
    Calls Tryz.prog 41 #[.string s] w fun e w' => e = .returned none3 ∧ Below w.heap.size w w' := by
  rcases hm with hm | ⟨hm, hlen⟩
  · exact unframe_bad s w hT hs (by rw [headB_two s h, hL]; simpa using hm)
  · exact unframe_cut s w hT hs h (by rw [headB_two s h, hL]; simpa using hm) L hL hlen

end Go.Proofs.YtdblmheoghhepaaGreatDoor

/- 'Unframe' of package command, where the length is right. -/
namespace Go.Proofs.YtdblmheoghhepaaGreatDoor
open Go.RowKit

/-- What 'Unframe' answers where the length is right. -/
def got3 (b : Bool) (f : Nat → Int) (n : Nat) : Value := if b then .tuple #[cmdV f, .int .i64 (1 + (n : Int)), .int .i64 0] else none3

set_option maxRecDepth 100000 in
set_option maxHeartbeats 1000000 in
theorem unframe_read (s : ByteArray) (w : World) (hT : TabW w) (hs : s.size ≤ maxLen) (h : 2 ≤ s.size) (L : List Part) (hL : partsL ((s[1]'(by omega)).toNat : Int) = L)
    (hm : (((s[0]'(by omega)).toNat : Int) != ((wsum L : Nat) : Int)) = false) (hlen : 1 + wsum L ≤ s.size) :
    Calls Tryz.prog 41 #[.string s] w fun e w' => e = .returned (got3 (rightB (rd (s.data.toList.drop 1) L fun _ => 0)) (rd (s.data.toList.drop 1) L fun _ => 0) (wsum L)) ∧ Below w.heap.size w w' := by
  have hh : headB s = true := by rw [headB_two s h, hL]; simpa using hm
  have hl9 := partsL_len ((s[1]'(by omega)).toNat : Int)
  have hok := partsL_ok ((s[1]'(by omega)).toNat : Int)
  rw [hL] at hl9 hok
  have hw := wsum_le L fun p hp => (hok p hp).1
  have hes : (s.extract 1 s.size).size = s.size - 1 := by simp [ByteArray.size_extract]
  have HX : Hid ((s.extract 1 s.size).data.toList = s.data.toList.drop 1) := extract_toList s 1
  have hsum : wsum L ≤ (s.extract 1 s.size).size := by omega
  have hmx : (s.extract 1 s.size).size ≤ maxLen := by omega
  obtain ⟨F, hF⟩ : ∃ F, F = rd (s.data.toList.drop 1) L fun _ => 0 := ⟨_, rfl⟩
  rw [← hF]
  have HF : Hid (F = rd (s.data.toList.drop 1) L fun _ => 0) := hF
  have hne : ((1 + (wsum L : Int)) == 0) = false := by
    have : ¬ (1 + (wsum L : Int)) = 0 := by omega
    simpa using this
  have hnl : ¬ (s.size : Int) < 1 + (wsum L : Int) := by omega
  have hM := hs
  unfold maxLen at hs
  clear hF hes
  go_enter Tryz.func41, Tryz.ntmps41
  go_wp2_with fail
  refine (head_yes s _ (hT.alloc _) hM h hh L hL).mono ?_
  rintro e w2 ⟨rfl, hp2, hb2⟩
  simp only [World.size_alloc] at hp2 hb2 ⊢
  have hb12 := hb2
  have hs2 := hb2.size
  have hz2 := hp2.1
  clear hb2 hM hh hm hL
  go_wp2_with fail
  refine (readAll_any L (w.heap.size + 1) (s.extract 1 s.size) _ hl9 hmx (by omega) hp2 hok hsum).mono ?_
  rw [HX.out, ← HF.out]
  rintro e w3 ⟨rfl, hb3⟩
  have hs3 := hb3.size
  have hb13 := hb12.trans (hb3.mono (by omega))
  have hB3 : Below w.heap.size w w3 := ((Below.refl _ _).alloc (Nat.le_refl _) _).trans (hb13.mono (by omega))
  have hT3 := hT.below hB3 hT.pos
  clear hp2 hb12 hb3 hT hok hsum hmx
  go_wp2_with fail
  refine (right_any F _ (hT3.alloc _)).mono ?_
  rintro e w4 ⟨rfl, hb4⟩
  simp only [World.size_alloc] at hb4
  have hs4 := hb4.size
  simp only [World.size_alloc] at hs4
  have hC4 := (CmdAt.new w3 F 33).below hb4 (by omega)
  have hb14 : Below (w.heap.size + 1) (w.alloc (.cells (cmdC fun _ => 0) 33)) w4 := (hb13.alloc (by omega) _).trans (hb4.mono (by omega))
  obtain ⟨hZ, hF⟩ := zero_new w hb14 (by omega)
  obtain ⟨c0, c1, c2, c3, c4, c5, c6, c7⟩ := hZ.all
  obtain ⟨d0, d1, d2, d3, d4, d5, d6, d7⟩ := hC4.all
  have f0 := hF 0
  have f1 := hF 1
  have f2 := hF 2
  have f3 := hF 3
  have f4 := hF 4
  have f5 := hF 5
  have f6 := hF 6
  have f7 := hF 7
  have hB : Below w.heap.size w w4 := ((Below.refl _ _).alloc (Nat.le_refl _) _).trans (hb14.mono (by omega))
  have ne1 : ¬ w.heap.size = w3.heap.size := by omega
  have ne2 : ¬ w3.heap.size = w.heap.size := by omega
  clear hZ hF hC4 hb4 hb14 hb13 hB3 hT3
  cases hr : rightB F with
  | true =>
    have hE : rightE F = 0 := by simp [rightE, hr]
    rw [hE]
    go_wp2
    refine bodyPost_ret (v := .tuple #[cmdV F, .int .i64 (1 + (wsum L : Int)), .int .i64 0]) (by simp [results, Tryz.results41, go_sem, *]) rfl ⟨by rw [got3, if_pos hr], ?_⟩
    exact below8 hB _ (Nat.le_refl _) _ _ _ _ _ _ _ _
  | false =>
    have hE : rightE F = 1 := by simp [rightE, hr]
    rw [hE]
    go_wp2
    refine bodyPost_ret (v := none3) (by simp [results, Tryz.results41, go_sem, *]) rfl ⟨by rw [got3, if_neg (by rw [hr]; decide)], ?_⟩
    exact below8 hB _ (Nat.le_refl _) _ _ _ _ _ _ _ _

end Go.Proofs.YtdblmheoghhepaaGreatDoor
