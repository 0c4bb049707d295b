/- 'Frame' of package command. -/
import Derived.Test.YtdblmheoghhepaaGreatDoorKBase
import Derived.Deep.RegionHeld3
import Derived.Deep.RegionWith
namespace Go.Proofs.YtdblmheoghhepaaGreatDoor
open Go.RowKit

/-- The bytes that parts of a command make. -/
def body (f : Nat → Int) : List Part → List Int
  | [] => []
  | p :: t => bytesOf (f (ix p.need) + p.lift) p.width ++ body f t
theorem body_snoc (f : Nat → Int) (M : List Part) (p : Part) : body f (M ++ [p]) = body f M ++ bytesOf (f (ix p.need) + p.lift) p.width := by
  induction M with
  | nil => simp [body]
  | cons a t ih => simp [body, ih]
theorem body_length (f : Nat → Int) (M : List Part) : (body f M).length = wsum M := by
  induction M with
  | nil => simp [body, wsum]
  | cons a t ih => simp [body, ih, bytesOf_length, wsum]
def frameL (f : Nat → Int) : List Int := ((wsum (partsL (f 0)) : Nat) : Int) :: body f (partsL (f 0))

set_option maxRecDepth 100000 in
set_option maxHeartbeats 1000000 in
theorem frame_no (f : Nat → Int) (w : World) (hT : TabW w) (hr : rightB f = false) :
    Calls Tryz.prog 47 #[cmdV f] w fun e w' => e = .returned (.tuple #[.string (strOfNums []), .int .i64 1]) ∧ Below w.heap.size w w' := by
  have hE : rightE f = 1 := by simp [rightE, hr]
  go_enter Tryz.func47, Tryz.ntmps47
  go_wp2_with fail
  refine (right_any f _ (hT.alloc _)).mono ?_
  rintro e w1 ⟨rfl, hb⟩
  rw [hE]
  go_wp2
  go_ret2
  exact ⟨rfl, ((Below.refl _ _).alloc (Nat.le_refl _) _).trans (hb.mono (by simp))⟩

/-- What holds at the head of each round of 'Frame'. -/
def FInv (w : World) (f : Nat → Int) (g : Nat) (L : List Part) (n : Int) (k : Nat) (v : Value) (wr : World) : Prop :=
  CmdAt wr w.heap.size f ∧ PartsAt wr g L ∧ wr.ownsRow (g + 1) 5 1 v (n :: body f (L.take k)).length ((n :: body f (L.take k)).map (Value.int .u8)) ∧ Below w.heap.size w wr ∧ g < wr.heap.size

theorem own_below {w w' : World} {base : Nat} {e : TypeId} {size : Nat} {v : Value} {n : Nat} {xs : List Value} (h : w.ownsRow base e size v n xs) (hb : Below w.heap.size w w') : w'.ownsRow base e size v n xs := by
  obtain ⟨h1, h2⟩ := h
  refine ⟨h1, ?_⟩
  rcases h2 with h2 | ⟨g, cap, cur, hv, hg, hcur, h3⟩
  · exact Or.inl h2
  · refine Or.inr ⟨g, cap, cur, hv, hg, ?_, h3⟩
    have hlt : g < w.heap.size := by
      rcases Nat.lt_or_ge g w.heap.size with h | h
      · exact h
      · rw [Array.getElem?_eq_none (by omega)] at hcur; cases hcur
    rw [hb.block g hlt]; exact hcur

theorem FInv_step {w wr wa w9 : World} {f : Nat → Int} {g : Nat} {L : List Part} {n : Int} {k : Nat} {p : Part} {v' : Value} (hC : CmdAt wr w.heap.size f) (hp : PartsAt wr g L) (hb : Below w.heap.size w wr) (hgz : g < wr.heap.size) (h1 : Below wr.heap.size wr wa) (h9 : Below (g + 1) wa w9) (hs : w.heap.size + 1 ≤ g)
    (hT : L.take (k + 1) = L.take k ++ [p]) (hown : w9.ownsRow (g + 1) 5 1 v' ((n :: body f (L.take k)) ++ bytesOf (f (ix p.need) + p.lift) p.width).length (((n :: body f (L.take k)) ++ bytesOf (f (ix p.need) + p.lift) p.width).map (Value.int .u8))) :
    FInv w f g L n (k + 1) v' w9 := by
  have h2 : Below (g + 1) wr w9 := (h1.mono (by omega)).trans h9
  refine ⟨hC.below h2 (by omega), hp.belowB h2 (by omega), ?_, hb.trans (h2.mono (by omega)), Nat.lt_of_lt_of_le hgz h2.size⟩
  rw [hT, body_snoc]
  exact hown

set_option maxRecDepth 100000 in
set_option maxHeartbeats 1000000 in
theorem frame_yes (f : Nat → Int) (w : World) (hT : TabW w) (hr : rightB f = true) (hw : ∀ p ∈ partsL (f 0), p.width ≤ 4) (hn : ∀ p ∈ partsL (f 0), 0 ≤ f (ix p.need) + p.lift ∧ f (ix p.need) + p.lift ≤ 4294967295) :
    Calls Tryz.prog 47 #[cmdV f] w fun e w' => e = .returned (.tuple #[.string (strOfNums (frameL f)), .int .i64 0]) ∧ Below w.heap.size w w' := by
  have hE : rightE f = 0 := by simp [rightE, hr]
  have hl9 := partsL_len (f 0)
  have hws := wsum_le (partsL (f 0)) hw
  go_enter Tryz.func47, Tryz.ntmps47
  go_wp2_with fail
  refine (right_any f _ (hT.alloc _)).mono ?_
  rintro e w1 ⟨rfl, hb1⟩
  rw [hE]
  have hC1 := (CmdAt.new w f 33).below hb1 (by simp)
  have hB1 : Below w.heap.size w w1 := ((Below.refl _ _).alloc (Nat.le_refl _) _).trans (hb1.mono (by simp))
  have hs1 := hb1.size
  simp only [World.size_alloc] at hs1
  have hT1 := hT.below hB1 hT.pos
  have c0 := hC1 0 (by omega)
  clear hb1 hT
  go_wp2_with fail
  refine (partsOf_any (f 0) _ hT1).mono ?_
  rintro e w2 ⟨rfl, hp2, hb2⟩
  have hs2 := hp2.1
  have hC2 := hC1.below hb2 (by omega)
  have hB2 := hB1.trans (hb2.mono (by omega))
  clear hT1 c0 hC1 hb2 hB1 hE
  generalize hL : partsL (f 0) = L at *
  have HL : Hid (partsL (f 0) = L) := hL
  clear hL
  go_wp2_with fail
  refine (widthOf_any L _ _ hl9 hw hp2).mono ?_
  rintro e w3 ⟨rfl, hb3⟩
  have hp3 := hp2.below hb3
  have hs3 := hb3.size
  have hC3 := hC2.below hb3 (by omega)
  have hB3 := hB2.trans (hb3.mono (by omega))
  clear hp2 hC2 hB2 hb3
  generalize hg : w1.heap.size = g at *
  clear hg
  have I0 : FInv w f g L (wsum L : Nat) 0 (.slice (some ⟨w3.heap.size, 0, none⟩) 1 1) (w3.alloc (.cells #[.int .u8 ((wsum L : Nat) : Int)] 5)) := by
    have b4 : Below w3.heap.size w3 (w3.alloc (.cells #[.int .u8 ((wsum L : Nat) : Int)] 5)) := (Below.refl _ _).alloc (Nat.le_refl _) _
    refine ⟨hC3.below b4 (by omega), hp3.below b4, ?_, hB3.trans (b4.mono (by omega)), by simp; omega⟩
    refine ⟨rfl, Or.inr ⟨w3.heap.size, 1, #[.int .u8 ((wsum L : Nat) : Int)], rfl, by omega, ?_, Nat.le_refl _, by unfold maxLen; omega, rfl, rfl⟩⟩
    exact heap_alloc_new _ _
  clear hp3 hC3 hB3
  go_wp2
  go_loopw [6, 23] (fun v i wr => ∃ k : Nat, k ≤ L.length ∧ i = .int .i64 k ∧ FInv w f g L (wsum L : Nat) k v wr) (fun _ i _ => L.length - (intOf i).toNat)
  case atStart => exact ⟨0, by omega, rfl, I0⟩
  case round =>
    obtain ⟨k, hk, rfl, hC, hp, hown, hb, hgz⟩ := hrel
    by_cases hlt : k < L.length
    · obtain ⟨p, hpk⟩ : ∃ p, L[k]? = some p := ⟨L[k], by simp [hlt]⟩
      obtain ⟨c0, c1, c2, c3, c4⟩ := hp.2 k p hpk
      have w1' := hw p (List.mem_of_getElem? hpk)
      obtain ⟨n1, n2⟩ := hn p (List.mem_of_getElem? hpk)
      have hix := ix_lt p.need
      have HT : Hid (L.take (k + 1) = L.take k ++ [p]) := by show _ = _; rw [List.take_add_one, hpk]; rfl
      have hbl : Hid ((body f (L.take k)).length = wsum (L.take k)) := body_length f (L.take k)
      have hwt : wsum (L.take k) ≤ 36 := by
        have := wsum_le (L.take k) (fun p hp => hw p (List.mem_of_mem_take hp))
        have := List.length_take_le k L
        omega
      have z1 : w.heap.size < wr.heap.size := by omega
      have z0 : w.heap.size ≤ wr.heap.size := by omega
      have nc := hC (ix p.need) hix
      clear hpk hw hn I0
      go_wp2
      go_region_with (first | (go_at_call 69; refine (in_any p w.heap.size _).mono ?_; rintro e wa ⟨rfl, ha⟩; have za : wr.heap.size < wa.heap.size := (by have := ha.size; (try simp at this); omega); have za2 : w.heap.size < wa.heap.size := (by omega); obtain ⟨ca, fa⟩ := bcell ha) | (go_at_call 72; refine (write_any p _ (((wsum L : Nat) : Int) :: body f (L.take k)) (f (ix p.need)) (g + 1) _ (by omega) w1' (by simp [hbl.out]; omega) n1 n2 (own_below (World.ownsRow.drew (hown.alloc _)) ha)).mono ?_; rintro e w9 ⟨v', rfl, hown9, hb9⟩))
      all_goals
        have J := FInv_step hC hp hb hgz (((Below.refl wr.heap.size wr).alloc (Nat.le_refl _) _).drew.trans (ha.mono (by simp))) hb9 hs1 HT.out hown9
        clear hC hp hb hown hown9 hb9 ha ca fa
        go_wp2
        go_roundw
        case rel => exact ⟨k + 1, by omega, by go_num, J⟩
        case measure => simp [intOf]; omega
    · have he : k = L.length := by omega
      subst he
      rw [List.take_length] at hown
      have hcv := own_string hown
      have hfr : Hid (frameL f = ((wsum L : Nat) : Int) :: body f L) := by show _ = _; simp [frameL, HL.out]
      clear hC hp hown
      go_wp2
      go_ret2
      exact ⟨by rw [hfr.out]; rfl, hb⟩

end Go.Proofs.YtdblmheoghhepaaGreatDoor
