/- 'Torn' of package command: whether some bytes are the first ones of a right frame. -/
import Derived.Test.YtdblmheoghhepaaGreatDoorKReadAllB
import Derived.Lib.MinMax
import Derived.Test.YtdblmheoghhepaaGreatDoorKBackPure
import Derived.Test.YtdblmheoghhepaaGreatDoorKAwake
namespace Go.Proofs.YtdblmheoghhepaaGreatDoor
open Go.RowKit

theorem mask_nat (x : Int) (k m : Nat) (hk : k ≤ 32) (hm : m = 2 ^ k - 1) : bits .and .i64 x (m : Int) = x % ((2 ^ k : Nat) : Int) := by
  have hp : (2 : Nat) ^ k ≤ 4294967296 := by
    have : (2 : Nat) ^ k ≤ 2 ^ 32 := Nat.pow_le_pow_right (by omega) hk
    omega
  have h0 : 0 < (2 : Nat) ^ k := Nat.two_pow_pos k
  have h2 : (BitVec.ofInt 64 (m : Int)).toNat = m := by
    rw [BitVec.ofInt_natCast, BitVec.toNat_ofNat]; exact Nat.mod_eq_of_lt (by omega)
  have h1 : (BitVec.ofInt 64 x).toNat = (x % 18446744073709551616).toNat := by
    rw [BitVec.toNat_ofInt]
    rfl
  show IntKind.i64.wrap ((BitVec.ofInt 64 x &&& BitVec.ofInt 64 (m : Int)).toNat : Int) = _
  rw [BitVec.toNat_and, h1, h2, hm, Nat.and_two_pow_sub_one_eq_mod]
  have hdvd : ((2 ^ k : Nat) : Int) ∣ 18446744073709551616 := by
    refine ⟨((2 ^ (64 - k) : Nat) : Int), ?_⟩
    rw [← Int.natCast_mul, ← Nat.pow_add, show k + (64 - k) = 64 by omega]
    rfl
  have e : (((x % 18446744073709551616).toNat % 2 ^ k : Nat) : Int) = x % ((2 ^ k : Nat) : Int) := by
    rw [Int.natCast_emod, Int.toNat_of_nonneg (Int.emod_nonneg _ (by omega)), Int.emod_emod_of_dvd _ hdvd]
  rw [e, IntKind.wrap_i64]
  have b1 := Int.emod_nonneg x (b := ((2 ^ k : Nat) : Int)) (by omega)
  have b2 := Int.emod_lt_of_pos x (b := ((2 ^ k : Nat) : Int)) (by omega)
  omega
theorem mask0 (x : Int) : bits .and .i64 x 0 = x % 1 := mask_nat x 0 0 (by omega) rfl
theorem mask1 (x : Int) : bits .and .i64 x 255 = x % 256 := mask_nat x 8 255 (by omega) rfl
theorem mask2 (x : Int) : bits .and .i64 x 65535 = x % 65536 := mask_nat x 16 65535 (by omega) rfl
theorem mask3 (x : Int) : bits .and .i64 x 16777215 = x % 16777216 := mask_nat x 24 16777215 (by omega) rfl
theorem mask4 (x : Int) : bits .and .i64 x 4294967295 = x % 4294967296 := mask_nat x 32 4294967295 (by omega) rfl

/-- Whether a part's number can begin with these bytes. -/
def canB (p : Part) (l : List UInt8) : Bool := takesB p (p.low + (num l - p.lift - p.low) % ((256 : Int) ^ l.length))
theorem numFrom_all (s : ByteArray) : numFrom s 0 s.size = num s.data.toList := by
  unfold numFrom
  rw [List.drop_zero, Nat.sub_zero, List.take_of_length_le (by simp)]

set_option maxRecDepth 100000 in
set_option maxHeartbeats 1000000 in
theorem canBegin_any (p : Part) (s : ByteArray) (w : World) (hs : s.size ≤ 4) (h1 : -4294967296 ≤ p.low ∧ p.low ≤ 4294967296) (h3 : 0 ≤ p.lift ∧ p.lift ≤ 4294967296) :
    Calls Tryz.prog 93 #[p.val, .string s] w fun e w' => e = .returned (.bool (canB p s.data.toList)) ∧ Below w.heap.size w w' := by
  have hbd := numFrom_bd s 0 s.size (by omega)
  have HN : Hid (numFrom s 0 s.size = num s.data.toList) := numFrom_all s
  have hlen : Hid (s.data.toList.length = s.size) := by show _ = _; simp
  generalize hN : numFrom s 0 s.size = N at *
  have hB : ∀ (wr : World), wr.heap.size = wr.heap.size := fun _ => rfl
  clear hB
  have hc : s.size = 0 ∨ s.size = 1 ∨ s.size = 2 ∨ s.size = 3 ∨ s.size = 4 := by omega
  have fin : ∀ (M : Int) (W : World), M = (256 : Int) ^ s.size → -9223372036854775808 ≤ p.low + (N - p.lift - p.low) % M → takesB p (p.low + (N - p.lift - p.low) % M) = canB p s.data.toList := fun M W hM _ => by
    unfold canB
    rw [hlen.out, ← HN.out, hM]
  have Hfin : Hid (∀ (M : Int) (W : World), M = (256 : Int) ^ s.size → -9223372036854775808 ≤ p.low + (N - p.lift - p.low) % M → takesB p (p.low + (N - p.lift - p.low) % M) = canB p s.data.toList) := fin
  clear fin
  have w1 : IntKind.i64.wrap (N - p.lift) = N - p.lift := by rw [IntKind.wrap_i64]; omega
  have w2 : IntKind.i64.wrap (N - p.lift - p.low) = N - p.lift - p.low := by rw [IntKind.wrap_i64]; omega
  rcases hc with hz | hz | hz | hz | hz
  · have hz' : (s.size : Int) = 0 := by omega
    have hmk : bits BinOp.and IntKind.i64 (N - p.lift - p.low) 0 = (N - p.lift - p.low) % 1 := mask0 _
    have w3 : IntKind.i64.wrap (p.low + (N - p.lift - p.low) % 1) = p.low + (N - p.lift - p.low) % 1 := by rw [IntKind.wrap_i64]; omega
    have HX : Hid (takesB p (p.low + (N - p.lift - p.low) % 1) = canB p s.data.toList) := Hfin.out 1 w (by rw [hz]; rfl) (by omega)
    clear Hfin HN hlen
    go_enter Tryz.func93, Tryz.ntmps93
    go_wp2
    go_region_held3 (fun w' => w'.cell? ⟨w.heap.size, 1, none⟩ = some (.int .i64 p.low) ∧ w'.cell? ⟨w.heap.size, 4, none⟩ = some (.int .i64 p.lift)) (first | (go_keep; done) | (simp; done)) (first | (go_at_call 106; refine (lowFirst_any s _ hs).mono ?_; rw [hN]; rintro e wa ⟨rfl, rfl⟩))
    go_wp2_with fail
    refine (takes_any p _ _).mono ?_
    rw [hmk, HX.out]
    rintro e wb ⟨rfl, hbb⟩
    have B : Below w.heap.size w wb := ((Below.refl _ _).alloc (Nat.le_refl _) _).drew.trans (hbb.mono (by simp))
    go_wp2
    go_ret
    exact ⟨rfl, B⟩
  · have hz' : (s.size : Int) = 1 := by omega
    have hmk : bits BinOp.and IntKind.i64 (N - p.lift - p.low) 255 = (N - p.lift - p.low) % 256 := mask1 _
    have w3 : IntKind.i64.wrap (p.low + (N - p.lift - p.low) % 256) = p.low + (N - p.lift - p.low) % 256 := by rw [IntKind.wrap_i64]; omega
    have HX : Hid (takesB p (p.low + (N - p.lift - p.low) % 256) = canB p s.data.toList) := Hfin.out 256 w (by rw [hz]; rfl) (by omega)
    clear Hfin HN hlen
    go_enter Tryz.func93, Tryz.ntmps93
    go_wp2
    go_region_held3 (fun w' => w'.cell? ⟨w.heap.size, 1, none⟩ = some (.int .i64 p.low) ∧ w'.cell? ⟨w.heap.size, 4, none⟩ = some (.int .i64 p.lift)) (first | (go_keep; done) | (simp; done)) (first | (go_at_call 106; refine (lowFirst_any s _ hs).mono ?_; rw [hN]; rintro e wa ⟨rfl, rfl⟩))
    go_wp2_with fail
    refine (takes_any p _ _).mono ?_
    rw [hmk, HX.out]
    rintro e wb ⟨rfl, hbb⟩
    have B : Below w.heap.size w wb := ((Below.refl _ _).alloc (Nat.le_refl _) _).drew.trans (hbb.mono (by simp))
    go_wp2
    go_ret
    exact ⟨rfl, B⟩
  · have hz' : (s.size : Int) = 2 := by omega
    have hmk : bits BinOp.and IntKind.i64 (N - p.lift - p.low) 65535 = (N - p.lift - p.low) % 65536 := mask2 _
    have w3 : IntKind.i64.wrap (p.low + (N - p.lift - p.low) % 65536) = p.low + (N - p.lift - p.low) % 65536 := by rw [IntKind.wrap_i64]; omega
    have HX : Hid (takesB p (p.low + (N - p.lift - p.low) % 65536) = canB p s.data.toList) := Hfin.out 65536 w (by rw [hz]; rfl) (by omega)
    clear Hfin HN hlen
    go_enter Tryz.func93, Tryz.ntmps93
    go_wp2
    go_region_held3 (fun w' => w'.cell? ⟨w.heap.size, 1, none⟩ = some (.int .i64 p.low) ∧ w'.cell? ⟨w.heap.size, 4, none⟩ = some (.int .i64 p.lift)) (first | (go_keep; done) | (simp; done)) (first | (go_at_call 106; refine (lowFirst_any s _ hs).mono ?_; rw [hN]; rintro e wa ⟨rfl, rfl⟩))
    go_wp2_with fail
    refine (takes_any p _ _).mono ?_
    rw [hmk, HX.out]
    rintro e wb ⟨rfl, hbb⟩
    have B : Below w.heap.size w wb := ((Below.refl _ _).alloc (Nat.le_refl _) _).drew.trans (hbb.mono (by simp))
    go_wp2
    go_ret
    exact ⟨rfl, B⟩
  · have hz' : (s.size : Int) = 3 := by omega
    have hmk : bits BinOp.and IntKind.i64 (N - p.lift - p.low) 16777215 = (N - p.lift - p.low) % 16777216 := mask3 _
    have w3 : IntKind.i64.wrap (p.low + (N - p.lift - p.low) % 16777216) = p.low + (N - p.lift - p.low) % 16777216 := by rw [IntKind.wrap_i64]; omega
    have HX : Hid (takesB p (p.low + (N - p.lift - p.low) % 16777216) = canB p s.data.toList) := Hfin.out 16777216 w (by rw [hz]; rfl) (by omega)
    clear Hfin HN hlen
    go_enter Tryz.func93, Tryz.ntmps93
    go_wp2
    go_region_held3 (fun w' => w'.cell? ⟨w.heap.size, 1, none⟩ = some (.int .i64 p.low) ∧ w'.cell? ⟨w.heap.size, 4, none⟩ = some (.int .i64 p.lift)) (first | (go_keep; done) | (simp; done)) (first | (go_at_call 106; refine (lowFirst_any s _ hs).mono ?_; rw [hN]; rintro e wa ⟨rfl, rfl⟩))
    go_wp2_with fail
    refine (takes_any p _ _).mono ?_
    rw [hmk, HX.out]
    rintro e wb ⟨rfl, hbb⟩
    have B : Below w.heap.size w wb := ((Below.refl _ _).alloc (Nat.le_refl _) _).drew.trans (hbb.mono (by simp))
    go_wp2
    go_ret
    exact ⟨rfl, B⟩
  · have hz' : (s.size : Int) = 4 := by omega
    have hmk : bits BinOp.and IntKind.i64 (N - p.lift - p.low) 4294967295 = (N - p.lift - p.low) % 4294967296 := mask4 _
    have w3 : IntKind.i64.wrap (p.low + (N - p.lift - p.low) % 4294967296) = p.low + (N - p.lift - p.low) % 4294967296 := by rw [IntKind.wrap_i64]; omega
    have HX : Hid (takesB p (p.low + (N - p.lift - p.low) % 4294967296) = canB p s.data.toList) := Hfin.out 4294967296 w (by rw [hz]; rfl) (by omega)
    clear Hfin HN hlen
    go_enter Tryz.func93, Tryz.ntmps93
    go_wp2
    go_region_held3 (fun w' => w'.cell? ⟨w.heap.size, 1, none⟩ = some (.int .i64 p.low) ∧ w'.cell? ⟨w.heap.size, 4, none⟩ = some (.int .i64 p.lift)) (first | (go_keep; done) | (simp; done)) (first | (go_at_call 106; refine (lowFirst_any s _ hs).mono ?_; rw [hN]; rintro e wa ⟨rfl, rfl⟩))
    go_wp2_with fail
    refine (takes_any p _ _).mono ?_
    rw [hmk, HX.out]
    rintro e wb ⟨rfl, hbb⟩
    have B : Below w.heap.size w wb := ((Below.refl _ _).alloc (Nat.le_refl _) _).drew.trans (hbb.mono (by simp))
    go_wp2
    go_ret
    exact ⟨rfl, B⟩

/-- Whether these bytes can go on, part by part. -/
def goB : List UInt8 → List Part → Bool
  | _, [] => true
  | l, p :: t => canB p (l.take p.width) && goB (l.drop p.width) t

theorem take_min (l : List UInt8) (n : Nat) : l.take (min n l.length) = l.take n ∧ l.drop (min n l.length) = l.drop n := by
  rcases Nat.le_total n l.length with h | h
  · rw [Nat.min_eq_left h]; exact ⟨rfl, rfl⟩
  · rw [Nat.min_eq_right h, List.take_of_length_le (Nat.le_refl _), List.take_of_length_le h, List.drop_of_length_le (Nat.le_refl _), List.drop_of_length_le h]; exact ⟨rfl, rfl⟩
theorem extract0_toList (t : ByteArray) (n : Nat) : (t.extract 0 n).data.toList = t.data.toList.take n := by
  simp [ByteArray.data_extract, Array.toList_extract, List.extract_eq_take_drop]

set_option maxRecDepth 100000 in
set_option maxHeartbeats 1000000 in
theorem canGoOn_any (L : List Part) (g : Nat) (s : ByteArray) (w : World) (hL : L.length ≤ 9) (hs : s.size ≤ maxLen) (hp : PartsAt w g L) (hw : ∀ p ∈ L, p.width ≤ 4 ∧ (0 ≤ p.lift ∧ p.lift ≤ 4294967296) ∧ (-4294967296 ≤ p.low ∧ p.low ≤ 4294967296)) :
    Calls Tryz.prog 65 #[.slice (some ⟨g, 0, none⟩) L.length 9, .string s] w fun e w' => e = .returned (.bool (goB s.data.toList L)) ∧ Below w.heap.size w w' := by
  unfold maxLen at hs
  go_enter Tryz.func65, Tryz.ntmps65
  go_wp2
  go_loopw [1, 10] (fun v i wr => ∃ (k : Nat) (t : ByteArray), k ≤ L.length ∧ i = .int .i64 k ∧ v = .string t ∧ t.size ≤ s.size ∧ goB s.data.toList L = goB t.data.toList (L.drop k) ∧ Below w.heap.size w wr) (fun _ i _ => L.length - (intOf i).toNat)
  case atStart => exact ⟨0, s, by omega, rfl, rfl, Nat.le_refl _, rfl, Below.refl _ _⟩
  case round =>
    obtain ⟨k, t, hk, rfl, rfl, hts, hgo, hb⟩ := hrel
    have HG : Hid (goB s.data.toList L = goB t.data.toList (L.drop k)) := hgo
    clear hgo
    have hsz := hb.size
    by_cases hlt : k < L.length
    · obtain ⟨p, hpk⟩ : ∃ p, L[k]? = some p := ⟨L[k], by simp [hlt]⟩
      obtain ⟨c0, c1, c2, c3, c4⟩ := (hp.belowB hb hp.1).2 k p hpk
      obtain ⟨w1, w2, w3⟩ := hw p (List.mem_of_getElem? hpk)
      have hgz : g < wr.heap.size := Nat.lt_of_lt_of_le hp.1 hsz
      obtain ⟨m, hm⟩ : ∃ m : Nat, m = min p.width t.size := ⟨_, rfl⟩
      have hmin : min ((p.width : Nat) : Int) ((t.size : Nat) : Int) = (m : Int) := by omega
      have hm1 : m ≤ t.size := by omega
      have hm4 : (t.extract 0 m).size ≤ 4 := by simp [ByteArray.size_extract]; omega
      have tl : t.data.toList.length = t.size := by simp
      have ht2 : t.size ≤ 9223372036854775807 := by omega
      have HD : Hid (L.drop k = p :: L.drop (k + 1)) := by
        show _ = _
        have hk' : k < L.length := hlt
        rw [List.drop_eq_getElem_cons hk']
        have : L[k] = p := by have := List.getElem?_eq_getElem hk'; rw [this] at hpk; exact Option.some.inj hpk
        rw [this]
      have HT : Hid (canB p (t.extract 0 m).data.toList = canB p (t.data.toList.take p.width) ∧ (t.extract m t.size).data.toList = t.data.toList.drop p.width) := by
        have := take_min t.data.toList p.width
        rw [tl, ← hm] at this
        refine ⟨?_, ?_⟩
        · rw [extract0_toList, this.1]
        · rw [extract_toList, this.2]
      clear hpk hw hp hm
      cases hcb : canB p (t.extract 0 m).data.toList with
      | false =>
        have HC : Hid (goB s.data.toList L = false) := by
          show _ = _
          rw [HG.out, HD.out, goB, ← HT.out.1, hcb]
          rfl
        go_wp2
        go_region_held3 (fun w' => w'.cell? ⟨wr.heap.size, 0, none⟩ = some (.int .u16 p.need) ∧ w'.cell? ⟨wr.heap.size, 1, none⟩ = some (.int .i64 p.low) ∧ w'.cell? ⟨wr.heap.size, 2, none⟩ = some (.int .i64 p.high) ∧ w'.cell? ⟨wr.heap.size, 3, none⟩ = some (.int .i64 (p.width : Int)) ∧ w'.cell? ⟨wr.heap.size, 4, none⟩ = some (.int .i64 p.lift)) (first | (go_keep; done) | (simp; done)) (first | (go_at_call 93; refine (canBegin_any p (t.extract 0 m) _ hm4 w3 w2).mono ?_; rw [hcb]; rintro e wb ⟨rfl, hbb⟩; have zb : wr.heap.size < wb.heap.size := (by have := hbb.size; (try simp at this); omega); obtain ⟨cb, fb⟩ := bcell hbb))
        have h1 : Below w.heap.size w wb := (hb.alloc hsz _).drew.trans (hbb.mono (by simp; omega))
        clear cb fb hbb
        go_wp2
        go_ret
        exact ⟨by (rw [HC.out]) <;> rfl, h1⟩
      | true =>
        have HC : Hid (goB s.data.toList L = goB (t.extract m t.size).data.toList (L.drop (k + 1))) := by
          show _ = _
          rw [HG.out, HD.out, goB, ← HT.out.1, hcb, HT.out.2]
          rfl
        have sx : (t.extract m t.size).size ≤ s.size := by simp [ByteArray.size_extract]; omega
        go_wp2
        go_region_held3 (fun w' => w'.cell? ⟨wr.heap.size, 0, none⟩ = some (.int .u16 p.need) ∧ w'.cell? ⟨wr.heap.size, 1, none⟩ = some (.int .i64 p.low) ∧ w'.cell? ⟨wr.heap.size, 2, none⟩ = some (.int .i64 p.high) ∧ w'.cell? ⟨wr.heap.size, 3, none⟩ = some (.int .i64 (p.width : Int)) ∧ w'.cell? ⟨wr.heap.size, 4, none⟩ = some (.int .i64 p.lift)) (first | (go_keep; done) | (simp; done)) (first | (go_at_call 93; refine (canBegin_any p (t.extract 0 m) _ hm4 w3 w2).mono ?_; rw [hcb]; rintro e wb ⟨rfl, hbb⟩; have zb : wr.heap.size < wb.heap.size := (by have := hbb.size; (try simp at this); omega); obtain ⟨cb, fb⟩ := bcell hbb))
        have h1 : Below w.heap.size w wb := (hb.alloc hsz _).drew.trans (hbb.mono (by simp; omega))
        clear cb fb hbb
        go_wp2
        go_roundw
        case rel => exact ⟨k + 1, _, by omega, by go_num, rfl, sx, HC.out, h1⟩
        case measure => simp [intOf]; omega
    · have he : k = L.length := by omega
      subst he
      have HC : Hid (goB s.data.toList L = true) := by
        show _ = _
        rw [HG.out, List.drop_length]
        cases t.data.toList <;> rfl
      go_wp2
      go_ret
      exact ⟨by (rw [HC.out]) <;> rfl, hb⟩

/-- Whether a number is the length of a kind's frame. -/
def widthB (n : Int) : Bool := (List.range 8).any fun k => ((wsum (partsL ((k : Int) + 1)) : Nat) : Int) == n

set_option maxRecDepth 100000 in
set_option maxHeartbeats 1000000 in
theorem isWidth_any (n : Int) (w : World) (hT : TabW w) :
    Calls Tryz.prog 63 #[.int .i64 n] w fun e w' => e = .returned (.bool (widthB n)) ∧ Below w.heap.size w w' := by
  go_enter Tryz.func63, Tryz.ntmps63
  go_wp2
  go_loopw [3] (fun i wr => ∃ k : Nat, k ≤ 8 ∧ i = .int .i64 ((k : Int) + 1) ∧ ((List.range k).any fun k => ((wsum (partsL ((k : Int) + 1)) : Nat) : Int) == n) = false ∧ Below w.heap.size w wr) (fun i _ => 9 - (intOf i).toNat)
  case atStart => exact ⟨0, Nat.zero_le _, rfl, rfl, Below.refl _ _⟩
  case round =>
    obtain ⟨k, hk, rfl, hno, hb⟩ := hrel
    have HNO : Hid (((List.range k).any fun k => ((wsum (partsL ((k : Int) + 1)) : Nat) : Int) == n) = false) := hno
    clear hno
    have hsz := hb.size
    by_cases hlt : k < 8
    · have kI : (k : Int) + 1 ≤ 8 := by omega
      have hl9 := partsL_len ((k : Int) + 1)
      have hok := partsL_ok ((k : Int) + 1)
      obtain ⟨Lp, eL⟩ : ∃ Lp, Lp = partsL ((k : Int) + 1) := ⟨_, rfl⟩
      have HL : Hid (partsL ((k : Int) + 1) = Lp) := eL.symm
      rw [← eL] at hl9 hok
      clear eL
      have hw := wsum_le Lp fun p hp => (hok p hp).1
      have hT1 := hT.below hb hT.pos
      go_wp2_with fail
      refine (partsOf_any _ _ hT1).mono ?_
      rw [HL.out]
      rintro e w1 ⟨rfl, hp1, hb1⟩
      go_wp2_with fail
      refine (widthOf_any Lp _ _ hl9 (fun p hp => (hok p hp).1) hp1).mono ?_
      rintro e w2 ⟨rfl, hb2⟩
      have B2 : Below w.heap.size w w2 := hb.trans ((hb1.trans (hb2.mono hb1.size)).mono hsz)
      clear hp1 hb1 hb2 hT1 hok hb
      cases hq : (((wsum Lp : Nat) : Int) == n) with
      | true =>
        have HC : Hid (widthB n = true) := by
          show (List.range 8).any _ = true
          rw [List.any_eq_true]
          exact ⟨k, List.mem_range.2 hlt, by rw [HL.out]; exact hq⟩
        go_wp2
        go_ret
        exact ⟨by (rw [HC.out]) <;> rfl, B2⟩
      | false =>
        have HC : Hid (((List.range (k + 1)).any fun k => ((wsum (partsL ((k : Int) + 1)) : Nat) : Int) == n) = false) := by
          show _ = _
          rw [List.range_succ, List.any_append, HNO.out]
          simp [HL.out, hq]
        go_wp2
        go_roundw
        case rel => exact ⟨k + 1, by omega, by go_num, HC.out, B2⟩
        case measure => simp [intOf]; omega
    · have he : k = 8 := by omega
      subst he
      go_wp2
      go_ret
      exact ⟨by (rw [show widthB n = false from HNO.out]) <;> rfl, hb⟩

/-- Whether some bytes are the first ones of a right frame, and not all of it. -/
def tornB : List UInt8 → Bool
  | [] => true
  | [b] => widthB (b.toNat : Int)
  | b0 :: b1 :: t => ((b0.toNat : Int) == ((wsum (partsL (b1.toNat : Int)) : Nat) : Int)) && (decide ((b0 :: b1 :: t).length < 1 + wsum (partsL (b1.toNat : Int))) && goB (b1 :: t) (partsL (b1.toNat : Int)))

theorem table_low : ∀ p ∈ table, p.width ≤ 4 ∧ (0 ≤ p.lift ∧ p.lift ≤ 4294967296) ∧ (-4294967296 ≤ p.low ∧ p.low ≤ 4294967296) := by
  intro p hp
  simp [table] at hp
  rcases hp with rfl | rfl | rfl | rfl | rfl | rfl | rfl | rfl | rfl <;> simp
theorem partsL_low (k : Int) : ∀ p ∈ partsL k, p.width ≤ 4 ∧ (0 ≤ p.lift ∧ p.lift ≤ 4294967296) ∧ (-4294967296 ≤ p.low ∧ p.low ≤ 4294967296) := fun p hp => table_low p (List.mem_filter.1 hp).1

set_option maxRecDepth 100000 in
set_option maxHeartbeats 1000000 in
theorem torn_any (s : ByteArray) (w : World) (hT : TabW w) (hs : s.size ≤ maxLen) :
    Calls Tryz.prog 40 #[.string s] w fun e w' => e = .returned (.bool (tornB s.data.toList)) ∧ Below w.heap.size w w' := by
  have hM := hs
  unfold maxLen at hs
  have tl : s.data.toList.length = s.size := by simp
  by_cases h0 : s.size = 0
  · have HC : Hid (tornB s.data.toList = true) := by
      show _ = _
      rw [List.eq_nil_of_length_eq_zero (tl.trans h0)]
      rfl
    have h0' : (s.size : Int) = 0 := by omega
    clear tl h0 hM
    go_enter Tryz.func40, Tryz.ntmps40
    go_wp2
    go_ret
    exact ⟨by (rw [HC.out]) <;> rfl, Below.refl _ _⟩
  · by_cases h1 : s.size = 1
    · have hk0 : wrap64 (((s[0]'(by omega)).toNat : Nat) : Int) = (((s[0]'(by omega)).toNat : Nat) : Int) := w64 _ (by have := (s[0]'(by omega)).toNat_lt; omega)
      have HC : Hid (tornB s.data.toList = widthB ((s[0]'(by omega)).toNat : Int)) := by
        obtain ⟨⟨l⟩⟩ := s
        match l, h1 with
        | [b], _ => rfl
      have h1' : (s.size : Int) = 1 := by omega
      have hx : 0 < s.size := by omega
      clear h0 hM
      go_enter Tryz.func40, Tryz.ntmps40
      go_wp2_with fail
      refine (isWidth_any _ _ hT).mono ?_
      rintro e w1 ⟨rfl, hb1⟩
      go_wp2
      go_ret
      exact ⟨by (rw [HC.out]) <;> rfl, hb1⟩
    · have h2 : 2 ≤ s.size := by omega
      have h0' : ¬ (s.size : Int) = 0 := by omega
      have h1' : ¬ (s.size : Int) = 1 := by omega
      have e0 : ((s.size : Int) == 0) = false := by simpa using h0'
      have e1 : ((s.size : Int) == 1) = false := by simpa using h1'
      have HT : Hid (tornB s.data.toList = (headB s && (decide (s.size < 1 + wsum (partsL ((s[1]'(by omega)).toNat : Int))) && goB (s.data.toList.drop 1) (partsL ((s[1]'(by omega)).toNat : Int))))) := by
        rw [headB_two s h2]
        obtain ⟨⟨l⟩⟩ := s
        match l, h2 with
        | b0 :: b1 :: t, _ => rfl
      cases hh : headB s with
      | false =>
        have HC : Hid (tornB s.data.toList = false) := by show _ = _; rw [HT.out, hh]; rfl
        have hn : ¬ (s.size : Int) < 0 := by omega
        clear HT
        go_enter Tryz.func40, Tryz.ntmps40
        go_wp2_with fail
        refine (head_no s _ hT hM hh).mono ?_
        rintro e w1 ⟨rfl, hb1⟩
        go_wp2
        go_ret
        exact ⟨by (rw [HC.out]) <;> rfl, hb1⟩
      | true =>
        obtain ⟨L, hL⟩ : ∃ L, partsL ((s[1]'(by omega)).toNat : Int) = L := ⟨_, rfl⟩
        have hl9 := partsL_len ((s[1]'(by omega)).toNat : Int)
        have hok := partsL_low ((s[1]'(by omega)).toNat : Int)
        have hc := head_yes s w hT hM h2 hh L hL
        rw [hL] at hl9 hok
        have hw := wsum_le L fun p hp => (hok p hp).1
        rw [hL, hh, Bool.true_and] at HT
        have HX : Hid ((s.extract 1 s.size).data.toList = s.data.toList.drop 1) := extract_toList s 1
        have hmx : (s.extract 1 s.size).size ≤ maxLen := by unfold maxLen; simp [ByteArray.size_extract]; omega
        clear hL
        by_cases hlen : s.size < 1 + wsum L
        · obtain ⟨Bv, eB⟩ : ∃ Bv, goB (s.extract 1 s.size).data.toList L = Bv := ⟨_, rfl⟩
          have HC : Hid (tornB s.data.toList = Bv) := by show _ = _; rw [← eB, HT.out, HX.out]; simp [hlen]
          have HBv : Hid (goB (s.extract 1 s.size).data.toList L = Bv) := eB
          clear eB
          have hI : (s.size : Int) < 1 + (wsum L : Int) := by omega
          clear HT HX
          go_enter Tryz.func40, Tryz.ntmps40
          go_wp2_with fail
          refine hc.mono ?_
          rintro e w1 ⟨rfl, hp1, hb1⟩
          go_wp2_with fail
          refine (canGoOn_any L _ (s.extract 1 s.size) _ hl9 hmx hp1 hok).mono ?_
          rw [HBv.out]
          rintro e w2 ⟨rfl, hb2⟩
          have B2 : Below w.heap.size w w2 := hb1.trans (hb2.mono hb1.size)
          clear hp1 hb1 hb2 hok
          go_wp2
          go_ret
          exact ⟨by (rw [HC.out]) <;> rfl, B2⟩
        · have HC : Hid (tornB s.data.toList = false) := by show _ = _; rw [HT.out]; simp [hlen]
          have hI : ¬ (s.size : Int) < 1 + (wsum L : Int) := by omega
          clear HT HX
          go_enter Tryz.func40, Tryz.ntmps40
          go_wp2_with fail
          refine hc.mono ?_
          rintro e w1 ⟨rfl, hp1, hb1⟩
          clear hp1 hok
          go_wp2
          go_ret
          exact ⟨by (rw [HC.out]) <;> rfl, hb1⟩

end Go.Proofs.YtdblmheoghhepaaGreatDoor

/- 'accepts', 'Open' of package larder: a ledger of a journal. -/
namespace Go.Proofs.YtdblmheoghhepaaGreatDoor
open Go.RowKit

/-- What 'Unframe' tells of some bytes: the command and its length. -/
def unfL : List UInt8 → Option ((Nat → Int) × Nat)
  | b0 :: b1 :: t => if ((b0.toNat : Int) == ((wsum (partsL (b1.toNat : Int)) : Nat) : Int)) = true ∧ 1 + wsum (partsL (b1.toNat : Int)) ≤ (b0 :: b1 :: t).length ∧ rightB (rd (b1 :: t) (partsL (b1.toNat : Int)) fun _ => 0) = true
      then some (rd (b1 :: t) (partsL (b1.toNat : Int)) fun _ => 0, 1 + wsum (partsL (b1.toNat : Int))) else none
  | _ => none

theorem unf_none (s : ByteArray) (w : World) (hT : TabW w) (hs : s.size ≤ maxLen) (h : unfL s.data.toList = none) :
    Calls Tryz.prog 41 #[.string s] w fun e w' => e = .returned none3 ∧ Below w.heap.size w w' := by
  by_cases h2 : 2 ≤ s.size
  · have hU : unfL s.data.toList = if (((s[0]'(by omega)).toNat : Int) == ((wsum (partsL ((s[1]'(by omega)).toNat : Int)) : Nat) : Int)) = true ∧ 1 + wsum (partsL ((s[1]'(by omega)).toNat : Int)) ≤ s.size ∧ rightB (rd (s.data.toList.drop 1) (partsL ((s[1]'(by omega)).toNat : Int)) fun _ => 0) = true
        then some (rd (s.data.toList.drop 1) (partsL ((s[1]'(by omega)).toNat : Int)) fun _ => 0, 1 + wsum (partsL ((s[1]'(by omega)).toNat : Int))) else none := by
      obtain ⟨⟨l⟩⟩ := s
      match l, h2 with
      | b0 :: b1 :: t, _ => rfl
    rw [hU] at h
    have hn : ¬ ((((s[0]'(by omega)).toNat : Int) == ((wsum (partsL ((s[1]'(by omega)).toNat : Int)) : Nat) : Int)) = true ∧ 1 + wsum (partsL ((s[1]'(by omega)).toNat : Int)) ≤ s.size ∧ rightB (rd (s.data.toList.drop 1) (partsL ((s[1]'(by omega)).toNat : Int)) fun _ => 0) = true) := fun hc => by
      rw [if_pos hc] at h
      cases h
    by_cases hh : headB s = true
    · have h0 : (((s[0]'(by omega)).toNat : Int) == ((wsum (partsL ((s[1]'(by omega)).toNat : Int)) : Nat) : Int)) = true := by rw [← headB_two s h2]; exact hh
      by_cases hl : 1 + wsum (partsL ((s[1]'(by omega)).toNat : Int)) ≤ s.size
      · have hr : rightB (rd (s.data.toList.drop 1) (partsL ((s[1]'(by omega)).toNat : Int)) fun _ => 0) = false := by
          cases hr : rightB (rd (s.data.toList.drop 1) (partsL ((s[1]'(by omega)).toNat : Int)) fun _ => 0) with
          | false => rfl
          | true => exact absurd ⟨h0, hl, hr⟩ hn
        refine (unframe_read s w hT hs h2 _ rfl (by simpa using h0) hl).mono ?_
        rintro e w' ⟨rfl, hb⟩
        rw [hr]
        exact ⟨rfl, hb⟩
      · exact unframe_cut s w hT hs h2 hh _ rfl (by omega)
    · exact unframe_bad s w hT hs (by simpa using hh)
  · exact unframe_short s w hT (by omega)

theorem wsum_pos (k : Int) : 0 < wsum (partsL k) := by
  obtain ⟨r, hr⟩ := parts_head k
  rw [hr, wsum_cons]
  show 0 < 1 + wsum r
  omega

theorem unf_some (s : ByteArray) (w : World) (hT : TabW w) (hs : s.size ≤ maxLen) (f : Nat → Int) (m : Nat) (h : unfL s.data.toList = some (f, m)) :
    (Calls Tryz.prog 41 #[.string s] w fun e w' => e = .returned (.tuple #[cmdV f, .int .i64 (m : Int), .int .i64 0]) ∧ Below w.heap.size w w') ∧ 2 ≤ m ∧ m ≤ s.size := by
  have h2 : 2 ≤ s.size := by
    rcases Nat.lt_or_ge s.size 2 with h2 | h2
    · exfalso
      obtain ⟨⟨l⟩⟩ := s
      match l, h2 with
      | [], _ => cases h
      | [b], _ => cases h
    · exact h2
  have hU : unfL s.data.toList = if (((s[0]'(by omega)).toNat : Int) == ((wsum (partsL ((s[1]'(by omega)).toNat : Int)) : Nat) : Int)) = true ∧ 1 + wsum (partsL ((s[1]'(by omega)).toNat : Int)) ≤ s.size ∧ rightB (rd (s.data.toList.drop 1) (partsL ((s[1]'(by omega)).toNat : Int)) fun _ => 0) = true
      then some (rd (s.data.toList.drop 1) (partsL ((s[1]'(by omega)).toNat : Int)) fun _ => 0, 1 + wsum (partsL ((s[1]'(by omega)).toNat : Int))) else none := by
    obtain ⟨⟨l⟩⟩ := s
    match l, h2 with
    | b0 :: b1 :: t, _ => rfl
  rw [hU] at h
  by_cases hc : ((((s[0]'(by omega)).toNat : Int) == ((wsum (partsL ((s[1]'(by omega)).toNat : Int)) : Nat) : Int)) = true ∧ 1 + wsum (partsL ((s[1]'(by omega)).toNat : Int)) ≤ s.size ∧ rightB (rd (s.data.toList.drop 1) (partsL ((s[1]'(by omega)).toNat : Int)) fun _ => 0) = true)
  · rw [if_pos hc] at h
    simp only [Option.some.injEq, Prod.mk.injEq] at h
    obtain ⟨rfl, rfl⟩ := h
    refine ⟨?_, ?_, hc.2.1⟩
    · refine (unframe_read s w hT hs h2 _ rfl (by simpa using hc.1) hc.2.1).mono ?_
      rintro e w' ⟨rfl, hb⟩
      rw [hc.2.2]
      refine ⟨?_, hb⟩
      show Ending.returned (got3 true _ _) = _
      unfold got3
      rw [if_pos rfl]
      congr 4
    · have : 0 < wsum (partsL ((s[1]'(by omega)).toNat : Int)) := wsum_pos _
      omega
  · rw [if_neg hc] at h
    cases h

theorem do_live_f (w0 : World) (a : Nat) (p : Adr) (S : Led) (f : Nat → Int) (w : World) (h : Live w0 w p S) (ha : Hid (p.a = a)) (hJ : S.J.length ≤ 140737488355000) :
    Calls Tryz.prog 29 #[.pointer (some ⟨a, 0, none⟩), cmdV f] w fun e w' => (∃ E N, e = .returned (ansV E N)) ∧ ∃ p' : Adr, Hid (p'.a = a) ∧ Live w0 w' p' (doD S f).S ∧ Turned p.foot w w' := by
  have e : p.a = a := ha
  subst e
  refine (do_any p S f w h.tab h.led h.ok hJ).mono ?_
  rintro e w' ⟨p', rfl, hL, hT, hF, ha'⟩
  have hb : Below w0.heap.size w w' := ⟨hT.os, hT.tape, hT.output, hT.size, fun k hk => hT.block k (Nat.lt_of_lt_of_le hk h.below.size) (fun e => by have := h.foot k e; omega)⟩
  exact ⟨⟨_, _, rfl⟩, p', ha', ⟨hL, h.tab.turned hT (fun e => by have := h.foot 0 e; have := h.pos; omega), lok_do h.ok _, fun k hk => by
    rcases hF k hk with h1 | h1
    · exact h.foot k h1
    · have := h.below.size; omega, h.below.trans hb, h.pos⟩, hT⟩

theorem LedAt.jslice {w : World} {p : Adr} {S : Led} (h : LedAt w p S) : ∃ x c, p.jv = .slice x S.J.length c := by
  rcases h.jour.2 with ⟨e, e2⟩ | ⟨g, cap, cur, e, _⟩
  · exact ⟨none, 0, by rw [e, e2]⟩
  · exact ⟨_, _, e⟩

set_option maxRecDepth 100000 in
set_option maxHeartbeats 1000000 in
theorem accepts_any (w0 : World) (a : Nat) (p : Adr) (S : Led) (f : Nat → Int) (w : World) (h : Live w0 w p S) (ha : Hid (p.a = a)) (hJ : S.J.length ≤ 140737488355000) :
    Calls Tryz.prog 42 #[.pointer (some ⟨a, 0, none⟩), cmdV f] w fun e w' => e = .returned (.bool (decide (S.J.length < (doD S f).S.J.length))) ∧ ∃ p' : Adr, Hid (p'.a = a) ∧ Live w0 w' p' (doD S f).S := by
  obtain ⟨x, c, ej⟩ := h.led.jslice
  have cj := h.led.cj
  rw [ej, ha.out] at cj
  have hal : a < w.heap.size := by rw [← ha.out]; exact h.led.a_lt
  have b1 : Below w.heap.size w (w.alloc (.cells (cmdC f) 33)) := (Below.refl _ _).alloc (Nat.le_refl _) _
  have h1 := h.mk' b1
  have C1 := CmdAt.new w f 33
  obtain ⟨q0, q1, q2, q3, q4, q5, q6, q7⟩ := C1.all
  clear C1 b1 ej
  go_enter Tryz.func42, Tryz.ntmps42
  go_wp2_with fail
  refine (do_live_f w0 a p S f _ h1 ha hJ).mono ?_
  rintro e w2 ⟨⟨E, N, rfl⟩, p', HA, L2, T2⟩
  obtain ⟨x2, c2, ej2⟩ := L2.led.jslice
  have cj2 := L2.led.cj
  rw [ej2, HA.out] at cj2
  clear T2 h1 h q0 q1 q2 q3 q4 q5 q6 q7 cj
  go_wp2
  go_ret
  refine ⟨ret_bool ?_, p', HA, L2⟩
  simp

/-- What 'Open' makes of some bytes: a ledger, or the number of the frame at which it ends. -/
def openF : Nat → Led → List UInt8 → Nat → Option Led × Nat
  | 0, S, _, _ => (some S, 0)
  | k + 1, S, l, n => if tornB l = true then (some S, 0) else match unfL l with
    | none => (none, n)
    | some fm => if S.J.length < (doD S fm.1).S.J.length then openF k (doD S fm.1).S (l.drop fm.2) (n + 1) else (none, n)

/-- What 'Open' answers. -/
def OpenPost (w : World) (r : Option Led × Nat) (e : Ending) (w' : World) : Prop :=
  match r with
  | (some S, _) => ∃ p : Adr, e = .returned (.tuple #[.pointer (some ⟨p.a, 0, none⟩), .int .i64 0, .int .i64 0]) ∧ Live w w' p S
  | (none, n) => e = .returned (.tuple #[.pointer none, .int .i64 8, .int .i64 (n : Int)]) ∧ Below w.heap.size w w'

set_option maxRecDepth 100000 in
set_option maxHeartbeats 4000000 in
theorem open_to (s : ByteArray) (w : World) (hT : TabW w) (hs : s.size ≤ 1000000000) (Rr : Option Led × Nat) (HR : Hid (openF (s.size + 1) S0 s.data.toList 0 = Rr)) :
    Calls Tryz.prog 20 #[.string s] w (OpenPost w Rr) := by
  go_enter Tryz.func20, Tryz.ntmps20
  go_wp2_with fail
  refine (new_any w).mono ?_
  rintro e w1 ⟨p, rfl, hL, hf, hb⟩
  have V := live_new hT hL hf hb
  obtain ⟨a, ha⟩ : ∃ a, p.a = a := ⟨_, rfl⟩
  rw [ha]
  have HA : Hid (p.a = a) := ha
  clear hL hf hb ha
  go_wp2
  go_loopw [0, 6] (fun v i wr => ∃ (n k : Nat) (t : ByteArray) (p : Adr) (S : Led), v = .string t ∧ i = .int .i64 (n : Int) ∧ n + t.size ≤ s.size ∧ t.size < k ∧ S.J.length ≤ 37 * n ∧ openF k S t.data.toList n = Rr ∧ Hid (p.a = a) ∧ Live w wr p S) (fun _ i _ => s.size - (intOf i).toNat)
  case atStart => exact ⟨0, s.size + 1, s, p, S0, rfl, rfl, by omega, by omega, by show 0 ≤ _; omega, HR.out, HA, V⟩
  case round =>
    clear V HA HR
    obtain ⟨n, k, t, p, S, rfl, rfl, hn, hk, hJ, hR, HA, V⟩ := hrel
    obtain ⟨k, rfl⟩ : ∃ k', k = k' + 1 := ⟨k - 1, by omega⟩
    have htm : t.size ≤ maxLen := by unfold maxLen; omega
    cases htn : tornB t.data.toList with
    | true =>
      have HR : Hid (Rr = (some S, 0)) := by show _ = _; rw [← hR, openF, if_pos htn]
      clear hR
      go_wp2_with fail
      refine (torn_any t _ V.tab htm).mono ?_
      rw [htn]
      rintro e w2 ⟨rfl, hb2⟩
      have V2 := V.mk' hb2
      clear V
      go_wp2
      rw [HR.out]
      refine bodyPost_ret (v := .tuple #[.pointer (some ⟨a, 0, none⟩), .int .i64 0, .int .i64 0]) (by simp [results, Tryz.results20, go_sem]) rfl ?_
      exact ⟨p, by rw [HA.out], V2⟩
    | false =>
      cases hu : unfL t.data.toList with
      | none =>
        have HR : Hid (Rr = (none, n)) := by
          show _ = _
          rw [← hR, openF, if_neg (by rw [htn]; decide), hu]
        clear hR
        go_wp2_with fail
        refine (torn_any t _ V.tab htm).mono ?_
        rw [htn]
        rintro e w2 ⟨rfl, hb2⟩
        have V2 := V.mk' hb2
        clear V
        go_wp2_with fail
        refine (unf_none t _ V2.tab htm hu).mono ?_
        rintro e w3 ⟨rfl, hb3⟩
        have V3 := V2.mk' hb3
        have V4 := V3.mk' ((Below.refl _ _).alloc (Nat.le_refl _) (.cells (cmdC fun _ => 0) 33))
        clear V2 hb2 hb3
        go_wp2
        rw [HR.out]
        refine bodyPost_ret (v := .tuple #[.pointer none, .int .i64 8, .int .i64 (n : Int)]) (by simp [results, Tryz.results20, go_sem]) rfl ?_
        exact ⟨rfl, V4.below⟩
      | some fm =>
        obtain ⟨F, m⟩ := fm
        have hU := fun (W : World) (hW : TabW W) => unf_some t W hW htm F m hu
        have hm2 := (hU _ V.tab).2
        have hJ2 := j_do S F
        have hstep : openF (k + 1) S t.data.toList n = if S.J.length < (doD S F).S.J.length then openF k (doD S F).S (t.data.toList.drop m) (n + 1) else (none, n) := by
          rw [openF, if_neg (by rw [htn]; decide), hu]
        rw [hstep] at hR
        go_wp2_with fail
        refine (torn_any t _ V.tab htm).mono ?_
        rw [htn]
        rintro e w2 ⟨rfl, hb2⟩
        have V2 := V.mk' hb2
        clear V
        go_wp2_with fail
        refine ((hU _ V2.tab).1).mono ?_
        rintro e w3 ⟨rfl, hb3⟩
        have V3 := V2.mk' hb3
        have V4 := V3.mk' ((Below.refl _ _).alloc (Nat.le_refl _) (.cells (cmdC F) 33))
        have C4 := CmdAt.new w3 F 33
        obtain ⟨q0, q1, q2, q3, q4, q5, q6, q7⟩ := C4.all
        clear V2 hb2 hb3 hU V3 C4
        by_cases hac : S.J.length < (doD S F).S.J.length
        · rw [if_pos hac] at hR
          have HR : Hid (openF k (doD S F).S (t.data.toList.drop m) (n + 1) = Rr) := hR
          have hdc : decide (S.J.length < (doD S F).S.J.length) = true := decide_eq_true hac
          have hx : (t.extract m t.size).data.toList = t.data.toList.drop m := extract_toList t m
          have HX : Hid ((t.extract m t.size).data.toList = t.data.toList.drop m) := hx
          have hxs : (t.extract m t.size).size = t.size - m := by simp [ByteArray.size_extract]
          have mI : (m : Int) ≤ (t.size : Int) := by omega
          have ht63 : t.size ≤ 9223372036854775807 := by unfold maxLen at htm; omega
          clear hR hstep hu hx
          go_wp2_with fail
          refine (accepts_any w a p S F _ V4 HA (by omega)).mono ?_
          rw [hdc]
          rintro e w5 ⟨rfl, p5, HA5, V5⟩
          clear V4 q0 q1 q2 q3 q4 q5 q6 q7
          go_wp2
          refine ⟨⟨n + 1, k, t.extract m t.size, p5, (doD S F).S, rfl, by go_num, by omega, by omega, by omega, by rw [HX.out]; exact HR.out, HA5, V5⟩, by simp [intOf]; omega⟩
        · rw [if_neg hac] at hR
          have HR : Hid (Rr = (none, n)) := hR.symm
          have hdc : decide (S.J.length < (doD S F).S.J.length) = false := decide_eq_false hac
          clear hR hstep hu
          go_wp2_with fail
          refine (accepts_any w a p S F _ V4 HA (by omega)).mono ?_
          rw [hdc]
          rintro e w5 ⟨rfl, p5, HA5, V5⟩
          clear V4 q0 q1 q2 q3 q4 q5 q6 q7
          go_wp2
          rw [HR.out]
          refine bodyPost_ret (v := .tuple #[.pointer none, .int .i64 8, .int .i64 (n : Int)]) (by simp [results, Tryz.results20, go_sem]) rfl ?_
          exact ⟨rfl, V5.below⟩

theorem open_any (s : ByteArray) (w : World) (hT : TabW w) (hs : s.size ≤ 1000000000) :
    Calls Tryz.prog 20 #[.string s] w (OpenPost w (openF (s.size + 1) S0 s.data.toList 0)) := open_to s w hT hs _ rfl

end Go.Proofs.YtdblmheoghhepaaGreatDoor

/- A journal tells the ledger whose journal it is; cut anywhere it tells what that was behind some of its last commands less. -/
namespace Go.Proofs.YtdblmheoghhepaaGreatDoor
open Go.RowKit
set_option maxRecDepth 100000

/-! ### What hangs on a command's eight numbers alone -/
theorem refOk_congr {f g : Nat → Int} (h : ∀ j, j < 8 → f j = g j) : refOk f = refOk g := by
  unfold refOk
  rw [h 0 (by omega), h 1 (by omega), h 2 (by omega), h 3 (by omega), h 4 (by omega), h 5 (by omega), h 6 (by omega), h 7 (by omega)]
theorem dec_congr (S : Led) {f g : Nat → Int} (h : ∀ j, j < 8 → f j = g j) : dec S f = dec S g := by
  unfold dec
  rw [h 0 (by omega), h 2 (by omega), h 3 (by omega), h 4 (by omega), h 5 (by omega), h 6 (by omega), h 7 (by omega)]
theorem body_congr {f g : Nat → Int} (h : ∀ j, j < 8 → f j = g j) (L : List Part) : body f L = body g L := by
  induction L with
  | nil => rfl
  | cons p t ih => rw [body, body, ih, h _ (ix_lt p.need)]
theorem frS_congr {f g : Nat → Int} (h : ∀ j, j < 8 → f j = g j) : frS f = frS g := by
  unfold frS frameL
  rw [h 0 (by omega), body_congr h]
theorem ansRow_congr {f g : Nat → Int} (h : ∀ j, j < 8 → f j = g j) (E N : Int) : ansRow f E N = ansRow g E N := by
  unfold ansRow
  rw [h 0 (by omega), h 1 (by omega), h 2 (by omega), h 3 (by omega), h 4 (by omega), h 5 (by omega), h 6 (by omega), h 7 (by omega)]
theorem same8_congr (r : Nat → Int) {f g : Nat → Int} (h : ∀ j, j < 8 → f j = g j) : same8 r f = same8 r g := by
  unfold same8
  rw [h 0 (by omega), h 1 (by omega), h 2 (by omega), h 3 (by omega), h 4 (by omega), h 5 (by omega), h 6 (by omega), h 7 (by omega)]
theorem doD_congr (S : Led) {f g : Nat → Int} (h : ∀ j, j < 8 → f j = g j) : doD S f = doD S g := by
  unfold doD
  rw [refOk_congr h, h 1 (by omega), dec_congr S h, frS_congr h, ansRow_congr h]
  simp only [same8_congr _ h]

/-! ### A frame's bytes -/
def fB (f : Nat → Int) : List UInt8 := bytesU (frameL f)
theorem frS_list (f : Nat → Int) : (frS f).data.toList = fB f := by
  have := frame_list f ByteArray.empty
  unfold frS fB frameL
  simp [strOfNums, bytesU]
theorem fB_len (f : Nat → Int) : (fB f).length = 1 + wsum (partsL (f 0)) := by
  unfold fB
  rw [bytesU_length, frameL, List.length_cons, body_length]
  omega
theorem fB_two {F : Nat → Int} (hr : refOk F = true) : ∃ r, fB F = UInt8.ofNat (wsum (partsL (F 0))) :: UInt8.ofNat (F 0).toNat :: r ∧ bytesU (body F (partsL (F 0))) = UInt8.ofNat (F 0).toNat :: r ∧ (UInt8.ofNat (wsum (partsL (F 0)))).toNat = wsum (partsL (F 0)) ∧ (((UInt8.ofNat (F 0).toNat).toNat : Nat) : Int) = F 0 := by
  have hk := refOk_kind F hr
  have hw := wsum_bd _ hk.1 hk.2
  obtain ⟨r, hp⟩ := parts_head (F 0)
  refine ⟨bytesU (body F r), ?_, ?_, ?_, ?_⟩
  · unfold fB frameL
    rw [hp]
    show _ :: (bytesU (bytesOf (F 0 + 0) 1 ++ body F r)) = _
    rw [bytesU_append]
    show _ :: (UInt8.ofNat ((F 0 + 0) % 256).toNat :: bytesU (body F r)) = _
    rw [Int.add_zero, show (F 0) % 256 = F 0 by omega]
    rfl
  · rw [hp]
    show bytesU (bytesOf (F 0 + 0) 1 ++ body F r) = _
    rw [bytesU_append]
    show UInt8.ofNat ((F 0 + 0) % 256).toNat :: bytesU (body F r) = _
    rw [Int.add_zero, show (F 0) % 256 = F 0 by omega]
  · rw [UInt8.toNat_ofNat']
    omega
  · rw [UInt8.toNat_ofNat']
    omega

theorem rd_frame {F : Nat → Int} (hr : refOk F = true) (t : List UInt8) : ∀ j, j < 8 → rd (bytesU (body F (partsL (F 0))) ++ t) (partsL (F 0)) (fun _ => 0) j = F j := by
  have hb : rightB F = true := by rw [right_ref]; exact hr
  have hfit := fits_bytes F hb
  have hs : same8 (nd (partsL (F 0)) F) F = true := by
    unfold rightB at hb
    simp only [Bool.and_eq_true] at hb
    exact hb.2
  intro j hj
  rw [rd_body F _ t _ hfit j]
  have := same8_at _ _ hs j hj
  unfold nd at this
  exact this

theorem unfL_two (b0 b1 : UInt8) (t : List UInt8) : unfL (b0 :: b1 :: t) = if ((b0.toNat : Int) == ((wsum (partsL (b1.toNat : Int)) : Nat) : Int)) = true ∧ 1 + wsum (partsL (b1.toNat : Int)) ≤ (b0 :: b1 :: t).length ∧ rightB (rd (b1 :: t) (partsL (b1.toNat : Int)) fun _ => 0) = true
      then some (rd (b1 :: t) (partsL (b1.toNat : Int)) fun _ => 0, 1 + wsum (partsL (b1.toNat : Int))) else none := rfl
theorem tornB_two (b0 b1 : UInt8) (t : List UInt8) : tornB (b0 :: b1 :: t) = (((b0.toNat : Int) == ((wsum (partsL (b1.toNat : Int)) : Nat) : Int)) && (decide ((b0 :: b1 :: t).length < 1 + wsum (partsL (b1.toNat : Int))) && goB (b1 :: t) (partsL (b1.toNat : Int)))) := rfl

theorem unfL_frame {F : Nat → Int} (hr : refOk F = true) (t : List UInt8) : ∃ G, unfL (fB F ++ t) = some (G, 1 + wsum (partsL (F 0))) ∧ ∀ j, j < 8 → G j = F j := by
  obtain ⟨r, h1, h2, h3, h4⟩ := fB_two hr
  have hrd := rd_frame hr t
  rw [h2] at hrd
  refine ⟨rd ((UInt8.ofNat (F 0).toNat :: r) ++ t) (partsL (F 0)) fun _ => 0, ?_, hrd⟩
  have hlen := fB_len F
  rw [h1] at hlen ⊢
  show unfL (UInt8.ofNat (wsum (partsL (F 0))) :: UInt8.ofNat (F 0).toNat :: (r ++ t)) = _
  rw [unfL_two, h4, h3]
  have hright : rightB (rd (UInt8.ofNat (F 0).toNat :: (r ++ t)) (partsL (F 0)) fun _ => 0) = true := by
    rw [right_ref]
    exact (refOk_congr (g := F) hrd).trans hr
  rw [if_pos ⟨by simp, by simp at hlen ⊢; omega, hright⟩]
  rfl

theorem torn_frame {F : Nat → Int} (hr : refOk F = true) (t : List UInt8) : tornB (fB F ++ t) = false := by
  obtain ⟨r, h1, h2, h3, h4⟩ := fB_two hr
  have hlen := fB_len F
  rw [h1] at hlen ⊢
  show tornB (UInt8.ofNat (wsum (partsL (F 0))) :: UInt8.ofNat (F 0).toNat :: (r ++ t)) = _
  rw [tornB_two, h4, h3]
  have : ¬ (UInt8.ofNat (wsum (partsL (F 0))) :: UInt8.ofNat (F 0).toNat :: (r ++ t)).length < 1 + wsum (partsL (F 0)) := by simp at hlen ⊢; omega
  rw [decide_eq_false this]
  simp

/-! ### What was accepted -/
def accS (S : Led) (f : Nat → Int) : Led := { (dec S f).S with A := pushA S.A (ansRow f 0 (dec S f).N), J := S.J ++ bytesS (frS f) }
/-- The command f is accepted of S. -/
def Acc (S : Led) (f : Nat → Int) : Prop := refOk f = true ∧ hitOf S.A (f 1) = none ∧ (dec S f).E = 0
theorem do_acc {S : Led} {f : Nat → Int} (h : Acc S f) : doD S f = ⟨accS S f, 0, (dec S f).N⟩ := by
  obtain ⟨h1, h2, h3⟩ := h
  unfold doD accS
  rw [if_pos h1, h2]
  simp only [h3, if_true]
theorem frS_size_pos (f : Nat → Int) : 0 < (frS f).size := by
  have := congrArg List.length (frS_list f)
  rw [fB_len] at this
  simp at this
  omega
theorem do_nacc {S : Led} {f : Nat → Int} (h : ¬ Acc S f) : (doD S f).S = S := by
  unfold doD
  split
  · rename_i h1
    split
    · split <;> rfl
    · rename_i h2
      split
      · rename_i h3; exact absurd ⟨h1, h2, h3⟩ h
      · rfl
  · rfl

/-- From S, the commands fs are accepted one behind the other, and then it is T. -/
def Hist : List (Nat → Int) → Led → Led → Prop
  | [], S, T => T = S
  | f :: r, S, T => Acc S f ∧ Hist r (accS S f) T
theorem hist_snoc {fs : List (Nat → Int)} {S T : Led} {f : Nat → Int} (h : Hist fs S T) (ha : Acc T f) : Hist (fs ++ [f]) S (accS T f) := by
  induction fs generalizing S with
  | nil => cases h; exact ⟨ha, rfl⟩
  | cons g r ih => exact ⟨h.1, ih h.2⟩
theorem hist_app {fs gs : List (Nat → Int)} {S T : Led} (h : Hist (fs ++ gs) S T) : ∃ U, Hist fs S U ∧ Hist gs U T := by
  induction fs generalizing S with
  | nil => exact ⟨S, rfl, h⟩
  | cons g r ih =>
    obtain ⟨U, h1, h2⟩ := ih h.2
    exact ⟨U, ⟨h.1, h1⟩, h2⟩
theorem hist_fun {fs : List (Nat → Int)} {S T T' : Led} (h : Hist fs S T) (h' : Hist fs S T') : T = T' := by
  induction fs generalizing S with
  | nil => exact h.trans h'.symm
  | cons g r ih => exact ih h.2 h'.2
def fsB (fs : List (Nat → Int)) : List UInt8 := fs.flatMap fB
theorem hist_J {fs : List (Nat → Int)} {S T : Led} (h : Hist fs S T) : bytesU T.J = bytesU S.J ++ fsB fs := by
  induction fs generalizing S with
  | nil => cases h; simp [fsB]
  | cons g r ih =>
    rw [ih h.2]
    show bytesU (S.J ++ bytesS (frS g)) ++ fsB r = _
    rw [bytesU_append, List.append_assoc]
    congr 1
    show _ = fB g ++ fsB r
    congr 1
    rw [← frS_list]
    unfold bytesU bytesS
    rw [List.map_map]
    conv => rhs; rw [← List.map_id (frS g).data.toList]
    apply List.map_congr_left
    intro b _
    simp

theorem open_hist {fs : List (Nat → Int)} {S T : Led} (h : Hist fs S T) (t : List UInt8) (ht : tornB t = true) : ∀ k n, (fsB fs ++ t).length < k → openF k S (fsB fs ++ t) n = (some T, 0) := by
  induction fs generalizing S with
  | nil =>
    intro k n hk
    obtain ⟨k, rfl⟩ : ∃ k', k = k' + 1 := ⟨k - 1, by omega⟩
    have e : T = S := h
    rw [e]
    show openF (k + 1) S t n = _
    rw [openF, if_pos ht]
  | cons f r ih =>
    intro k n hk
    obtain ⟨k, rfl⟩ : ∃ k', k = k' + 1 := ⟨k - 1, by omega⟩
    have hl := fB_len f
    have e : fsB (f :: r) ++ t = fB f ++ (fsB r ++ t) := by simp [fsB]
    rw [e] at hk ⊢
    obtain ⟨G, hu, hG⟩ := unfL_frame h.1.1 (fsB r ++ t)
    have hd : doD S G = ⟨accS S f, 0, (dec S f).N⟩ := (doD_congr S hG).trans (do_acc h.1)
    have hlt : S.J.length < (doD S G).S.J.length := by
      rw [hd]
      show S.J.length < (S.J ++ bytesS (frS f)).length
      have := frS_size_pos f
      rw [List.length_append, bytesS_len]
      omega
    rw [openF, if_neg (by rw [torn_frame h.1.1]; decide), hu]
    simp only [hlt, if_true]
    rw [hd, ← hl, List.drop_left]
    exact ih h.2 k (n + 1) (by rw [List.length_append] at hk; omega)

/-! ### A beginning of a frame is torn -/
theorem bytesOf_take (n : Int) (k m : Nat) (h : m ≤ k) : (bytesOf n k).take m = bytesOf n m := by
  induction k generalizing n m with
  | zero => have : m = 0 := by omega
            subst this; rfl
  | succ k ih =>
    cases m with
    | zero => rfl
    | succ m => rw [bytesOf, List.take_succ_cons, ih (n / 256) m (by omega), bytesOf]
theorem num_mod (n : Int) (k : Nat) : num (bytesU (bytesOf n k)) = n % (256 : Int) ^ k := by
  induction k generalizing n with
  | zero => simp [bytesOf, bytesU, num]
  | succ k ih =>
    have e : num (bytesU (bytesOf n (k + 1))) = ((UInt8.ofNat (n % 256).toNat).toNat : Int) + 256 * num (bytesU (bytesOf (n / 256) k)) := rfl
    have e2 : ((UInt8.ofNat (n % 256).toNat).toNat : Int) = n % 256 := by
      rw [UInt8.toNat_ofNat']
      omega
    rw [e, ih, e2, Int.pow_succ]
    have hp : 0 < (256 : Int) ^ k := Int.pow_pos (by omega)
    have h1 := Int.emod_add_mul_ediv n 256
    have h2 := Int.emod_add_mul_ediv (n / 256) ((256 : Int) ^ k)
    generalize hq : n / 256 / (256 : Int) ^ k = Q at *
    generalize hm : n / 256 % (256 : Int) ^ k = M at *
    have hM0 : 0 ≤ M := by rw [← hm]; exact Int.emod_nonneg _ (by omega)
    have hM1 : M < (256 : Int) ^ k := by rw [← hm]; exact Int.emod_lt_of_pos _ hp
    have e3 : n = (n % 256 + 256 * M) + ((256 : Int) ^ k * 256) * Q := by
      have : 256 * (n / 256) = 256 * M + (256 : Int) ^ k * 256 * Q := by
        rw [← h2, Int.mul_add, Int.mul_comm ((256 : Int) ^ k) 256, Int.mul_assoc]
      omega
    conv => rhs; rw [e3]
    rw [Int.add_mul_emod_self_left]
    symm
    apply Int.emod_eq_of_lt
    · omega
    · omega

theorem canB_begin {p : Part} (hp : p ∈ table) {x : Int} (hx : takesB p x = true) (m : Nat) (hm : m ≤ p.width) : canB p ((bytesU (bytesOf (x + p.lift) p.width)).take m) = true := by
  have e1 : (bytesU (bytesOf (x + p.lift) p.width)).take m = bytesU (bytesOf (x + p.lift) m) := by
    unfold bytesU
    rw [← List.map_take, bytesOf_take _ _ _ hm]
  have e2 : (bytesU (bytesOf (x + p.lift) m)).length = m := by rw [bytesU_length, bytesOf_length]
  unfold canB
  rw [e1, e2, num_mod]
  have hM : 0 < (256 : Int) ^ m := Int.pow_pos (by omega)
  have e3 : ((x + p.lift) % (256 : Int) ^ m - p.lift - p.low) % (256 : Int) ^ m = (x - p.low) % (256 : Int) ^ m := by
    rw [Int.sub_sub, Int.emod_sub_emod]
    congr 1
    omega
  rw [e3]
  simp only [takesB, Bool.and_eq_true, decide_eq_true_eq] at hx ⊢
  obtain ⟨h0, h1, h2⟩ := hx
  have a1 := Int.emod_nonneg (x - p.low) (b := (256 : Int) ^ m) (by omega)
  have a2 : (x - p.low) % (256 : Int) ^ m ≤ x - p.low := by
    have := Int.emod_add_mul_ediv (x - p.low) ((256 : Int) ^ m)
    have hq : 0 ≤ (x - p.low) / (256 : Int) ^ m := Int.ediv_nonneg (by omega) (by omega)
    have := Int.mul_nonneg (Int.le_of_lt hM) hq
    omega
  refine ⟨?_, by omega, by omega⟩
  simp [table] at hp
  rcases hp with rfl | rfl | rfl | rfl | rfl | rfl | rfl | rfl | rfl
  case inr.inr.inr.inr.inr.inr.inl =>
    simp at h0 h1 h2 hm ⊢
    have hc : m = 0 ∨ m = 1 ∨ m = 2 ∨ m = 3 ∨ m = 4 := by omega
    rcases hc with rfl | rfl | rfl | rfl | rfl <;> omega
  all_goals simp

theorem goB_begin (F : Nat → Int) : ∀ (L : List Part) (k : Nat), (∀ p ∈ L, p ∈ table) → okAll L F = true → goB ((bytesU (body F L)).take k) L = true := by
  intro L
  induction L with
  | nil => intro k _ _; cases (bytesU (body F [])).take k <;> rfl
  | cons p t ih =>
    intro k ht hok
    have hok' : takesB p (F (ix p.need)) = true ∧ okAll t F = true := by
      unfold okAll at hok ⊢
      simpa using hok
    have hl : (bytesU (bytesOf (F (ix p.need) + p.lift) p.width)).length = p.width := by rw [bytesU_length, bytesOf_length]
    rw [goB, body, bytesU_append]
    have e1 : ((bytesU (bytesOf (F (ix p.need) + p.lift) p.width) ++ bytesU (body F t)).take k).take p.width = (bytesU (bytesOf (F (ix p.need) + p.lift) p.width)).take (min k p.width) := by
      rw [List.take_take, Nat.min_comm, List.take_append_of_le_length (by rw [hl]; omega)]
    have e2 : ((bytesU (bytesOf (F (ix p.need) + p.lift) p.width) ++ bytesU (body F t)).take k).drop p.width = (bytesU (body F t)).take (k - p.width) := by
      rw [List.drop_take, List.drop_left' hl]
    rw [e1, e2, canB_begin (ht p (by simp)) hok'.1 _ (by omega), ih (k - p.width) (fun q hq => ht q (by simp [hq])) hok'.2]
    rfl

theorem torn_begin {F : Nat → Int} (hr : refOk F = true) (k : Nat) (hk : k < (fB F).length) : tornB ((fB F).take k) = true := by
  obtain ⟨r, h1, h2, h3, h4⟩ := fB_two hr
  have hlen := fB_len F
  have hkd := refOk_kind F hr
  match k, hk with
  | 0, _ => rw [List.take_zero]; rfl
  | 1, _ =>
    rw [h1]
    show widthB ((UInt8.ofNat (wsum (partsL (F 0)))).toNat : Int) = true
    rw [h3]
    unfold widthB
    rw [List.any_eq_true]
    refine ⟨(F 0).toNat - 1, List.mem_range.2 (by omega), ?_⟩
    rw [show (((F 0).toNat - 1 : Nat) : Int) + 1 = F 0 by omega]
    simp
  | k + 2, hk =>
    have hb : rightB F = true := by rw [right_ref]; exact hr
    have hok : okAll (partsL (F 0)) F = true := by
      unfold rightB at hb
      simp only [Bool.and_eq_true] at hb
      exact hb.1
    have hgo := goB_begin F (partsL (F 0)) (k + 1) (fun p hp => (List.mem_filter.1 hp).1) hok
    rw [h2, List.take_succ_cons] at hgo
    rw [h1] at hlen hk ⊢
    rw [List.take_succ_cons, List.take_succ_cons]
    rw [tornB_two, h4, h3, hgo]
    have : (UInt8.ofNat (wsum (partsL (F 0))) :: UInt8.ofNat (F 0).toNat :: r.take k).length < 1 + wsum (partsL (F 0)) := by
      simp at hlen hk ⊢
      omega
    rw [decide_eq_true this]
    simp

/-- Of so many bytes of the frames of fs, the first m frames are whole. -/
theorem cut_split (fs : List (Nat → Int)) (hr : ∀ f ∈ fs, refOk f = true) : ∀ k, k ≤ (fsB fs).length → ∃ gs hs t, fs = gs ++ hs ∧ (fsB fs).take k = fsB gs ++ t ∧ tornB t = true ∧ (fsB gs).length ≤ k ∧ (∀ f r, hs = f :: r → k < (fsB gs).length + (fB f).length) := by
  induction fs with
  | nil => intro k hk; exact ⟨[], [], [], rfl, by simp [fsB], rfl, by simp [fsB], fun f r h => by cases h⟩
  | cons f r ih =>
    intro k hk
    have e : fsB (f :: r) = fB f ++ fsB r := by simp [fsB]
    by_cases hc : k < (fB f).length
    · refine ⟨[], f :: r, (fB f).take k, rfl, ?_, torn_begin (hr f (by simp)) k hc, by simp [fsB], fun g s h => ?_⟩
      · rw [e, List.take_append_of_le_length (by omega)]
        rfl
      · cases h
        simp [fsB]
        exact hc
    · rw [e, List.length_append] at hk
      obtain ⟨gs, hs, t, h1, h2, h3, h4, h5⟩ := ih (fun g hg => hr g (by simp [hg])) (k - (fB f).length) (by omega)
      refine ⟨f :: gs, hs, t, by rw [h1]; rfl, ?_, h3, ?_, fun g s h => ?_⟩
      · rw [e, List.take_append, List.take_of_length_le (by omega), h2]
        simp [fsB]
      · simp [fsB] at h4 ⊢
        omega
      · have := h5 g s h
        simp [fsB] at this ⊢
        omega
theorem hist_right {fs : List (Nat → Int)} {S T : Led} (h : Hist fs S T) : ∀ f ∈ fs, refOk f = true := by
  induction fs generalizing S with
  | nil => intro f hf; cases hf
  | cons g r ih =>
    intro f hf
    rcases List.mem_cons.1 hf with rfl | hf
    · exact h.1.1
    · exact ih h.2 f hf

end Go.Proofs.YtdblmheoghhepaaGreatDoor
