/- The document's 'field', 'goes': whether some bytes may be the first ones of a frame. -/
import Derived.Test.YtdblmheoghhepaaGreatDoorKBeginsPure
import Derived.Test.YtdblmheoghhepaaGreatDoorKRefMove
namespace Go.Proofs.YtdblmheoghhepaaGreatDoor
open Go.RowKit

theorem num_take (l : List UInt8) (k : Nat) (b : UInt8) (h : l[k]? = some b) : num (l.take (k + 1)) = num (l.take k) + (b.toNat : Int) * (256 : Int) ^ k := by
  induction k generalizing l with
  | zero =>
    cases l with
    | nil => simp at h
    | cons a t =>
      simp at h
      subst h
      simp [num]
  | succ k ih =>
    cases l with
    | nil => simp at h
    | cons a t =>
      have := ih t (by simpa using h)
      rw [List.take_succ_cons, List.take_succ_cons]
      show (a.toNat : Int) + 256 * num (t.take (k + 1)) = (a.toNat : Int) + 256 * num (t.take k) + _
      rw [this, Int.pow_succ, Int.mul_add, Int.mul_comm ((256 : Int) ^ k) 256, ← Int.mul_assoc, ← Int.mul_assoc, Int.mul_comm 256 (b.toNat : Int)]
      omega
theorem field_eq (l : List UInt8) (size m : Nat) (lo hi : Int) (hm : m = min size l.length) : fieldB l size lo hi = fieldN (num (l.take m)) m size lo hi := by
  unfold fieldB
  have e1 : (l.take size).length = m := by simp; omega
  have e2 : l.take size = l.take m := by
    subst hm
    rcases Nat.le_total size l.length with h | h
    · rw [Nat.min_eq_left h]
    · rw [Nat.min_eq_right h, List.take_of_length_le h, List.take_length]
  rw [e1, e2]

set_option maxRecDepth 100000 in
set_option maxHeartbeats 1000000 in
theorem field_past (s : ByteArray) (at' : Int) (size lo hi : Int) (w : World) (hs : s.size ≤ 9223372036854775807) (ha : 0 ≤ at' ∧ at' ≤ 100) (h : (s.size : Int) ≤ at') :
    Calls Tryz.prog 95 #[.string s, .int .i64 at', .int .i64 size, .int .i64 lo, .int .i64 hi] w fun e w' => e = .returned (.bool true) ∧ w = w' := by
  have h1 : (s.size : Int) - at' ≤ 0 := by omega
  go_enter Tryz.func95, Tryz.ntmps95
  go_wp2
  go_ret
  exact ⟨rfl, rfl⟩

set_option maxRecDepth 100000 in
set_option maxHeartbeats 4000000 in
theorem field_more (s : ByteArray) (a size m : Nat) (lo hi : Int) (w : World) (hs : s.size ≤ 140737488355328) (ha : a ≤ 100) (hz : size ≤ 4) (hm0 : 0 < m) (hm : m ≤ s.size - a) (hgt : m = size) (hg : (size : Int) < (s.size : Int) - (a : Int)) (_ : 0 ≤ lo ∧ lo ≤ 4294967295) (_ : 0 ≤ hi ∧ hi ≤ 4294967295) (B : Bool) (HB : Hid (B = fieldN (num ((s.data.toList.drop a).take m)) m size lo hi)) :
    Calls Tryz.prog 95 #[.string s, .int .i64 (a : Int), .int .i64 (size : Int), .int .i64 lo, .int .i64 hi] w fun e w' => e = .returned (.bool B) ∧ w = w' := by
  have h1 : ¬ (s.size : Int) - (a : Int) ≤ 0 := by omega
  subst hgt
  have byte : ∀ k (hk : a + k < s.size), (s.data.toList.drop a)[k]? = some (s[a + k]'hk) := fun k hk => by
    rw [List.getElem?_drop, List.getElem?_eq_getElem (by simpa using hk)]
    rfl
  have ll : (s.data.toList.drop a).length = s.size - a := by rw [List.length_drop, Array.length_toList]; rfl
  generalize s.data.toList.drop a = l at *
  go_enter Tryz.func95, Tryz.ntmps95
  go_wp2
  go_loop [12, 13, 14] (fun n u i => ∃ k : Nat, k ≤ m ∧ i = .int .i64 (k : Int) ∧ n = .int .i64 (num (l.take k)) ∧ u = .int .i64 ((256 : Int) ^ k)) (fun _ _ i => m - (intOf i).toNat)
  case atStart => exact ⟨0, Nat.zero_le _, rfl, by simp [num], rfl⟩
  case round =>
    obtain ⟨k, hk, rfl, rfl, rfl⟩ := hrel
    have hb := num_bd (l.take k)
    have hlen : (l.take k).length = k := by simp; omega
    rw [hlen] at hb
    by_cases hlt : k < m
    · have hst := num_take l k _ (byte k (by omega))
      have ST := hid hst
      have kI : (k : Int) < (m : Int) := by omega
      have hks : a + k < s.size := by omega
      have hbt := (s[a + k]'hks).toNat_lt
      have eT : ((a : Int) + (k : Int)).toNat = a + k := by omega
      have hAK : ((a : Int) + (k : Int)) < (s.size : Int) := by omega
      have hc : k = 0 ∨ k = 1 ∨ k = 2 ∨ k = 3 := by omega
      have hp : (0 : Int) < (256 : Int) ^ k ∧ (256 : Int) ^ k ≤ 16777216 := by rcases hc with rfl | rfl | rfl | rfl <;> decide
      have EP := hid (Int.pow_succ (256 : Int) k)
      generalize (256 : Int) ^ k = U at *
      generalize num (l.take k) = V at *
      have hm1 : 0 ≤ ((s[a + k]'hks).toNat : Int) * U ∧ ((s[a + k]'hks).toNat : Int) * U ≤ 255 * 16777216 := by
        constructor
        · exact Int.mul_nonneg (by omega) (by omega)
        · exact Int.mul_le_mul (by omega) (by omega) (by omega) (by omega)
      clear hst hc byte
      go_wp2
      go_round
      case rel => exact ⟨k + 1, by omega, by go_num, int_eq (by rw [ST.out]), int_eq (by rw [EP.out])⟩
      case measure => simp [intOf]; omega
    · have he : k = m := by omega
      subst he
      have kI : ¬ (k : Int) < (k : Int) := by omega
      have e : Hid (fieldN (num (l.take k)) k k lo hi = (decide (lo ≤ num (l.take k)) && decide (num (l.take k) ≤ hi))) := by
        show _ = _
        unfold fieldN
        rw [if_neg (by omega), if_pos rfl]
      have hpk : (0 : Int) < (256 : Int) ^ k := Int.pow_pos (by omega)
      generalize (256 : Int) ^ k = U at *
      generalize num (l.take k) = V at *
      clear hb byte
      go_wp2
      all_goals go_ret
      all_goals refine ⟨ret_bool ?_, rfl⟩
      all_goals rw [HB.out, e.out]
      all_goals (simp [*] <;> omega)


set_option maxRecDepth 100000 in
set_option maxHeartbeats 4000000 in
theorem field_just (s : ByteArray) (a size m : Nat) (lo hi : Int) (w : World) (hs : s.size ≤ 140737488355328) (ha : a ≤ 100) (hz : size ≤ 4) (hm0 : 0 < m) (hm : m ≤ s.size - a) (hgt : m = size) (hg : (s.size : Int) - (a : Int) = (m : Int)) (_ : 0 ≤ lo ∧ lo ≤ 4294967295) (_ : 0 ≤ hi ∧ hi ≤ 4294967295) (B : Bool) (HB : Hid (B = fieldN (num ((s.data.toList.drop a).take m)) m size lo hi)) :
    Calls Tryz.prog 95 #[.string s, .int .i64 (a : Int), .int .i64 (size : Int), .int .i64 lo, .int .i64 hi] w fun e w' => e = .returned (.bool B) ∧ w = w' := by
  have h1 : ¬ (s.size : Int) - (a : Int) ≤ 0 := by omega
  subst hgt
  have hg2 : ¬ (m : Int) < (m : Int) := by omega
  have byte : ∀ k (hk : a + k < s.size), (s.data.toList.drop a)[k]? = some (s[a + k]'hk) := fun k hk => by
    rw [List.getElem?_drop, List.getElem?_eq_getElem (by simpa using hk)]
    rfl
  have ll : (s.data.toList.drop a).length = s.size - a := by rw [List.length_drop, Array.length_toList]; rfl
  generalize s.data.toList.drop a = l at *
  go_enter Tryz.func95, Tryz.ntmps95
  go_wp2
  go_loop [12, 13, 14] (fun n u i => ∃ k : Nat, k ≤ m ∧ i = .int .i64 (k : Int) ∧ n = .int .i64 (num (l.take k)) ∧ u = .int .i64 ((256 : Int) ^ k)) (fun _ _ i => m - (intOf i).toNat)
  case atStart => exact ⟨0, Nat.zero_le _, rfl, by simp [num], rfl⟩
  case round =>
    obtain ⟨k, hk, rfl, rfl, rfl⟩ := hrel
    have hb := num_bd (l.take k)
    have hlen : (l.take k).length = k := by simp; omega
    rw [hlen] at hb
    by_cases hlt : k < m
    · have hst := num_take l k _ (byte k (by omega))
      have ST := hid hst
      have kI : (k : Int) < (m : Int) := by omega
      have hks : a + k < s.size := by omega
      have hbt := (s[a + k]'hks).toNat_lt
      have eT : ((a : Int) + (k : Int)).toNat = a + k := by omega
      have hAK : ((a : Int) + (k : Int)) < (s.size : Int) := by omega
      have hc : k = 0 ∨ k = 1 ∨ k = 2 ∨ k = 3 := by omega
      have hp : (0 : Int) < (256 : Int) ^ k ∧ (256 : Int) ^ k ≤ 16777216 := by rcases hc with rfl | rfl | rfl | rfl <;> decide
      have EP := hid (Int.pow_succ (256 : Int) k)
      generalize (256 : Int) ^ k = U at *
      generalize num (l.take k) = V at *
      have hm1 : 0 ≤ ((s[a + k]'hks).toNat : Int) * U ∧ ((s[a + k]'hks).toNat : Int) * U ≤ 255 * 16777216 := by
        constructor
        · exact Int.mul_nonneg (by omega) (by omega)
        · exact Int.mul_le_mul (by omega) (by omega) (by omega) (by omega)
      clear hst hc byte
      go_wp2
      go_round
      case rel => exact ⟨k + 1, by omega, by go_num, int_eq (by rw [ST.out]), int_eq (by rw [EP.out])⟩
      case measure => simp [intOf]; omega
    · have he : k = m := by omega
      subst he
      have kI : ¬ (k : Int) < (k : Int) := by omega
      have e : Hid (fieldN (num (l.take k)) k k lo hi = (decide (lo ≤ num (l.take k)) && decide (num (l.take k) ≤ hi))) := by
        show _ = _
        unfold fieldN
        rw [if_neg (by omega), if_pos rfl]
      have hpk : (0 : Int) < (256 : Int) ^ k := Int.pow_pos (by omega)
      generalize (256 : Int) ^ k = U at *
      generalize num (l.take k) = V at *
      clear hb byte
      go_wp2
      all_goals go_ret
      all_goals refine ⟨ret_bool ?_, rfl⟩
      all_goals rw [HB.out, e.out]
      all_goals (simp [*] <;> omega)


set_option maxRecDepth 100000 in
set_option maxHeartbeats 4000000 in
theorem field_few (s : ByteArray) (a size m : Nat) (lo hi : Int) (w : World) (hs : s.size ≤ 140737488355328) (ha : a ≤ 100) (hz : size ≤ 4) (hm0 : 0 < m) (hm : m ≤ s.size - a) (hgt : m < size) (hg : (s.size : Int) - (a : Int) = (m : Int)) (hlo : 0 ≤ lo ∧ lo ≤ 4294967295) (_ : 0 ≤ hi ∧ hi ≤ 4294967295) (B : Bool) (HB : Hid (B = fieldN (num ((s.data.toList.drop a).take m)) m size lo hi)) :
    Calls Tryz.prog 95 #[.string s, .int .i64 (a : Int), .int .i64 (size : Int), .int .i64 lo, .int .i64 hi] w fun e w' => e = .returned (.bool B) ∧ w = w' := by
  have h1 : ¬ (s.size : Int) - (a : Int) ≤ 0 := by omega
  have hg2 : ¬ (size : Int) < (m : Int) := by omega
  have byte : ∀ k (hk : a + k < s.size), (s.data.toList.drop a)[k]? = some (s[a + k]'hk) := fun k hk => by
    rw [List.getElem?_drop, List.getElem?_eq_getElem (by simpa using hk)]
    rfl
  have ll : (s.data.toList.drop a).length = s.size - a := by rw [List.length_drop, Array.length_toList]; rfl
  generalize s.data.toList.drop a = l at *
  go_enter Tryz.func95, Tryz.ntmps95
  go_wp2
  go_loop [12, 13, 14] (fun n u i => ∃ k : Nat, k ≤ m ∧ i = .int .i64 (k : Int) ∧ n = .int .i64 (num (l.take k)) ∧ u = .int .i64 ((256 : Int) ^ k)) (fun _ _ i => m - (intOf i).toNat)
  case atStart => exact ⟨0, Nat.zero_le _, rfl, by simp [num], rfl⟩
  case round =>
    obtain ⟨k, hk, rfl, rfl, rfl⟩ := hrel
    have hb := num_bd (l.take k)
    have hlen : (l.take k).length = k := by simp; omega
    rw [hlen] at hb
    by_cases hlt : k < m
    · have hst := num_take l k _ (byte k (by omega))
      have ST := hid hst
      have kI : (k : Int) < (m : Int) := by omega
      have hks : a + k < s.size := by omega
      have hbt := (s[a + k]'hks).toNat_lt
      have eT : ((a : Int) + (k : Int)).toNat = a + k := by omega
      have hAK : ((a : Int) + (k : Int)) < (s.size : Int) := by omega
      have hc : k = 0 ∨ k = 1 ∨ k = 2 ∨ k = 3 := by omega
      have hp : (0 : Int) < (256 : Int) ^ k ∧ (256 : Int) ^ k ≤ 16777216 := by rcases hc with rfl | rfl | rfl | rfl <;> decide
      have EP := hid (Int.pow_succ (256 : Int) k)
      generalize (256 : Int) ^ k = U at *
      generalize num (l.take k) = V at *
      have hm1 : 0 ≤ ((s[a + k]'hks).toNat : Int) * U ∧ ((s[a + k]'hks).toNat : Int) * U ≤ 255 * 16777216 := by
        constructor
        · exact Int.mul_nonneg (by omega) (by omega)
        · exact Int.mul_le_mul (by omega) (by omega) (by omega) (by omega)
      clear hst hc byte
      go_wp2
      go_round
      case rel => exact ⟨k + 1, by omega, by go_num, int_eq (by rw [ST.out]), int_eq (by rw [EP.out])⟩
      case measure => simp [intOf]; omega
    · have he : k = m := by omega
      subst he
      have kI : ¬ (k : Int) < (k : Int) := by omega
      have hc : k = 1 ∨ k = 2 ∨ k = 3 := by omega
      have hne : ¬ (k : Int) = (size : Int) := by omega
      have hne' : ((k : Int) == (size : Int)) = false := by simpa using hne
      have hne2 : ¬ k = size := by omega
      have e : Hid (fieldN (num (l.take k)) k size lo hi = decide ((if lo - lo % (256 : Int) ^ k + num (l.take k) < lo then lo - lo % (256 : Int) ^ k + num (l.take k) + (256 : Int) ^ k else lo - lo % (256 : Int) ^ k + num (l.take k)) ≤ hi)) := by
        show _ = _
        unfold fieldN
        rw [if_neg (by omega), if_neg hne2]
      have hp : (0 : Int) < (256 : Int) ^ k ∧ (256 : Int) ^ k ≤ 16777216 := by rcases hc with rfl | rfl | rfl <;> decide
      have htm : Int.tmod lo ((256 : Int) ^ k) = lo % (256 : Int) ^ k := Int.tmod_eq_emod_of_nonneg hlo.1
      have hr0 := Int.emod_nonneg lo (b := (256 : Int) ^ k) (by omega)
      have hr1 := Int.emod_lt_of_pos lo hp.1
      generalize (256 : Int) ^ k = U at *
      generalize num (l.take k) = V at *
      generalize hR : lo % U = R at *
      have hU0 : ¬ U = 0 := by omega
      have hU0' : (U == 0) = false := by simpa using hU0
      clear byte hR
      by_cases hf : lo - R + V < lo
      · go_wp2
        go_ret
        refine ⟨ret_bool ?_, rfl⟩
        rw [HB.out, e.out, if_pos hf]
      · go_wp2
        go_ret
        refine ⟨ret_bool ?_, rfl⟩
        rw [HB.out, e.out, if_neg (by omega)]


theorem field_any (s : ByteArray) (a size : Nat) (lo hi : Int) (w : World) (hs : s.size ≤ 140737488355328) (ha : a ≤ 100) (h1 : 1 ≤ size) (hz : size ≤ 4) (hlo : 0 ≤ lo ∧ lo ≤ 4294967295) (hhi : 0 ≤ hi ∧ hi ≤ 4294967295) :
    Calls Tryz.prog 95 #[.string s, .int .i64 (a : Int), .int .i64 (size : Int), .int .i64 lo, .int .i64 hi] w fun e w' => e = .returned (.bool (fieldB (s.data.toList.drop a) size lo hi)) ∧ w = w' := by
  have ll : (s.data.toList.drop a).length = s.size - a := by rw [List.length_drop, Array.length_toList]; rfl
  by_cases h0 : s.size ≤ a
  · have e : fieldB (s.data.toList.drop a) size lo hi = true := by
      rw [field_eq _ size 0 lo hi (by omega)]
      unfold fieldN
      rw [if_pos rfl]
    rw [e]
    exact field_past s a size lo hi w (by omega) (by omega) (by omega)
  · by_cases hg : size < s.size - a
    · rw [field_eq _ size size lo hi (by omega)]
      exact field_more s a size size lo hi w hs ha hz (by omega) (by omega) rfl (by omega) hlo hhi _ rfl
    · by_cases he : s.size - a = size
      · rw [field_eq _ size size lo hi (by omega)]
        exact field_just s a size size lo hi w hs ha hz (by omega) (by omega) rfl (by omega) hlo hhi _ rfl
      · rw [field_eq _ size (s.size - a) lo hi (by omega)]
        exact field_few s a size (s.size - a) lo hi w hs ha hz (by omega) (by omega) (by omega) (by omega) hlo hhi _ rfl
theorem field_lit (s : ByteArray) (a size : Nat) (ai si lo hi : Int) (w : World) (hs : s.size ≤ 140737488355328) (ea : ai = (a : Int)) (es : si = (size : Int)) (ha : a ≤ 100) (h1 : 1 ≤ size) (hz : size ≤ 4) (hlo : 0 ≤ lo ∧ lo ≤ 4294967295) (hhi : 0 ≤ hi ∧ hi ≤ 4294967295) :
    Calls Tryz.prog 95 #[.string s, .int .i64 ai, .int .i64 si, .int .i64 lo, .int .i64 hi] w fun e w' => e = .returned (.bool (fieldB (s.data.toList.drop a) size lo hi)) ∧ w = w' := by
  subst ea es
  exact field_any s a size lo hi w hs ha h1 hz hlo hhi

theorem go_cons (l : List UInt8) (p : Part) (t : List Part) (hp : p ∈ table) (hn : p.need ≠ 64) : goB l (p :: t) = (fieldB l p.width p.low p.high && goB (l.drop p.width) t) := by
  rw [goB, fieldP l p hp hn]
theorem go_J (l : List UInt8) (t : List Part) : goB l (pJ :: t) = ((fieldB l 4 2146483648 2147483647 || fieldB l 4 2147483649 2148483648) && goB (l.drop 4) t) := by
  rw [goB]
  show (canB ⟨64, -1000000, 1000000, 4, 2147483648⟩ (l.take 4) && _) = _
  rw [← fieldA l]
  rfl

theorem goes_eq1 (s : ByteArray) : goB (s.data.toList.drop 2) ((partsL 1).drop 1) = (fieldB (s.data.toList.drop 2) 4 0 2147483647 && (fieldB (s.data.toList.drop 6) 1 0 3 && (fieldB (s.data.toList.drop 7) 4 1 1000000 && true))) := by
  have h : ∀ l : List UInt8, goB l [pI, pG, pQ] = (fieldB l 4 0 2147483647 && (fieldB (l.drop 4) 1 0 3 && (fieldB (l.drop 5) 4 1 1000000 && true))) := fun l => by
    rw [go_cons _ pI _ (by simp [table, pI]) (by simp [pI])]; rw [go_cons _ pG _ (by simp [table, pG]) (by simp [pG])]; rw [go_cons _ pQ _ (by simp [table, pQ]) (by simp [pQ])]; simp [pG, pI, pQ, goB, List.drop_drop]
  rw [parts1, List.drop_one, List.tail_cons, h]
  simp only [List.drop_drop]

set_option maxRecDepth 100000 in
set_option maxHeartbeats 4000000 in
theorem goes1 (s : ByteArray) (w : World) (hs : s.size ≤ 140737488355328) :
    Calls Tryz.prog 67 #[.int .i64 1, .string s] w fun e w' => e = .returned (.bool (goB (s.data.toList.drop 2) ((partsL 1).drop 1))) ∧ w = w' := by
  have HB := hid (goes_eq1 s)
  generalize goB (s.data.toList.drop 2) ((partsL 1).drop 1) = BB at *
  go_enter Tryz.func67, Tryz.ntmps67
  go_wp2_with fail
  refine (refNeeds_any 1 _).mono ?_
  rintro e wj ⟨rfl, rfl⟩
  have hnd : needG 1 = true ∧ needC 1 = false ∧ needD 1 = false ∧ needQ 1 = true ∧ needH 1 = false ∧ needT 1 = false := by decide
  obtain ⟨ng, nc, nd, nq, nh, nt⟩ := hnd
  rw [ng, nc, nd, nq, nh, nt]
  clear ng nc nd nq nh nt
  go_wp2_with fail
  refine (field_lit s 2 4 _ _ 0 2147483647 _ hs rfl rfl (by omega) (by omega) (by omega) (by omega) (by omega)).mono ?_
  rintro e wj ⟨rfl, rfl⟩
  generalize hb1 : fieldB (s.data.toList.drop 2) 4 0 2147483647 = b1 at HB ⊢
  clear hb1
  cases b1 with
  | false =>
    go_wp2_with fail
    refine (field_lit s 6 1 _ _ 0 3 _ hs rfl rfl (by omega) (by omega) (by omega) (by omega) (by omega)).mono ?_
    rintro e wj ⟨rfl, rfl⟩
    generalize hb2 : fieldB (s.data.toList.drop 6) 1 0 3 = b2 at HB ⊢
    clear hb2
    go_wp2_with fail
    refine (field_lit s 7 4 _ _ 1 1000000 _ hs rfl rfl (by omega) (by omega) (by omega) (by omega) (by omega)).mono ?_
    rintro e wj ⟨rfl, rfl⟩
    generalize hb3 : fieldB (s.data.toList.drop 7) 4 1 1000000 = b3 at HB ⊢
    clear hb3
    go_wp2
    go_ret
    exact ⟨ret_bool (by rw [HB.out]; simp), rfl⟩
  | true =>
    go_wp2_with fail
    refine (field_lit s 6 1 _ _ 0 3 _ hs rfl rfl (by omega) (by omega) (by omega) (by omega) (by omega)).mono ?_
    rintro e wj ⟨rfl, rfl⟩
    generalize hb2 : fieldB (s.data.toList.drop 6) 1 0 3 = b2 at HB ⊢
    clear hb2
    cases b2 with
    | false =>
      go_wp2_with fail
      refine (field_lit s 7 4 _ _ 1 1000000 _ hs rfl rfl (by omega) (by omega) (by omega) (by omega) (by omega)).mono ?_
      rintro e wj ⟨rfl, rfl⟩
      generalize hb3 : fieldB (s.data.toList.drop 7) 4 1 1000000 = b3 at HB ⊢
      clear hb3
      go_wp2
      go_ret
      exact ⟨ret_bool (by rw [HB.out]; simp), rfl⟩
    | true =>
      go_wp2_with fail
      refine (field_lit s 7 4 _ _ 1 1000000 _ hs rfl rfl (by omega) (by omega) (by omega) (by omega) (by omega)).mono ?_
      rintro e wj ⟨rfl, rfl⟩
      generalize hb3 : fieldB (s.data.toList.drop 7) 4 1 1000000 = b3 at HB ⊢
      clear hb3
      cases b3 with
      | false =>
        go_wp2
        go_ret
        exact ⟨ret_bool (by rw [HB.out]; simp), rfl⟩
      | true =>
        go_wp2
        go_ret
        exact ⟨ret_bool (by rw [HB.out]; simp), rfl⟩

theorem goes_eq2 (s : ByteArray) : goB (s.data.toList.drop 2) ((partsL 2).drop 1) = (fieldB (s.data.toList.drop 2) 4 0 2147483647 && (fieldB (s.data.toList.drop 6) 1 0 3 && (fieldB (s.data.toList.drop 7) 1 0 15 && (fieldB (s.data.toList.drop 8) 4 1 1000000 && true)))) := by
  have h : ∀ l : List UInt8, goB l [pI, pG, pD, pQ] = (fieldB l 4 0 2147483647 && (fieldB (l.drop 4) 1 0 3 && (fieldB (l.drop 5) 1 0 15 && (fieldB (l.drop 6) 4 1 1000000 && true)))) := fun l => by
    rw [go_cons _ pI _ (by simp [table, pI]) (by simp [pI])]; rw [go_cons _ pG _ (by simp [table, pG]) (by simp [pG])]; rw [go_cons _ pD _ (by simp [table, pD]) (by simp [pD])]; rw [go_cons _ pQ _ (by simp [table, pQ]) (by simp [pQ])]; simp [pD, pG, pI, pQ, goB, List.drop_drop]
  rw [parts2, List.drop_one, List.tail_cons, h]
  simp only [List.drop_drop]

set_option maxRecDepth 100000 in
set_option maxHeartbeats 4000000 in
theorem goes2 (s : ByteArray) (w : World) (hs : s.size ≤ 140737488355328) :
    Calls Tryz.prog 67 #[.int .i64 2, .string s] w fun e w' => e = .returned (.bool (goB (s.data.toList.drop 2) ((partsL 2).drop 1))) ∧ w = w' := by
  have HB := hid (goes_eq2 s)
  generalize goB (s.data.toList.drop 2) ((partsL 2).drop 1) = BB at *
  go_enter Tryz.func67, Tryz.ntmps67
  go_wp2_with fail
  refine (refNeeds_any 2 _).mono ?_
  rintro e wj ⟨rfl, rfl⟩
  have hnd : needG 2 = true ∧ needC 2 = false ∧ needD 2 = true ∧ needQ 2 = true ∧ needH 2 = false ∧ needT 2 = false := by decide
  obtain ⟨ng, nc, nd, nq, nh, nt⟩ := hnd
  rw [ng, nc, nd, nq, nh, nt]
  clear ng nc nd nq nh nt
  go_wp2_with fail
  refine (field_lit s 2 4 _ _ 0 2147483647 _ hs rfl rfl (by omega) (by omega) (by omega) (by omega) (by omega)).mono ?_
  rintro e wj ⟨rfl, rfl⟩
  generalize hb1 : fieldB (s.data.toList.drop 2) 4 0 2147483647 = b1 at HB ⊢
  clear hb1
  cases b1 with
  | false =>
    go_wp2_with fail
    refine (field_lit s 6 1 _ _ 0 3 _ hs rfl rfl (by omega) (by omega) (by omega) (by omega) (by omega)).mono ?_
    rintro e wj ⟨rfl, rfl⟩
    generalize hb2 : fieldB (s.data.toList.drop 6) 1 0 3 = b2 at HB ⊢
    clear hb2
    go_wp2_with fail
    refine (field_lit s 7 1 _ _ 0 15 _ hs rfl rfl (by omega) (by omega) (by omega) (by omega) (by omega)).mono ?_
    rintro e wj ⟨rfl, rfl⟩
    generalize hb3 : fieldB (s.data.toList.drop 7) 1 0 15 = b3 at HB ⊢
    clear hb3
    go_wp2_with fail
    refine (field_lit s 8 4 _ _ 1 1000000 _ hs rfl rfl (by omega) (by omega) (by omega) (by omega) (by omega)).mono ?_
    rintro e wj ⟨rfl, rfl⟩
    generalize hb4 : fieldB (s.data.toList.drop 8) 4 1 1000000 = b4 at HB ⊢
    clear hb4
    go_wp2
    go_ret
    exact ⟨ret_bool (by rw [HB.out]; simp), rfl⟩
  | true =>
    go_wp2_with fail
    refine (field_lit s 6 1 _ _ 0 3 _ hs rfl rfl (by omega) (by omega) (by omega) (by omega) (by omega)).mono ?_
    rintro e wj ⟨rfl, rfl⟩
    generalize hb2 : fieldB (s.data.toList.drop 6) 1 0 3 = b2 at HB ⊢
    clear hb2
    cases b2 with
    | false =>
      go_wp2_with fail
      refine (field_lit s 7 1 _ _ 0 15 _ hs rfl rfl (by omega) (by omega) (by omega) (by omega) (by omega)).mono ?_
      rintro e wj ⟨rfl, rfl⟩
      generalize hb3 : fieldB (s.data.toList.drop 7) 1 0 15 = b3 at HB ⊢
      clear hb3
      go_wp2_with fail
      refine (field_lit s 8 4 _ _ 1 1000000 _ hs rfl rfl (by omega) (by omega) (by omega) (by omega) (by omega)).mono ?_
      rintro e wj ⟨rfl, rfl⟩
      generalize hb4 : fieldB (s.data.toList.drop 8) 4 1 1000000 = b4 at HB ⊢
      clear hb4
      go_wp2
      go_ret
      exact ⟨ret_bool (by rw [HB.out]; simp), rfl⟩
    | true =>
      go_wp2_with fail
      refine (field_lit s 7 1 _ _ 0 15 _ hs rfl rfl (by omega) (by omega) (by omega) (by omega) (by omega)).mono ?_
      rintro e wj ⟨rfl, rfl⟩
      generalize hb3 : fieldB (s.data.toList.drop 7) 1 0 15 = b3 at HB ⊢
      clear hb3
      cases b3 with
      | false =>
        go_wp2_with fail
        refine (field_lit s 8 4 _ _ 1 1000000 _ hs rfl rfl (by omega) (by omega) (by omega) (by omega) (by omega)).mono ?_
        rintro e wj ⟨rfl, rfl⟩
        generalize hb4 : fieldB (s.data.toList.drop 8) 4 1 1000000 = b4 at HB ⊢
        clear hb4
        go_wp2
        go_ret
        exact ⟨ret_bool (by rw [HB.out]; simp), rfl⟩
      | true =>
        go_wp2_with fail
        refine (field_lit s 8 4 _ _ 1 1000000 _ hs rfl rfl (by omega) (by omega) (by omega) (by omega) (by omega)).mono ?_
        rintro e wj ⟨rfl, rfl⟩
        generalize hb4 : fieldB (s.data.toList.drop 8) 4 1 1000000 = b4 at HB ⊢
        clear hb4
        cases b4 with
        | false =>
          go_wp2
          go_ret
          exact ⟨ret_bool (by rw [HB.out]; simp), rfl⟩
        | true =>
          go_wp2
          go_ret
          exact ⟨ret_bool (by rw [HB.out]; simp), rfl⟩

theorem goes_eq3 (s : ByteArray) : goB (s.data.toList.drop 2) ((partsL 3).drop 1) = (fieldB (s.data.toList.drop 2) 4 0 2147483647 && (fieldB (s.data.toList.drop 6) 1 0 3 && (fieldB (s.data.toList.drop 7) 1 0 2 && (fieldB (s.data.toList.drop 8) 4 1 1000000 && true)))) := by
  have h : ∀ l : List UInt8, goB l [pI, pG, pC, pQ] = (fieldB l 4 0 2147483647 && (fieldB (l.drop 4) 1 0 3 && (fieldB (l.drop 5) 1 0 2 && (fieldB (l.drop 6) 4 1 1000000 && true)))) := fun l => by
    rw [go_cons _ pI _ (by simp [table, pI]) (by simp [pI])]; rw [go_cons _ pG _ (by simp [table, pG]) (by simp [pG])]; rw [go_cons _ pC _ (by simp [table, pC]) (by simp [pC])]; rw [go_cons _ pQ _ (by simp [table, pQ]) (by simp [pQ])]; simp [pC, pG, pI, pQ, goB, List.drop_drop]
  rw [parts3, List.drop_one, List.tail_cons, h]
  simp only [List.drop_drop]

set_option maxRecDepth 100000 in
set_option maxHeartbeats 4000000 in
theorem goes3 (s : ByteArray) (w : World) (hs : s.size ≤ 140737488355328) :
    Calls Tryz.prog 67 #[.int .i64 3, .string s] w fun e w' => e = .returned (.bool (goB (s.data.toList.drop 2) ((partsL 3).drop 1))) ∧ w = w' := by
  have HB := hid (goes_eq3 s)
  generalize goB (s.data.toList.drop 2) ((partsL 3).drop 1) = BB at *
  go_enter Tryz.func67, Tryz.ntmps67
  go_wp2_with fail
  refine (refNeeds_any 3 _).mono ?_
  rintro e wj ⟨rfl, rfl⟩
  have hnd : needG 3 = true ∧ needC 3 = true ∧ needD 3 = false ∧ needQ 3 = true ∧ needH 3 = false ∧ needT 3 = false := by decide
  obtain ⟨ng, nc, nd, nq, nh, nt⟩ := hnd
  rw [ng, nc, nd, nq, nh, nt]
  clear ng nc nd nq nh nt
  go_wp2_with fail
  refine (field_lit s 2 4 _ _ 0 2147483647 _ hs rfl rfl (by omega) (by omega) (by omega) (by omega) (by omega)).mono ?_
  rintro e wj ⟨rfl, rfl⟩
  generalize hb1 : fieldB (s.data.toList.drop 2) 4 0 2147483647 = b1 at HB ⊢
  clear hb1
  cases b1 with
  | false =>
    go_wp2_with fail
    refine (field_lit s 6 1 _ _ 0 3 _ hs rfl rfl (by omega) (by omega) (by omega) (by omega) (by omega)).mono ?_
    rintro e wj ⟨rfl, rfl⟩
    generalize hb2 : fieldB (s.data.toList.drop 6) 1 0 3 = b2 at HB ⊢
    clear hb2
    go_wp2_with fail
    refine (field_lit s 7 1 _ _ 0 2 _ hs rfl rfl (by omega) (by omega) (by omega) (by omega) (by omega)).mono ?_
    rintro e wj ⟨rfl, rfl⟩
    generalize hb3 : fieldB (s.data.toList.drop 7) 1 0 2 = b3 at HB ⊢
    clear hb3
    go_wp2_with fail
    refine (field_lit s 8 4 _ _ 1 1000000 _ hs rfl rfl (by omega) (by omega) (by omega) (by omega) (by omega)).mono ?_
    rintro e wj ⟨rfl, rfl⟩
    generalize hb4 : fieldB (s.data.toList.drop 8) 4 1 1000000 = b4 at HB ⊢
    clear hb4
    go_wp2
    go_ret
    exact ⟨ret_bool (by rw [HB.out]; simp), rfl⟩
  | true =>
    go_wp2_with fail
    refine (field_lit s 6 1 _ _ 0 3 _ hs rfl rfl (by omega) (by omega) (by omega) (by omega) (by omega)).mono ?_
    rintro e wj ⟨rfl, rfl⟩
    generalize hb2 : fieldB (s.data.toList.drop 6) 1 0 3 = b2 at HB ⊢
    clear hb2
    cases b2 with
    | false =>
      go_wp2_with fail
      refine (field_lit s 7 1 _ _ 0 2 _ hs rfl rfl (by omega) (by omega) (by omega) (by omega) (by omega)).mono ?_
      rintro e wj ⟨rfl, rfl⟩
      generalize hb3 : fieldB (s.data.toList.drop 7) 1 0 2 = b3 at HB ⊢
      clear hb3
      go_wp2_with fail
      refine (field_lit s 8 4 _ _ 1 1000000 _ hs rfl rfl (by omega) (by omega) (by omega) (by omega) (by omega)).mono ?_
      rintro e wj ⟨rfl, rfl⟩
      generalize hb4 : fieldB (s.data.toList.drop 8) 4 1 1000000 = b4 at HB ⊢
      clear hb4
      go_wp2
      go_ret
      exact ⟨ret_bool (by rw [HB.out]; simp), rfl⟩
    | true =>
      go_wp2_with fail
      refine (field_lit s 7 1 _ _ 0 2 _ hs rfl rfl (by omega) (by omega) (by omega) (by omega) (by omega)).mono ?_
      rintro e wj ⟨rfl, rfl⟩
      generalize hb3 : fieldB (s.data.toList.drop 7) 1 0 2 = b3 at HB ⊢
      clear hb3
      cases b3 with
      | false =>
        go_wp2_with fail
        refine (field_lit s 8 4 _ _ 1 1000000 _ hs rfl rfl (by omega) (by omega) (by omega) (by omega) (by omega)).mono ?_
        rintro e wj ⟨rfl, rfl⟩
        generalize hb4 : fieldB (s.data.toList.drop 8) 4 1 1000000 = b4 at HB ⊢
        clear hb4
        go_wp2
        go_ret
        exact ⟨ret_bool (by rw [HB.out]; simp), rfl⟩
      | true =>
        go_wp2_with fail
        refine (field_lit s 8 4 _ _ 1 1000000 _ hs rfl rfl (by omega) (by omega) (by omega) (by omega) (by omega)).mono ?_
        rintro e wj ⟨rfl, rfl⟩
        generalize hb4 : fieldB (s.data.toList.drop 8) 4 1 1000000 = b4 at HB ⊢
        clear hb4
        cases b4 with
        | false =>
          go_wp2
          go_ret
          exact ⟨ret_bool (by rw [HB.out]; simp), rfl⟩
        | true =>
          go_wp2
          go_ret
          exact ⟨ret_bool (by rw [HB.out]; simp), rfl⟩

theorem goes_eq4 (s : ByteArray) : goB (s.data.toList.drop 2) ((partsL 4).drop 1) = (fieldB (s.data.toList.drop 2) 4 0 2147483647 && (fieldB (s.data.toList.drop 6) 1 0 3 && (fieldB (s.data.toList.drop 7) 1 0 2 && (fieldB (s.data.toList.drop 8) 1 0 15 && (fieldB (s.data.toList.drop 9) 4 1 1000000 && (fieldB (s.data.toList.drop 13) 2 1 1000 && true)))))) := by
  have h : ∀ l : List UInt8, goB l [pI, pG, pC, pD, pQ, pT] = (fieldB l 4 0 2147483647 && (fieldB (l.drop 4) 1 0 3 && (fieldB (l.drop 5) 1 0 2 && (fieldB (l.drop 6) 1 0 15 && (fieldB (l.drop 7) 4 1 1000000 && (fieldB (l.drop 11) 2 1 1000 && true)))))) := fun l => by
    rw [go_cons _ pI _ (by simp [table, pI]) (by simp [pI])]; rw [go_cons _ pG _ (by simp [table, pG]) (by simp [pG])]; rw [go_cons _ pC _ (by simp [table, pC]) (by simp [pC])]; rw [go_cons _ pD _ (by simp [table, pD]) (by simp [pD])]; rw [go_cons _ pQ _ (by simp [table, pQ]) (by simp [pQ])]; rw [go_cons _ pT _ (by simp [table, pT]) (by simp [pT])]; simp [pC, pD, pG, pI, pQ, pT, goB, List.drop_drop]
  rw [parts4, List.drop_one, List.tail_cons, h]
  simp only [List.drop_drop]

set_option maxRecDepth 100000 in
set_option maxHeartbeats 4000000 in
theorem goes4 (s : ByteArray) (w : World) (hs : s.size ≤ 140737488355328) :
    Calls Tryz.prog 67 #[.int .i64 4, .string s] w fun e w' => e = .returned (.bool (goB (s.data.toList.drop 2) ((partsL 4).drop 1))) ∧ w = w' := by
  have HB := hid (goes_eq4 s)
  generalize goB (s.data.toList.drop 2) ((partsL 4).drop 1) = BB at *
  go_enter Tryz.func67, Tryz.ntmps67
  go_wp2_with fail
  refine (refNeeds_any 4 _).mono ?_
  rintro e wj ⟨rfl, rfl⟩
  have hnd : needG 4 = true ∧ needC 4 = true ∧ needD 4 = true ∧ needQ 4 = true ∧ needH 4 = false ∧ needT 4 = true := by decide
  obtain ⟨ng, nc, nd, nq, nh, nt⟩ := hnd
  rw [ng, nc, nd, nq, nh, nt]
  clear ng nc nd nq nh nt
  go_wp2_with fail
  refine (field_lit s 2 4 _ _ 0 2147483647 _ hs rfl rfl (by omega) (by omega) (by omega) (by omega) (by omega)).mono ?_
  rintro e wj ⟨rfl, rfl⟩
  generalize hb1 : fieldB (s.data.toList.drop 2) 4 0 2147483647 = b1 at HB ⊢
  clear hb1
  cases b1 with
  | false =>
    go_wp2_with fail
    refine (field_lit s 6 1 _ _ 0 3 _ hs rfl rfl (by omega) (by omega) (by omega) (by omega) (by omega)).mono ?_
    rintro e wj ⟨rfl, rfl⟩
    generalize hb2 : fieldB (s.data.toList.drop 6) 1 0 3 = b2 at HB ⊢
    clear hb2
    go_wp2_with fail
    refine (field_lit s 7 1 _ _ 0 2 _ hs rfl rfl (by omega) (by omega) (by omega) (by omega) (by omega)).mono ?_
    rintro e wj ⟨rfl, rfl⟩
    generalize hb3 : fieldB (s.data.toList.drop 7) 1 0 2 = b3 at HB ⊢
    clear hb3
    go_wp2_with fail
    refine (field_lit s 8 1 _ _ 0 15 _ hs rfl rfl (by omega) (by omega) (by omega) (by omega) (by omega)).mono ?_
    rintro e wj ⟨rfl, rfl⟩
    generalize hb4 : fieldB (s.data.toList.drop 8) 1 0 15 = b4 at HB ⊢
    clear hb4
    go_wp2_with fail
    refine (field_lit s 9 4 _ _ 1 1000000 _ hs rfl rfl (by omega) (by omega) (by omega) (by omega) (by omega)).mono ?_
    rintro e wj ⟨rfl, rfl⟩
    generalize hb5 : fieldB (s.data.toList.drop 9) 4 1 1000000 = b5 at HB ⊢
    clear hb5
    go_wp2_with fail
    refine (field_lit s 13 2 _ _ 1 1000 _ hs rfl rfl (by omega) (by omega) (by omega) (by omega) (by omega)).mono ?_
    rintro e wj ⟨rfl, rfl⟩
    generalize hb6 : fieldB (s.data.toList.drop 13) 2 1 1000 = b6 at HB ⊢
    clear hb6
    go_wp2
    go_ret
    exact ⟨ret_bool (by rw [HB.out]; simp), rfl⟩
  | true =>
    go_wp2_with fail
    refine (field_lit s 6 1 _ _ 0 3 _ hs rfl rfl (by omega) (by omega) (by omega) (by omega) (by omega)).mono ?_
    rintro e wj ⟨rfl, rfl⟩
    generalize hb2 : fieldB (s.data.toList.drop 6) 1 0 3 = b2 at HB ⊢
    clear hb2
    cases b2 with
    | false =>
      go_wp2_with fail
      refine (field_lit s 7 1 _ _ 0 2 _ hs rfl rfl (by omega) (by omega) (by omega) (by omega) (by omega)).mono ?_
      rintro e wj ⟨rfl, rfl⟩
      generalize hb3 : fieldB (s.data.toList.drop 7) 1 0 2 = b3 at HB ⊢
      clear hb3
      go_wp2_with fail
      refine (field_lit s 8 1 _ _ 0 15 _ hs rfl rfl (by omega) (by omega) (by omega) (by omega) (by omega)).mono ?_
      rintro e wj ⟨rfl, rfl⟩
      generalize hb4 : fieldB (s.data.toList.drop 8) 1 0 15 = b4 at HB ⊢
      clear hb4
      go_wp2_with fail
      refine (field_lit s 9 4 _ _ 1 1000000 _ hs rfl rfl (by omega) (by omega) (by omega) (by omega) (by omega)).mono ?_
      rintro e wj ⟨rfl, rfl⟩
      generalize hb5 : fieldB (s.data.toList.drop 9) 4 1 1000000 = b5 at HB ⊢
      clear hb5
      go_wp2_with fail
      refine (field_lit s 13 2 _ _ 1 1000 _ hs rfl rfl (by omega) (by omega) (by omega) (by omega) (by omega)).mono ?_
      rintro e wj ⟨rfl, rfl⟩
      generalize hb6 : fieldB (s.data.toList.drop 13) 2 1 1000 = b6 at HB ⊢
      clear hb6
      go_wp2
      go_ret
      exact ⟨ret_bool (by rw [HB.out]; simp), rfl⟩
    | true =>
      go_wp2_with fail
      refine (field_lit s 7 1 _ _ 0 2 _ hs rfl rfl (by omega) (by omega) (by omega) (by omega) (by omega)).mono ?_
      rintro e wj ⟨rfl, rfl⟩
      generalize hb3 : fieldB (s.data.toList.drop 7) 1 0 2 = b3 at HB ⊢
      clear hb3
      cases b3 with
      | false =>
        go_wp2_with fail
        refine (field_lit s 8 1 _ _ 0 15 _ hs rfl rfl (by omega) (by omega) (by omega) (by omega) (by omega)).mono ?_
        rintro e wj ⟨rfl, rfl⟩
        generalize hb4 : fieldB (s.data.toList.drop 8) 1 0 15 = b4 at HB ⊢
        clear hb4
        go_wp2_with fail
        refine (field_lit s 9 4 _ _ 1 1000000 _ hs rfl rfl (by omega) (by omega) (by omega) (by omega) (by omega)).mono ?_
        rintro e wj ⟨rfl, rfl⟩
        generalize hb5 : fieldB (s.data.toList.drop 9) 4 1 1000000 = b5 at HB ⊢
        clear hb5
        go_wp2_with fail
        refine (field_lit s 13 2 _ _ 1 1000 _ hs rfl rfl (by omega) (by omega) (by omega) (by omega) (by omega)).mono ?_
        rintro e wj ⟨rfl, rfl⟩
        generalize hb6 : fieldB (s.data.toList.drop 13) 2 1 1000 = b6 at HB ⊢
        clear hb6
        go_wp2
        go_ret
        exact ⟨ret_bool (by rw [HB.out]; simp), rfl⟩
      | true =>
        go_wp2_with fail
        refine (field_lit s 8 1 _ _ 0 15 _ hs rfl rfl (by omega) (by omega) (by omega) (by omega) (by omega)).mono ?_
        rintro e wj ⟨rfl, rfl⟩
        generalize hb4 : fieldB (s.data.toList.drop 8) 1 0 15 = b4 at HB ⊢
        clear hb4
        cases b4 with
        | false =>
          go_wp2_with fail
          refine (field_lit s 9 4 _ _ 1 1000000 _ hs rfl rfl (by omega) (by omega) (by omega) (by omega) (by omega)).mono ?_
          rintro e wj ⟨rfl, rfl⟩
          generalize hb5 : fieldB (s.data.toList.drop 9) 4 1 1000000 = b5 at HB ⊢
          clear hb5
          go_wp2_with fail
          refine (field_lit s 13 2 _ _ 1 1000 _ hs rfl rfl (by omega) (by omega) (by omega) (by omega) (by omega)).mono ?_
          rintro e wj ⟨rfl, rfl⟩
          generalize hb6 : fieldB (s.data.toList.drop 13) 2 1 1000 = b6 at HB ⊢
          clear hb6
          go_wp2
          go_ret
          exact ⟨ret_bool (by rw [HB.out]; simp), rfl⟩
        | true =>
          go_wp2_with fail
          refine (field_lit s 9 4 _ _ 1 1000000 _ hs rfl rfl (by omega) (by omega) (by omega) (by omega) (by omega)).mono ?_
          rintro e wj ⟨rfl, rfl⟩
          generalize hb5 : fieldB (s.data.toList.drop 9) 4 1 1000000 = b5 at HB ⊢
          clear hb5
          cases b5 with
          | false =>
            go_wp2_with fail
            refine (field_lit s 13 2 _ _ 1 1000 _ hs rfl rfl (by omega) (by omega) (by omega) (by omega) (by omega)).mono ?_
            rintro e wj ⟨rfl, rfl⟩
            generalize hb6 : fieldB (s.data.toList.drop 13) 2 1 1000 = b6 at HB ⊢
            clear hb6
            go_wp2
            go_ret
            exact ⟨ret_bool (by rw [HB.out]; simp), rfl⟩
          | true =>
            go_wp2_with fail
            refine (field_lit s 13 2 _ _ 1 1000 _ hs rfl rfl (by omega) (by omega) (by omega) (by omega) (by omega)).mono ?_
            rintro e wj ⟨rfl, rfl⟩
            generalize hb6 : fieldB (s.data.toList.drop 13) 2 1 1000 = b6 at HB ⊢
            clear hb6
            cases b6 with
            | false =>
              go_wp2
              go_ret
              exact ⟨ret_bool (by rw [HB.out]; simp), rfl⟩
            | true =>
              go_wp2
              go_ret
              exact ⟨ret_bool (by rw [HB.out]; simp), rfl⟩

theorem goes_eq5 (s : ByteArray) : goB (s.data.toList.drop 2) ((partsL 5).drop 1) = (fieldB (s.data.toList.drop 2) 4 0 2147483647 && (fieldB (s.data.toList.drop 6) 4 1 4294967295 && true)) := by
  have h : ∀ l : List UInt8, goB l [pI, pH] = (fieldB l 4 0 2147483647 && (fieldB (l.drop 4) 4 1 4294967295 && true)) := fun l => by
    rw [go_cons _ pI _ (by simp [table, pI]) (by simp [pI])]; rw [go_cons _ pH _ (by simp [table, pH]) (by simp [pH])]; simp [pH, pI, goB]
  rw [parts5, List.drop_one, List.tail_cons, h]
  simp only [List.drop_drop]

set_option maxRecDepth 100000 in
set_option maxHeartbeats 4000000 in
theorem goes5 (s : ByteArray) (w : World) (hs : s.size ≤ 140737488355328) :
    Calls Tryz.prog 67 #[.int .i64 5, .string s] w fun e w' => e = .returned (.bool (goB (s.data.toList.drop 2) ((partsL 5).drop 1))) ∧ w = w' := by
  have HB := hid (goes_eq5 s)
  generalize goB (s.data.toList.drop 2) ((partsL 5).drop 1) = BB at *
  go_enter Tryz.func67, Tryz.ntmps67
  go_wp2_with fail
  refine (refNeeds_any 5 _).mono ?_
  rintro e wj ⟨rfl, rfl⟩
  have hnd : needG 5 = false ∧ needC 5 = false ∧ needD 5 = false ∧ needQ 5 = false ∧ needH 5 = true ∧ needT 5 = false := by decide
  obtain ⟨ng, nc, nd, nq, nh, nt⟩ := hnd
  rw [ng, nc, nd, nq, nh, nt]
  clear ng nc nd nq nh nt
  go_wp2_with fail
  refine (field_lit s 2 4 _ _ 0 2147483647 _ hs rfl rfl (by omega) (by omega) (by omega) (by omega) (by omega)).mono ?_
  rintro e wj ⟨rfl, rfl⟩
  generalize hb1 : fieldB (s.data.toList.drop 2) 4 0 2147483647 = b1 at HB ⊢
  clear hb1
  cases b1 with
  | false =>
    go_wp2_with fail
    refine (field_lit s 6 4 _ _ 1 4294967295 _ hs rfl rfl (by omega) (by omega) (by omega) (by omega) (by omega)).mono ?_
    rintro e wj ⟨rfl, rfl⟩
    generalize hb2 : fieldB (s.data.toList.drop 6) 4 1 4294967295 = b2 at HB ⊢
    clear hb2
    go_wp2
    go_ret
    exact ⟨ret_bool (by rw [HB.out]; simp), rfl⟩
  | true =>
    go_wp2_with fail
    refine (field_lit s 6 4 _ _ 1 4294967295 _ hs rfl rfl (by omega) (by omega) (by omega) (by omega) (by omega)).mono ?_
    rintro e wj ⟨rfl, rfl⟩
    generalize hb2 : fieldB (s.data.toList.drop 6) 4 1 4294967295 = b2 at HB ⊢
    clear hb2
    cases b2 with
    | false =>
      go_wp2
      go_ret
      exact ⟨ret_bool (by rw [HB.out]; simp), rfl⟩
    | true =>
      go_wp2
      go_ret
      exact ⟨ret_bool (by rw [HB.out]; simp), rfl⟩

theorem goes_eq6 (s : ByteArray) : goB (s.data.toList.drop 2) ((partsL 6).drop 1) = (fieldB (s.data.toList.drop 2) 4 0 2147483647 && (fieldB (s.data.toList.drop 6) 4 1 4294967295 && true)) := by
  have h : ∀ l : List UInt8, goB l [pI, pH] = (fieldB l 4 0 2147483647 && (fieldB (l.drop 4) 4 1 4294967295 && true)) := fun l => by
    rw [go_cons _ pI _ (by simp [table, pI]) (by simp [pI])]; rw [go_cons _ pH _ (by simp [table, pH]) (by simp [pH])]; simp [pH, pI, goB]
  rw [parts6, List.drop_one, List.tail_cons, h]
  simp only [List.drop_drop]

set_option maxRecDepth 100000 in
set_option maxHeartbeats 4000000 in
theorem goes6 (s : ByteArray) (w : World) (hs : s.size ≤ 140737488355328) :
    Calls Tryz.prog 67 #[.int .i64 6, .string s] w fun e w' => e = .returned (.bool (goB (s.data.toList.drop 2) ((partsL 6).drop 1))) ∧ w = w' := by
  have HB := hid (goes_eq6 s)
  generalize goB (s.data.toList.drop 2) ((partsL 6).drop 1) = BB at *
  go_enter Tryz.func67, Tryz.ntmps67
  go_wp2_with fail
  refine (refNeeds_any 6 _).mono ?_
  rintro e wj ⟨rfl, rfl⟩
  have hnd : needG 6 = false ∧ needC 6 = false ∧ needD 6 = false ∧ needQ 6 = false ∧ needH 6 = true ∧ needT 6 = false := by decide
  obtain ⟨ng, nc, nd, nq, nh, nt⟩ := hnd
  rw [ng, nc, nd, nq, nh, nt]
  clear ng nc nd nq nh nt
  go_wp2_with fail
  refine (field_lit s 2 4 _ _ 0 2147483647 _ hs rfl rfl (by omega) (by omega) (by omega) (by omega) (by omega)).mono ?_
  rintro e wj ⟨rfl, rfl⟩
  generalize hb1 : fieldB (s.data.toList.drop 2) 4 0 2147483647 = b1 at HB ⊢
  clear hb1
  cases b1 with
  | false =>
    go_wp2_with fail
    refine (field_lit s 6 4 _ _ 1 4294967295 _ hs rfl rfl (by omega) (by omega) (by omega) (by omega) (by omega)).mono ?_
    rintro e wj ⟨rfl, rfl⟩
    generalize hb2 : fieldB (s.data.toList.drop 6) 4 1 4294967295 = b2 at HB ⊢
    clear hb2
    go_wp2
    go_ret
    exact ⟨ret_bool (by rw [HB.out]; simp), rfl⟩
  | true =>
    go_wp2_with fail
    refine (field_lit s 6 4 _ _ 1 4294967295 _ hs rfl rfl (by omega) (by omega) (by omega) (by omega) (by omega)).mono ?_
    rintro e wj ⟨rfl, rfl⟩
    generalize hb2 : fieldB (s.data.toList.drop 6) 4 1 4294967295 = b2 at HB ⊢
    clear hb2
    cases b2 with
    | false =>
      go_wp2
      go_ret
      exact ⟨ret_bool (by rw [HB.out]; simp), rfl⟩
    | true =>
      go_wp2
      go_ret
      exact ⟨ret_bool (by rw [HB.out]; simp), rfl⟩

theorem goes_eq7 (s : ByteArray) : goB (s.data.toList.drop 2) ((partsL 7).drop 1) = (fieldB (s.data.toList.drop 2) 4 0 2147483647 && (fieldB (s.data.toList.drop 6) 1 0 3 && ((fieldB (s.data.toList.drop 7) 4 2146483648 2147483647 || fieldB (s.data.toList.drop 7) 4 2147483649 2148483648) && true))) := by
  have h : ∀ l : List UInt8, goB l [pI, pG, pJ] = (fieldB l 4 0 2147483647 && (fieldB (l.drop 4) 1 0 3 && ((fieldB (l.drop 5) 4 2146483648 2147483647 || fieldB (l.drop 5) 4 2147483649 2148483648) && true))) := fun l => by
    rw [go_cons _ pI _ (by simp [table, pI]) (by simp [pI])]; rw [go_cons _ pG _ (by simp [table, pG]) (by simp [pG])]; rw [go_J]; simp [pG, pI, goB, List.drop_drop]
  rw [parts7, List.drop_one, List.tail_cons, h]
  simp only [List.drop_drop]

set_option maxRecDepth 100000 in
set_option maxHeartbeats 4000000 in
theorem goes7 (s : ByteArray) (w : World) (hs : s.size ≤ 140737488355328) :
    Calls Tryz.prog 67 #[.int .i64 7, .string s] w fun e w' => e = .returned (.bool (goB (s.data.toList.drop 2) ((partsL 7).drop 1))) ∧ w = w' := by
  have HB := hid (goes_eq7 s)
  generalize goB (s.data.toList.drop 2) ((partsL 7).drop 1) = BB at *
  go_enter Tryz.func67, Tryz.ntmps67
  go_wp2_with fail
  refine (refNeeds_any 7 _).mono ?_
  rintro e wj ⟨rfl, rfl⟩
  have hnd : needG 7 = true ∧ needC 7 = false ∧ needD 7 = false ∧ needQ 7 = true ∧ needH 7 = false ∧ needT 7 = false := by decide
  obtain ⟨ng, nc, nd, nq, nh, nt⟩ := hnd
  rw [ng, nc, nd, nq, nh, nt]
  clear ng nc nd nq nh nt
  go_wp2_with fail
  refine (field_lit s 2 4 _ _ 0 2147483647 _ hs rfl rfl (by omega) (by omega) (by omega) (by omega) (by omega)).mono ?_
  rintro e wj ⟨rfl, rfl⟩
  generalize hb1 : fieldB (s.data.toList.drop 2) 4 0 2147483647 = b1 at HB ⊢
  clear hb1
  cases b1 with
  | false =>
    go_wp2_with fail
    refine (field_lit s 6 1 _ _ 0 3 _ hs rfl rfl (by omega) (by omega) (by omega) (by omega) (by omega)).mono ?_
    rintro e wj ⟨rfl, rfl⟩
    generalize hb2 : fieldB (s.data.toList.drop 6) 1 0 3 = b2 at HB ⊢
    clear hb2
    go_wp2_with fail
    refine (field_lit s 7 4 _ _ 2146483648 2147483647 _ hs rfl rfl (by omega) (by omega) (by omega) (by omega) (by omega)).mono ?_
    rintro e wj ⟨rfl, rfl⟩
    generalize hb3 : fieldB (s.data.toList.drop 7) 4 2146483648 2147483647 = b3 at HB ⊢
    clear hb3
    go_wp2_with fail
    refine (field_lit s 7 4 _ _ 2147483649 2148483648 _ hs rfl rfl (by omega) (by omega) (by omega) (by omega) (by omega)).mono ?_
    rintro e wj ⟨rfl, rfl⟩
    generalize hb4 : fieldB (s.data.toList.drop 7) 4 2147483649 2148483648 = b4 at HB ⊢
    clear hb4
    go_wp2
    go_ret
    exact ⟨ret_bool (by rw [HB.out]; simp), rfl⟩
  | true =>
    go_wp2_with fail
    refine (field_lit s 6 1 _ _ 0 3 _ hs rfl rfl (by omega) (by omega) (by omega) (by omega) (by omega)).mono ?_
    rintro e wj ⟨rfl, rfl⟩
    generalize hb2 : fieldB (s.data.toList.drop 6) 1 0 3 = b2 at HB ⊢
    clear hb2
    cases b2 with
    | false =>
      go_wp2_with fail
      refine (field_lit s 7 4 _ _ 2146483648 2147483647 _ hs rfl rfl (by omega) (by omega) (by omega) (by omega) (by omega)).mono ?_
      rintro e wj ⟨rfl, rfl⟩
      generalize hb3 : fieldB (s.data.toList.drop 7) 4 2146483648 2147483647 = b3 at HB ⊢
      clear hb3
      go_wp2_with fail
      refine (field_lit s 7 4 _ _ 2147483649 2148483648 _ hs rfl rfl (by omega) (by omega) (by omega) (by omega) (by omega)).mono ?_
      rintro e wj ⟨rfl, rfl⟩
      generalize hb4 : fieldB (s.data.toList.drop 7) 4 2147483649 2148483648 = b4 at HB ⊢
      clear hb4
      go_wp2
      go_ret
      exact ⟨ret_bool (by rw [HB.out]; simp), rfl⟩
    | true =>
      go_wp2_with fail
      refine (field_lit s 7 4 _ _ 2146483648 2147483647 _ hs rfl rfl (by omega) (by omega) (by omega) (by omega) (by omega)).mono ?_
      rintro e wj ⟨rfl, rfl⟩
      generalize hb3 : fieldB (s.data.toList.drop 7) 4 2146483648 2147483647 = b3 at HB ⊢
      clear hb3
      go_wp2_with fail
      refine (field_lit s 7 4 _ _ 2147483649 2148483648 _ hs rfl rfl (by omega) (by omega) (by omega) (by omega) (by omega)).mono ?_
      rintro e wj ⟨rfl, rfl⟩
      generalize hb4 : fieldB (s.data.toList.drop 7) 4 2147483649 2148483648 = b4 at HB ⊢
      clear hb4
      cases b3 <;> cases b4
      · go_wp2
        go_ret
        exact ⟨ret_bool (by rw [HB.out]; simp), rfl⟩
      · go_wp2
        go_ret
        exact ⟨ret_bool (by rw [HB.out]; simp), rfl⟩
      · go_wp2
        go_ret
        exact ⟨ret_bool (by rw [HB.out]; simp), rfl⟩
      · go_wp2
        go_ret
        exact ⟨ret_bool (by rw [HB.out]; simp), rfl⟩

theorem goes_eq8 (s : ByteArray) : goB (s.data.toList.drop 2) ((partsL 8).drop 1) = (fieldB (s.data.toList.drop 2) 4 0 2147483647 && (fieldB (s.data.toList.drop 6) 2 1 1000 && true)) := by
  have h : ∀ l : List UInt8, goB l [pI, pT] = (fieldB l 4 0 2147483647 && (fieldB (l.drop 4) 2 1 1000 && true)) := fun l => by
    rw [go_cons _ pI _ (by simp [table, pI]) (by simp [pI])]; rw [go_cons _ pT _ (by simp [table, pT]) (by simp [pT])]; simp [pI, pT, goB]
  rw [parts8, List.drop_one, List.tail_cons, h]
  simp only [List.drop_drop]

set_option maxRecDepth 100000 in
set_option maxHeartbeats 4000000 in
theorem goes8 (s : ByteArray) (w : World) (hs : s.size ≤ 140737488355328) :
    Calls Tryz.prog 67 #[.int .i64 8, .string s] w fun e w' => e = .returned (.bool (goB (s.data.toList.drop 2) ((partsL 8).drop 1))) ∧ w = w' := by
  have HB := hid (goes_eq8 s)
  generalize goB (s.data.toList.drop 2) ((partsL 8).drop 1) = BB at *
  go_enter Tryz.func67, Tryz.ntmps67
  go_wp2_with fail
  refine (refNeeds_any 8 _).mono ?_
  rintro e wj ⟨rfl, rfl⟩
  have hnd : needG 8 = false ∧ needC 8 = false ∧ needD 8 = false ∧ needQ 8 = false ∧ needH 8 = false ∧ needT 8 = true := by decide
  obtain ⟨ng, nc, nd, nq, nh, nt⟩ := hnd
  rw [ng, nc, nd, nq, nh, nt]
  clear ng nc nd nq nh nt
  go_wp2_with fail
  refine (field_lit s 2 4 _ _ 0 2147483647 _ hs rfl rfl (by omega) (by omega) (by omega) (by omega) (by omega)).mono ?_
  rintro e wj ⟨rfl, rfl⟩
  generalize hb1 : fieldB (s.data.toList.drop 2) 4 0 2147483647 = b1 at HB ⊢
  clear hb1
  cases b1 with
  | false =>
    go_wp2_with fail
    refine (field_lit s 6 2 _ _ 1 1000 _ hs rfl rfl (by omega) (by omega) (by omega) (by omega) (by omega)).mono ?_
    rintro e wj ⟨rfl, rfl⟩
    generalize hb2 : fieldB (s.data.toList.drop 6) 2 1 1000 = b2 at HB ⊢
    clear hb2
    go_wp2
    go_ret
    exact ⟨ret_bool (by rw [HB.out]; simp), rfl⟩
  | true =>
    go_wp2_with fail
    refine (field_lit s 6 2 _ _ 1 1000 _ hs rfl rfl (by omega) (by omega) (by omega) (by omega) (by omega)).mono ?_
    rintro e wj ⟨rfl, rfl⟩
    generalize hb2 : fieldB (s.data.toList.drop 6) 2 1 1000 = b2 at HB ⊢
    clear hb2
    cases b2 with
    | false =>
      go_wp2
      go_ret
      exact ⟨ret_bool (by rw [HB.out]; simp), rfl⟩
    | true =>
      go_wp2
      go_ret
      exact ⟨ret_bool (by rw [HB.out]; simp), rfl⟩

end Go.Proofs.YtdblmheoghhepaaGreatDoor

/- The document's 'begins'. -/
namespace Go.Proofs.YtdblmheoghhepaaGreatDoor
open Go.RowKit

theorem goes_any (j : Nat) (hj : j < 8) (s : ByteArray) (w : World) (hs : s.size ≤ 140737488355328) :
    Calls Tryz.prog 67 #[.int .i64 ((j : Int) + 1), .string s] w fun e w' => e = .returned (.bool (goB (s.data.toList.drop 2) ((partsL ((j : Int) + 1)).drop 1))) ∧ w = w' := by
  have hc : j = 0 ∨ j = 1 ∨ j = 2 ∨ j = 3 ∨ j = 4 ∨ j = 5 ∨ j = 6 ∨ j = 7 := by omega
  rcases hc with rfl | rfl | rfl | rfl | rfl | rfl | rfl | rfl
  · exact goes1 s w hs
  · exact goes2 s w hs
  · exact goes3 s w hs
  · exact goes4 s w hs
  · exact goes5 s w hs
  · exact goes6 s w hs
  · exact goes7 s w hs
  · exact goes8 s w hs

/-- How many bytes follow, of a kind. -/
def szs (j : Nat) : Int := ((wsum (partsL ((j : Int) + 1)) : Nat) : Int)
/-- Whether kind j + 1 may go on from these bytes. -/
def passB (j : Nat) (l : List UInt8) : Bool := ((((l[0]?).getD 0).toNat : Int) == szs j) && ((!(decide (1 < l.length)) || ((((l[1]?).getD 0).toNat : Int) == (j : Int) + 1)) && goB (l.drop 2) ((partsL ((j : Int) + 1)).drop 1))

theorem goB_nil (L : List Part) (h : ∀ p ∈ L, p ∈ table) : goB [] L = true := by
  induction L with
  | nil => rfl
  | cons p t ih =>
    rw [goB]
    have hp := h p (by simp)
    have e : canB p ([].take p.width) = true := by
      simp [table] at hp
      rcases hp with rfl | rfl | rfl | rfl | rfl | rfl | rfl | rfl | rfl <;> decide
    rw [e, List.drop_nil, ih (fun q hq => h q (by simp [hq]))]
    rfl
theorem parts_tail (k : Int) : ∀ p ∈ (partsL k).drop 1, p ∈ table := fun _ hp => (List.mem_filter.1 (List.mem_of_mem_drop hp)).1

theorem begins_one (b : UInt8) : beginsB [b] = (List.range 8).any fun j => passB j [b] := by
  show widthB (b.toNat : Int) = _
  unfold widthB
  congr 1
  funext j
  unfold passB szs
  rw [show ([b] : List UInt8).drop 2 = [] from rfl, goB_nil _ (parts_tail _)]
  simp
  rw [Bool.eq_iff_iff]
  simp
  exact eq_comm
theorem begins_more (b0 b1 : UInt8) (t : List UInt8) : beginsB (b0 :: b1 :: t) = (List.range 8).any fun j => passB j (b0 :: b1 :: t) := by
  have bt : beginsB (b0 :: b1 :: t) = ((decide (1 ≤ b1.toNat) && decide (b1.toNat ≤ 8)) && (((b0.toNat : Int) == ((wsum (partsL (b1.toNat : Int)) : Nat) : Int)) && goB t ((partsL (b1.toNat : Int)).drop 1))) := rfl
  rw [bt, Bool.eq_iff_iff]
  rw [List.any_eq_true]
  constructor
  · intro h
    simp only [Bool.and_eq_true, decide_eq_true_eq] at h
    obtain ⟨⟨h1, h8⟩, h2, h3⟩ := h
    refine ⟨b1.toNat - 1, List.mem_range.2 (by omega), ?_⟩
    have e : (((b1.toNat - 1 : Nat) : Int) + 1) = (b1.toNat : Int) := by omega
    unfold passB szs
    rw [e]
    simp only [List.getElem?_cons_zero, List.getElem?_cons_succ, Option.getD_some, List.drop_succ_cons, List.drop_zero, h2, h3]
    simp
  · rintro ⟨j, hj, h⟩
    have hj8 := List.mem_range.1 hj
    unfold passB szs at h
    simp only [List.getElem?_cons_zero, List.getElem?_cons_succ, Option.getD_some, List.drop_succ_cons, List.drop_zero, Bool.and_eq_true, Bool.or_eq_true, Bool.not_eq_true', decide_eq_false_iff_not] at h
    obtain ⟨h1, h2, h3⟩ := h
    have e : (b1.toNat : Int) = (j : Int) + 1 := by
      rcases h2 with h2 | h2
      · simp at h2
      · simpa using h2
    rw [e]
    simp only [h1, h3, Bool.and_true, Bool.and_eq_true, decide_eq_true_eq]
    omega

set_option maxRecDepth 100000 in
set_option maxHeartbeats 8000000 in
theorem begins_any (s : ByteArray) (w : World) (hp : 0 < s.size) (hs : s.size ≤ 140737488355328) (B : Bool) (HB : Hid (B = (List.range 8).any fun j => passB j s.data.toList)) :
    Calls Tryz.prog 43 #[.string s] w fun e w' => e = .returned (.bool B) ∧ Below w.heap.size w w' := by
  have h0 : ((s.size : Int) == 0) = false := by rw [beq_eq_false_iff_ne]; omega
  have hb := (s[0]'hp).toNat_lt
  have hk0 : wrap64 (((s[0]'hp).toNat : Nat) : Int) = (((s[0]'hp).toNat : Nat) : Int) := w64 _ (by omega)
  have el : s.data.toList.length = s.size := Array.length_toList
  have e0 : (s.data.toList[0]?).getD 0 = s[0]'hp := by
    rw [List.getElem?_eq_getElem (by omega)]
    rfl
  have szv : ∀ j : Nat, j < 8 → (#[Value.int .i64 10, .int .i64 11, .int .i64 11, .int .i64 14, .int .i64 9, .int .i64 9, .int .i64 10, .int .i64 7] : Array Value)[j]? = some (.int .i64 (szs j)) := fun j hj => by
    have hc : j = 0 ∨ j = 1 ∨ j = 2 ∨ j = 3 ∨ j = 4 ∨ j = 5 ∨ j = 6 ∨ j = 7 := by omega
    rcases hc with rfl | rfl | rfl | rfl | rfl | rfl | rfl | rfl
    · show _ = some (Value.int .i64 ((wsum (partsL 1) : Nat) : Int)); rw [wsum1]; rfl
    · show _ = some (Value.int .i64 ((wsum (partsL 2) : Nat) : Int)); rw [wsum2]; rfl
    · show _ = some (Value.int .i64 ((wsum (partsL 3) : Nat) : Int)); rw [wsum3]; rfl
    · show _ = some (Value.int .i64 ((wsum (partsL 4) : Nat) : Int)); rw [wsum4]; rfl
    · show _ = some (Value.int .i64 ((wsum (partsL 5) : Nat) : Int)); rw [wsum5]; rfl
    · show _ = some (Value.int .i64 ((wsum (partsL 6) : Nat) : Int)); rw [wsum6]; rfl
    · show _ = some (Value.int .i64 ((wsum (partsL 7) : Nat) : Int)); rw [wsum7]; rfl
    · show _ = some (Value.int .i64 ((wsum (partsL 8) : Nat) : Int)); rw [wsum8]; rfl
  have PE : Hid (∀ j, passB j s.data.toList = ((((s[0]'hp).toNat : Int) == szs j) && ((!(decide (1 < s.size)) || ((((s.data.toList[1]?).getD 0).toNat : Int) == (j : Int) + 1)) && goB (s.data.toList.drop 2) ((partsL ((j : Int) + 1)).drop 1)))) := fun j => by
    unfold passB
    rw [e0, el]
  have HG := hid (fun (j : Nat) (hj : j < 8) (w : World) => goes_any j hj s w hs)
  obtain ⟨pf, epf⟩ : ∃ pf : Nat → Bool, pf = fun j => passB j s.data.toList := ⟨_, rfl⟩
  have HP : Hid (∀ j, pf j = passB j s.data.toList) := fun j => by rw [epf]
  have HBB : Hid (B = (List.range 8).any pf) := by show _ = _; rw [epf]; exact HB.out
  clear epf HB el e0
  have B1 : Below w.heap.size w (w.alloc (.cells #[.int .i64 10, .int .i64 11, .int .i64 11, .int .i64 14, .int .i64 9, .int .i64 9, .int .i64 10, .int .i64 7] 3)) := (Below.refl _ _).alloc (Nat.le_refl _) _
  go_enter Tryz.func43, Tryz.ntmps43
  go_wp2
  go_loopw [4] (fun v wr => ∃ j : Nat, j ≤ 8 ∧ v = .int .i64 ((j : Int) + 1) ∧ (∀ i, i < j → pf i = false) ∧ Below w.heap.size w wr ∧ (∀ i, i < 8 → wr.cell? ⟨w.heap.size, i, none⟩ = some (.int .i64 (szs i)))) (fun v _ => 9 - (intOf v).toNat)
  case atStart => exact ⟨0, Nat.zero_le _, rfl, fun i hi => by omega, B1, fun i hi => by rw [World.cell?_alloc_new]; exact szv i hi⟩
  case round =>
    clear B1 szv
    obtain ⟨j, hj, rfl, hf, hbw, hc⟩ := hrel
    by_cases hlt : j < 8
    · have jI : (j : Int) + 1 ≤ 8 := by omega
      have jI2 : (j : Int) < 8 := by omega
      have cj := hc j hlt
      have e1 : (j : Int) + 1 - 1 = (j : Int) := by omega
      have eW : IntKind.i64.wrap ((j : Int) + 1 - 1) = (j : Int) := by rw [w64i _ (by omega)]; omega
      have PJ := hid ((HP.out j).trans (PE.out j))
      have next : pf j = false → ∀ W : World, Below wr.heap.size wr W → ∃ j' : Nat, j' ≤ 8 ∧ Value.int .i64 ((j : Int) + 1 + 1) = .int .i64 ((j' : Int) + 1) ∧ (∀ i, i < j' → pf i = false) ∧ Below w.heap.size w W ∧ (∀ i, i < 8 → W.cell? ⟨w.heap.size, i, none⟩ = some (.int .i64 (szs i))) := fun hpj W hW =>
        ⟨j + 1, by omega, int_eq (by omega), fun i hi => by
          rcases Nat.lt_or_ge i j with h | h
          · exact hf i h
          · have : i = j := by omega
            rw [this]; exact hpj, hbw.trans (hW.mono hbw.size), fun i hi => (hW.cell (p := ⟨w.heap.size, i, none⟩) (World.block_lt_of_cell? wr ⟨w.heap.size, i, none⟩ (hc i hi))).trans (hc i hi)⟩
      have HN := hid next
      have HT : Hid (pf j = true → B = true) := fun h => by
        rw [HBB.out, List.any_eq_true]
        exact ⟨j, List.mem_range.2 hlt, h⟩
      have hBel := hid hbw
      clear next hf hbw hc
      generalize szs j = Z at *
      by_cases q0 : ((s[0]'hp).toNat : Int) = Z
      · have g0 : (((s[0]'hp).toNat : Int) == Z) = true := by simpa using q0
        have g0' : (((s[0]'hp).toNat : Int) != Z) = false := by simpa using q0
        have P1 := hid (show pf j = ((!(decide (1 < s.size)) || ((((s.data.toList[1]?).getD 0).toNat : Int) == (j : Int) + 1)) && goB (s.data.toList.drop 2) ((partsL ((j : Int) + 1)).drop 1)) from by rw [PJ.out, g0]; rfl)
        have G := fun W => HG.out j hlt W
        clear q0 PJ PE HP HG
        by_cases h1 : 1 < s.size
        · have g1 : decide ((1 : Int) < (s.size : Int)) = true := decide_eq_true (by omega)
          have g1n : decide (1 < s.size) = true := decide_eq_true h1
          have h1I : (1 : Int) < (s.size : Int) := by omega
          have hb1 := (s[1]'h1).toNat_lt
          have hk1 : wrap64 (((s[1]'h1).toNat : Nat) : Int) = (((s[1]'h1).toNat : Nat) : Int) := w64 _ (by omega)
          have e1s : (s.data.toList[1]?).getD 0 = s[1]'h1 := by
            rw [List.getElem?_eq_getElem (by rw [Array.length_toList]; exact h1)]
            rfl
          have P2 := hid (show pf j = ((((s[1]'h1).toNat : Int) == (j : Int) + 1) && goB (s.data.toList.drop 2) ((partsL ((j : Int) + 1)).drop 1)) from by rw [P1.out, e1s, decide_eq_true h1]; rfl)
          clear P1 e1s
          by_cases q1 : ((s[1]'h1).toNat : Int) = (j : Int) + 1
          · have g2 : (((s[1]'h1).toNat : Int) == (j : Int) + 1) = true := by simpa using q1
            have g2' : (((s[1]'h1).toNat : Int) != (j : Int) + 1) = false := by simpa using q1
            have P3 := hid (show pf j = goB (s.data.toList.drop 2) ((partsL ((j : Int) + 1)).drop 1) from by rw [P2.out, g2]; rfl)
            clear q1 P2
            generalize goB (s.data.toList.drop 2) ((partsL ((j : Int) + 1)).drop 1) = R at *
            go_wp2
            go_quiet (fail)
            go_wp2_with fail
            refine (G _).mono ?_
            rintro e wj ⟨rfl, rfl⟩
            clear G
            cases R with
            | true =>
              go_wp2
              go_ret
              exact ⟨ret_bool (HT.out P3.out).symm, below_drewN hBel.out _⟩
            | false =>
              go_wp2
              go_roundw
              case rel => exact HN.out P3.out _ (below_drewN (Below.refl _ _) _)
              case measure => simp [intOf]; omega
          · have g2 : (((s[1]'h1).toNat : Int) == (j : Int) + 1) = false := by simpa using q1
            have g2' : (((s[1]'h1).toNat : Int) != (j : Int) + 1) = true := by simpa using q1
            have P3 := hid (show pf j = false from by rw [P2.out, g2]; rfl)
            clear q1 P2 G
            go_wp2
            go_quiet (fail)
            go_wp2
            go_roundw
            case rel => exact HN.out P3.out _ (below_drewN (Below.refl _ _) _)
            case measure => simp [intOf]; omega
        · have g1 : decide ((1 : Int) < (s.size : Int)) = false := decide_eq_false (by omega)
          have g1n : decide (1 < s.size) = false := decide_eq_false h1
          have P3 := hid (show pf j = goB (s.data.toList.drop 2) ((partsL ((j : Int) + 1)).drop 1) from by rw [P1.out, decide_eq_false h1]; rfl)
          clear P1
          generalize goB (s.data.toList.drop 2) ((partsL ((j : Int) + 1)).drop 1) = R at *
          go_wp2
          go_quiet (fail)
          go_wp2_with fail
          refine (G _).mono ?_
          rintro e wj ⟨rfl, rfl⟩
          clear G
          cases R with
          | true =>
            go_wp2
            go_ret
            exact ⟨ret_bool (HT.out P3.out).symm, below_drewN hBel.out _⟩
          | false =>
            go_wp2
            go_roundw
            case rel => exact HN.out P3.out _ (below_drewN (Below.refl _ _) _)
            case measure => simp [intOf]; omega
      · have g0 : (((s[0]'hp).toNat : Int) == Z) = false := by simpa using q0
        have g0' : (((s[0]'hp).toNat : Int) != Z) = true := by simpa using q0
        have P3 := hid (show pf j = false from by rw [PJ.out, g0]; rfl)
        clear q0 PJ PE HP HG
        go_wp2
        go_quiet (fail)
        go_wp2
        go_roundw
        case rel => exact HN.out P3.out _ (below_drewN (Below.refl _ _) _)
        case measure => simp [intOf]; omega
    · have he : j = 8 := by omega
      subst he
      have HF : Hid (B = false) := by
        show _ = _
        rw [HBB.out, List.any_eq_false]
        intro i hi
        rw [hf i (List.mem_range.1 hi)]
        simp
      go_wp2
      go_ret
      exact ⟨ret_bool HF.out.symm, hbw⟩

end Go.Proofs.YtdblmheoghhepaaGreatDoor
