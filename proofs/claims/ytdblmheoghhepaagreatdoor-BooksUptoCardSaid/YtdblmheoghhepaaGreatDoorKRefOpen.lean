/- The document's 'New', 'Open'. -/
import Derived.Test.YtdblmheoghhepaaGreatDoorKRefBeginsAll
import Derived.Test.YtdblmheoghhepaaGreatDoorKRefDoAll
import Derived.Test.YtdblmheoghhepaaGreatDoorKBoth2
namespace Go.Proofs.YtdblmheoghhepaaGreatDoor
open Go.RowKit

/-! ### What holds of every ledger -/
structure SOk (S : Led) : Prop where
  ok : LOk S
  hok : HOk S.now S.H
  len : S.H.length ≤ 60
theorem sok_S0 : SOk S0 := ⟨lok_S0, hok_nil _, by show 0 ≤ 60; omega⟩
theorem len_dec {S : Led} (f : Nat → Int) (h : S.H.length ≤ 60) : (dec S f).S.H.length ≤ 60 := by
  have hm : ∀ i q, (moveD S i q).S.H.length ≤ 60 := fun i q => by unfold moveD moveS; split <;> exact h
  have hc : ∀ o s, (closeD S o s).S.H.length ≤ 60 := fun o s => by unfold closeD; split <;> simp [closeAt, h]
  unfold dec
  split
  · exact hm _ _
  · split
    · exact hm _ _
    · split
      · exact hm _ _
      · split
        · unfold promiseD
          split
          · rename_i e
            unfold mayE at e
            split at e
            · cases e
            · simp; omega
          · exact h
        · split
          · exact hc _ _
          · split
            · exact hc _ _
            · unfold tickD
              split
              · exact h
              · simp [expL, h]
theorem sok_do {S : Led} (h : SOk S) (f : Nat → Int) : SOk (doD S f).S := by
  refine ⟨lok_do h.ok f, ?_, ?_⟩
  · by_cases ha : Acc S f
    · rw [do_acc ha]
      exact hok_dec h.hok (rightC_of f ha.1)
    · rw [do_nacc ha]
      exact h.hok
  · by_cases ha : Acc S f
    · rw [do_acc ha]
      exact len_dec f h.len
    · rw [do_nacc ha]
      exact h.len
theorem do_grows {S : Led} {f : Nat → Int} : (Acc S f ∧ S.J.length < (doD S f).S.J.length ∧ (doD S f).E = 0) ∨ (¬ S.J.length < (doD S f).S.J.length ∧ (doD S f).S = S) := by
  by_cases ha : Acc S f
  · left
    rw [do_acc ha]
    refine ⟨ha, ?_, rfl⟩
    show S.J.length < (S.J ++ bytesS (frS f)).length
    have := frS_size_pos f
    rw [List.length_append, bytesS_len]
    omega
  · right
    rw [do_nacc ha]
    exact ⟨by omega, rfl⟩

/-- A ledger of the document's that was made behind the world w0. -/
structure RLive (w0 w : World) (r : RAdr) (S : Led) (D : List (Nat → Int)) : Prop where
  led : RLed w r S D
  ok : SOk S
  dok : DOk S.A D
  foot : ∀ k, r.foot k → w0.heap.size ≤ k
  below : Below w0.heap.size w0 w
theorem RLive.mk' {w0 w w' : World} {r : RAdr} {S : Led} {D : List (Nat → Int)} (h : RLive w0 w r S D) (hb : Below w.heap.size w w') : RLive w0 w' r S D :=
  ⟨h.led.below hb, h.ok, h.dok, h.foot, h.below.trans (hb.mono h.below.size)⟩

theorem zr_len : Tryz.zeroCells53.size = 84 := by kernel_rfl
theorem zr_mid : Tryz.zeroCells53.toList.take 81 = List.replicate 81 (.int .i64 0) := by kernel_rfl
theorem zr_81 : Tryz.zeroCells53.toList[81]? = some (.slice none 0 0) := by kernel_rfl
theorem zr_82 : Tryz.zeroCells53.toList[82]? = some (.slice none 0 0) := by kernel_rfl
theorem zr_83 : Tryz.zeroCells53.toList[83]? = some (.string (strOfNums [])) := by kernel_rfl
theorem zr_at (i : Nat) (h : i < 81) : Tryz.zeroCells53[i]? = some (.int .i64 0) := by
  rw [← Array.getElem?_toList]
  have : (Tryz.zeroCells53.toList.take 81)[i]? = some (.int .i64 0) := by rw [zr_mid, List.getElem?_replicate]; simp; omega
  rwa [List.getElem?_take_of_lt h] at this

set_option maxRecDepth 100000 in
set_option maxHeartbeats 1000000 in
theorem rnew_any (w : World) : Calls Tryz.prog 11 #[] w fun e w' => ∃ r : RAdr, e = .returned (.pointer (some ⟨r.q, 0, none⟩)) ∧ RLive w w' r S0 [] := by
  go_enter Tryz.func11, Tryz.ntmps11
  go_wp2
  go_ret
  refine ⟨⟨w.heap.size, .slice none 0 0, .slice none 0 0⟩, rfl, ⟨?_, ?_, ?_, ?_, ?_, free_new w _ 53, World.ownsRow_nil _ 0 57 8, World.ownsRow_nil _ 0 110 10, fun k hk => (by cases hk), fun k hk => (by cases hk)⟩, sok_S0, dok_nil, ?_, (Below.refl _ _).alloc (Nat.le_refl _) _⟩
  · rw [World.cell?_alloc_new]; exact zr_at 0 (by omega)
  · intro k hk
    rw [World.cell?_alloc_new, zr_at (1 + k) (by omega)]
    have e : pofG S0.G k = 0 := by unfold pofG; split <;> (try split) <;> rfl
    rw [e]
  · rw [World.cell?_alloc_new, ← Array.getElem?_toList]; exact zr_81
  · rw [World.cell?_alloc_new, ← Array.getElem?_toList]; exact zr_82
  · rw [World.cell?_alloc_new, ← Array.getElem?_toList]; exact zr_83
  · rintro k (rfl | hk | hk)
    · exact Nat.le_refl _
    · cases hk
    · cases hk

/-! ### 'Unframe' of both, by the plain function -/
theorem unf_eq (s : ByteArray) (h2 : 2 ≤ s.size) : unfL s.data.toList = if (((s[0]'(by omega)).toNat : Int) == ((wsum (partsL ((s[1]'(by omega)).toNat : Int)) : Nat) : Int)) = true ∧ 1 + wsum (partsL ((s[1]'(by omega)).toNat : Int)) ≤ s.size ∧ rightB (rd (s.data.toList.drop 1) (partsL ((s[1]'(by omega)).toNat : Int)) fun _ => 0) = true
    then some (rd (s.data.toList.drop 1) (partsL ((s[1]'(by omega)).toNat : Int)) fun _ => 0, 1 + wsum (partsL ((s[1]'(by omega)).toNat : Int))) else none := by
  obtain ⟨⟨l⟩⟩ := s
  match l, h2 with
  | b0 :: b1 :: t, _ => rfl
theorem unf_good (s : ByteArray) (hg : Good s) : unfL s.data.toList = some (goodF s hg.1, 1 + goodN s hg.1) := by
  obtain ⟨h2, h3, h4, h5⟩ := hg
  rw [unf_eq s h2, if_pos ⟨by rw [beq_iff_eq]; omega, h4, h5⟩]
  rfl
theorem unf_bad (s : ByteArray) (hg : ¬ Good s) : unfL s.data.toList = none := by
  by_cases h2 : 2 ≤ s.size
  · rw [unf_eq s h2, if_neg]
    rintro ⟨h3, h4, h5⟩
    rw [beq_iff_eq] at h3
    exact hg ⟨h2, by omega, h4, h5⟩
  · obtain ⟨⟨l⟩⟩ := s
    match l, h2 with
    | [], _ => rfl
    | [b], _ => rfl
    | b0 :: b1 :: t, h2 => exact absurd (by show 2 ≤ t.length + 1 + 1; omega) h2
theorem runf_none (s : ByteArray) (w : World) (hs : s.size ≤ maxLen) (h : unfL s.data.toList = none) :
    Calls Tryz.prog 28 #[.string s] w fun e w' => e = .returned none3 ∧ Below w.heap.size w w' := by
  refine ref_bad s hs (fun hg => ?_) w
  rw [unf_good s hg] at h
  cases h
theorem runf_some (s : ByteArray) (w : World) (hs : s.size ≤ maxLen) (F : Nat → Int) (m : Nat) (h : unfL s.data.toList = some (F, m)) :
    (Calls Tryz.prog 28 #[.string s] w fun e w' => e = .returned (.tuple #[cmdV F, .int .i64 (m : Int), .int .i64 0]) ∧ Below w.heap.size w w') ∧ 2 ≤ m ∧ m ≤ s.size := by
  by_cases hg : Good s
  · have e := unf_good s hg
    rw [h] at e
    simp only [Option.some.injEq, Prod.mk.injEq] at e
    obtain ⟨rfl, rfl⟩ := e
    refine ⟨?_, ?_, ?_⟩
    · refine (ref_good s hs hg w).mono ?_
      rintro e w' ⟨rfl, hb⟩
      refine ⟨?_, hb⟩
      congr 4
    · have : 0 < goodN s hg.1 := wsum_pos _
      omega
    · obtain ⟨h2, h3, h4, h5⟩ := hg
      exact h4
  · rw [unf_bad s hg] at h
    cases h

theorem begins_all (l : List UInt8) (h : l ≠ []) : (List.range 8).any (fun j => passB j l) = beginsB l := by
  match l, h with
  | [b], _ => exact (begins_one b).symm
  | b0 :: b1 :: t, _ => exact (begins_more b0 b1 t).symm

/-- What the document's 'Open' answers. -/
def ROpenPost (w : World) (r : Option Led × Nat) (e : Ending) (w' : World) : Prop :=
  match r with
  | (some S, _) => ∃ (r : RAdr) (D : List (Nat → Int)), e = .returned (.tuple #[.pointer (some ⟨r.q, 0, none⟩), .int .i64 0, .int .i64 0]) ∧ RLive w w' r S D
  | (none, n) => e = .returned (.tuple #[.pointer none, .int .i64 8, .int .i64 (n : Int)]) ∧ Below w.heap.size w w'

theorem rdo_live {w0 w : World} {r : RAdr} {S : Led} {D : List (Nat → Int)} (q : Nat) (h : RLive w0 w r S D) (hq : Hid (r.q = q)) (hJ : S.J.length ≤ 100000000000) (f : Nat → Int) :
    Calls Tryz.prog 30 #[.pointer (some ⟨q, 0, none⟩), cmdV f] w fun e w' => e = .returned (ansV (doD S f).E (doD S f).N) ∧ ∃ (r' : RAdr) (D' : List (Nat → Int)), Hid (r'.q = q) ∧ RLive w0 w' r' (doD S f).S D' ∧ Turned r.foot w w' ∧ (∀ k, r'.foot k → r.foot k ∨ w.heap.size ≤ k) := by
  rw [← hq.out]
  refine (rdo_any r S D f w h.led h.ok.ok h.dok h.ok.len hJ).mono ?_
  rintro e w' ⟨r', D', rfl, K, DO, T, F, eq⟩
  have hb : Below w0.heap.size w w' := ⟨T.os, T.tape, T.output, T.size, fun k hk => T.block k (Nat.lt_of_lt_of_le hk h.below.size) (fun e => by have := h.foot k e; omega)⟩
  exact ⟨rfl, r', D', eq, ⟨K, sok_do h.ok f, DO, fun k hk => by
    rcases F k hk with x | x
    · exact h.foot k x
    · have := h.below.size; omega, h.below.trans hb⟩, T, F⟩

set_option maxRecDepth 100000 in
set_option maxHeartbeats 8000000 in
theorem ropen_to (s : ByteArray) (w : World) (hs : s.size ≤ 1000000000) (Rr : Option Led × Nat) (HR : Hid (openF (s.size + 1) S0 s.data.toList 0 = Rr)) :
    Calls Tryz.prog 21 #[.string s] w (ROpenPost w Rr) := by
  go_enter Tryz.func21, Tryz.ntmps21
  go_wp2_with fail
  refine (rnew_any w).mono ?_
  rintro e w1 ⟨r, rfl, V⟩
  obtain ⟨q, hq⟩ : ∃ q, r.q = q := ⟨_, rfl⟩
  rw [hq]
  have HQ := hid hq
  clear hq
  go_wp2
  go_loopw [0, 6] (fun v i wr => ∃ (n k : Nat) (t : ByteArray) (r : RAdr) (S : Led) (D : List (Nat → Int)), v = .string t ∧ i = .int .i64 (n : Int) ∧ n + t.size ≤ s.size ∧ t.size < k ∧ S.J.length ≤ 37 * n ∧ openF k S t.data.toList n = Rr ∧ Hid (r.q = q) ∧ RLive w wr r S D) (fun _ i _ => s.size + 1 - (intOf i).toNat)
  case atStart => exact ⟨0, s.size + 1, s, r, S0, [], rfl, rfl, by omega, by omega, by show 0 ≤ _; omega, HR.out, HQ, V⟩
  case round =>
    clear V HQ HR
    obtain ⟨n, k, t, r, S, D, rfl, rfl, hn, hk, hJ, hR, HQ, V⟩ := hrel
    obtain ⟨k, rfl⟩ : ∃ k', k = k' + 1 := ⟨k - 1, by omega⟩
    have htm : t.size ≤ maxLen := by unfold maxLen; omega
    have ht63 : t.size ≤ 9223372036854775807 := by omega
    by_cases h0 : t.size = 0
    · have et : t.data.toList = [] := List.eq_nil_of_length_eq_zero (by rw [Array.length_toList]; exact h0)
      have HR : Hid (Rr = (some S, 0)) := by
        show _ = _
        rw [← hR, openF, et, if_pos (show tornB [] = true from rfl)]
      have h0I : ¬ (0 : Int) < (t.size : Int) := by omega
      have h0n : ¬ 0 < t.size := by omega
      clear hR et h0
      go_wp2
      rw [HR.out]
      refine bodyPost_ret (v := .tuple #[.pointer (some ⟨q, 0, none⟩), .int .i64 0, .int .i64 0]) (by simp [results, Tryz.results21, go_sem]) rfl ?_
      exact ⟨r, D, by rw [HQ.out], V⟩
    · have hp : 0 < t.size := by omega
      have hpI : (0 : Int) < (t.size : Int) := by omega
      have hb0 := (t[0]'hp).toNat_lt
      have hk0 : wrap64 (((t[0]'hp).toNat : Nat) : Int) = (((t[0]'hp).toNat : Nat) : Int) := w64 _ (by omega)
      have hne : t.data.toList ≠ [] := fun e => by
        have : t.data.toList.length = 0 := by rw [e]; rfl
        rw [Array.length_toList] at this
        exact h0 this
      cases hu : unfL t.data.toList with
      | none =>
        have htb : tornB t.data.toList = (decide (t.size < 1 + (t[0]'hp).toNat) && beginsB t.data.toList) := by
          have e1 := first_byte t hp
          rw [e1, torn_begins, ← e1]
          congr 2
        have hba := begins_all _ hne
        have hstep : openF (k + 1) S t.data.toList n = if tornB t.data.toList = true then (some S, 0) else (none, n) := by
          rw [openF, hu]
        rw [hstep] at hR
        go_wp2_with fail
        refine (runf_none t _ htm hu).mono ?_
        rintro e w2 ⟨rfl, hb2⟩
        have V2 := V.mk' hb2
        have V3 := V2.mk' ((Below.refl _ _).alloc (Nat.le_refl _) (.cells (cmdC fun _ => 0) 33))
        clear V V2 hb2 hu hstep
        go_wp2_with fail
        refine (begins_any t _ hp (by omega) (beginsB t.data.toList) (hba.symm)).mono ?_
        rintro e w4 ⟨rfl, hb4⟩
        have V4 := V3.mk' hb4
        clear V3 hb4 hba
        generalize beginsB t.data.toList = Bg at *
        by_cases hw : t.size < 1 + (t[0]'hp).toNat
        · have hwI : ¬ (1 : Int) + ((t[0]'hp).toNat : Int) ≤ (t.size : Int) := by omega
          rw [htb, decide_eq_true hw, Bool.true_and] at hR
          cases Bg with
          | true =>
            have HR : Hid (Rr = (some S, 0)) := by show _ = _; rw [← hR, if_pos rfl]
            clear hR htb
            go_wp2
            rw [HR.out]
            refine bodyPost_ret (v := .tuple #[.pointer (some ⟨q, 0, none⟩), .int .i64 0, .int .i64 0]) (by simp [results, Tryz.results21, go_sem]) rfl ?_
            exact ⟨r, D, by rw [HQ.out], V4⟩
          | false =>
            have HR : Hid (Rr = (none, n)) := by show _ = _; rw [← hR, if_neg (by simp)]
            clear hR htb
            go_wp2
            rw [HR.out]
            refine bodyPost_ret (v := .tuple #[.pointer none, .int .i64 8, .int .i64 (n : Int)]) (by simp [results, Tryz.results21, go_sem]) rfl ?_
            exact ⟨rfl, V4.below⟩
        · have hwI : (1 : Int) + ((t[0]'hp).toNat : Int) ≤ (t.size : Int) := by omega
          rw [htb, decide_eq_false hw, Bool.false_and] at hR
          have HR : Hid (Rr = (none, n)) := by show _ = _; rw [← hR, if_neg (by simp)]
          clear hR htb
          go_wp2
          rw [HR.out]
          refine bodyPost_ret (v := .tuple #[.pointer none, .int .i64 8, .int .i64 (n : Int)]) (by simp [results, Tryz.results21, go_sem]) rfl ?_
          exact ⟨rfl, V4.below⟩
      | some fm =>
        obtain ⟨F, m⟩ := fm
        have hU := fun (W : World) => runf_some t W htm F m hu
        have hm2 := (hU w).2
        have hJ2 := j_do S F
        have hstep : openF (k + 1) S t.data.toList n = if S.J.length < (doD S F).S.J.length then openF k (doD S F).S (t.data.toList.drop m) (n + 1) else (none, n) := by
          rw [openF, if_neg (by rw [unf_torn _ _ hu]; decide), hu]
        rw [hstep] at hR
        have hgr := do_grows (S := S) (f := F)
        go_wp2_with fail
        refine ((hU _).1).mono ?_
        rintro e w3 ⟨rfl, hb3⟩
        have V3 := V.mk' hb3
        have V4 := V3.mk' ((Below.refl _ _).alloc (Nat.le_refl _) (.cells (cmdC F) 33))
        have C4 := CmdAt.new w3 F 33
        obtain ⟨q0, q1, q2, q3, q4, q5, q6, q7⟩ := C4.all
        have cj := V4.led.cj
        rw [HQ.out] at cj
        clear V hb3 hU V3 C4 hu hstep
        go_wp2_with fail
        refine (rdo_live q V4 HQ (by omega) F).mono ?_
        rintro e w5 ⟨rfl, r5, D5, HQ5, V5, T5, F5⟩
        have V6 := V5.mk' ((Below.refl _ _).alloc (Nat.le_refl _) (.cells #[.int .i64 (doD S F).E, .int .i64 (doD S F).N] 66))
        have cj6 := V6.led.cj
        rw [HQ5.out] at cj6
        clear V4 V5 T5 F5 q0 q1 q2 q3 q4 q5 q6 q7 cj
        rcases hgr with ⟨ha, hlt, hE⟩ | ⟨hnl, hS⟩
        · rw [if_pos hlt] at hR
          have HR : Hid (openF k (doD S F).S (t.data.toList.drop m) (n + 1) = Rr) := hR
          have HX : Hid ((t.extract m t.size).data.toList = t.data.toList.drop m) := extract_toList t m
          have hxs : (t.extract m t.size).size = t.size - m := by simp [ByteArray.size_extract]
          have mI : (m : Int) ≤ (t.size : Int) := by omega
          have z1 := strOfNums_size S.J
          have z2 := strOfNums_size (doD S F).S.J
          have hjn : ¬ (strOfNums (doD S F).S.J).size = (strOfNums S.J).size := by omega
          have hjI : (((strOfNums (doD S F).S.J).size : Int) == ((strOfNums S.J).size : Int)) = false := by rw [beq_eq_false_iff_ne]; omega
          rw [hE] at V6 cj6 ⊢
          have HV := hid V6
          have hJ3 : (doD S F).S.J.length ≤ 37 * (n + 1) := by omega
          have HJ3 := hid hJ3
          generalize (doD S F).N = N at *
          generalize (doD S F).S = S' at *
          clear hR ha hlt hE z1 z2 V6 hJ2 hJ3
          go_wp2
          refine ⟨⟨n + 1, k, t.extract m t.size, r5, S', D5, rfl, by go_num, by omega, by omega, HJ3.out, by rw [HX.out]; exact HR.out, HQ5, HV.out⟩, by simp [intOf]; omega⟩
        · rw [if_neg hnl] at hR
          have HR : Hid (Rr = (none, n)) := hR.symm
          rw [hS] at V6 cj6
          have HV := hid V6
          by_cases hE : (doD S F).E = 0
          · rw [hE] at V6 cj6 HV ⊢
            generalize (doD S F).N = N at *
            clear hR hnl hS V6 hJ2
            go_wp2
            rw [HR.out]
            refine bodyPost_ret (v := .tuple #[.pointer none, .int .i64 8, .int .i64 (n : Int)]) (by simp [results, Tryz.results21, go_sem]) rfl ?_
            exact ⟨rfl, HV.out.below⟩
          · have hE1 : ((doD S F).E == 0) = false := by simpa using hE
            have hE2 : ((doD S F).E != 0) = true := by simpa using hE
            generalize (doD S F).N = N at *
            generalize (doD S F).E = E at *
            clear hR hnl hS V6 hJ2 hE
            go_wp2
            rw [HR.out]
            refine bodyPost_ret (v := .tuple #[.pointer none, .int .i64 8, .int .i64 (n : Int)]) (by simp [results, Tryz.results21, go_sem]) rfl ?_
            exact ⟨rfl, HV.out.below⟩

end Go.Proofs.YtdblmheoghhepaaGreatDoor
