/- 'Replayed' walked. -/
import Derived.Test.YtdblmheoghhepaaDoorKSnapsAll
import Derived.Deep.Cut
import Derived.Deep.DeepCutAuto
namespace Go.Proofs.YtdblmheoghhepaaDoor
open Go.RowKit

theorem bookL_set0 (l : Value) (now : Int) (P : Nat → Int) (hv v : Value) : (bookL l now P hv).set 0 v = bookL v now P hv := rfl
theorem infoK : (Tryd.prog.info? 48).map (·.size) = some 83 := by kernel_rfl

set_option maxRecDepth 100000 in
set_option maxHeartbeats 16000000 in
theorem replayed_any (x : Option Addr) (cp : Nat) (L : List (Nat → Int)) (y : Option Addr) (cq : Nat) (Mo : List (Nat → Int)) (cut : Int) (w0 : World) (hT : TabW w0) (hR : RawIs w0 x L) (hM : RawIs w0 y Mo) (hcut : -9223372036854775808 ≤ cut ∧ cut ≤ 9223372036854775807) (hl : L.length + Mo.length ≤ 1048576) :
    Calls Tryd.prog 9 #[.slice x L.length cp, .slice y Mo.length cq, .int .i64 cut] w0 fun e w' => e = .returned (.bool true) ∧ Below w0.heap.size w0 w' := by
  go_enter Tryd.func9, Tryd.ntmps9
  go_wp2_with fail
  refine (opened_run w0 hT).mono ?_
  rintro e w1 ⟨p, a, b, rfl, R⟩
  go_wp2
  go_loopw [8, 9, 10] (fun e8 e9 i wr => ∃ (k : Nat) (p : Adr) (hv ev wv : Value) (S : Led) (fs : List (Nat → Int)) (Cs : List Nat) (Xs : List Cpy), k ≤ L.length ∧ i = .int .i64 (k : Int) ∧ ev = e8 ∧ wv = e9 ∧ RS w0 wr p a b hv ev wv S k fs Cs Xs) (fun _ _ i _ => L.length - (intOf i).toNat)
  case atStart => exact ⟨0, p, _, _, _, _, [], [], [], Nat.zero_le _, rfl, rfl, rfl, rs_zero R⟩
  case round =>
    clear R
    obtain ⟨k, p, hv, ev, wv, S, fs, Cs, Xs, hk, rfl, rfl, rfl, Q⟩ := hrel
    have R := Q.run
    have hB := R.live.below
    by_cases hlt : k < L.length
    · obtain ⟨f, hf⟩ : ∃ f, L[k]? = some f := ⟨L[k], by simp [hlt]⟩
      obtain ⟨g, o, rfl, hg, hbd, c0, c1, c2, c3, c4, c5, c6, c7⟩ := (hR.below hB (Nat.le_refl _)).at hf
      have kI : (k : Int) < (L.length : Int) := by omega
      clear hf hR hT hM hB
      go_wp2_with fail
      refine (command_nat f (k) _ (by omega) _ hbd (by omega)).mono ?_
      rintro e w2 ⟨F, rfl, HF, hb2⟩
      have R2 := R.below hb2
      have b3 : Below w2.heap.size w2 (w2.alloc (.cells (cmdC F) 23)) := (Below.refl _ _).alloc (Nat.le_refl _) _
      have R3 := R2.below b3
      have C3 := CmdAt.new w2 F 23
      have z3 : w2.heap.size < (w2.alloc (.cells (cmdC F) 23)).heap.size := by simp
      have nck : ¬ KFoot b hv w2.heap.size := fun e => by have := R2.book.lt e; omega
      have ncf : ¬ p.foot w2.heap.size := fun e => by have := R2.live.led.foot_lt e; omega
      have T3 : Trn (fun k => p.foot k ∨ KFoot b hv k) wr (fun k => p.foot k ∨ KFoot b hv k) (w2.alloc (.cells (cmdC F) 23)) := (Trn.below hb2).trans (Trn.below b3)
      clear c0 c1 c2 c3 c4 c5 c6 c7
      go_upto_region 10 with fail
      obtain ⟨w3, ew3⟩ : ∃ w3, w3 = w2.alloc (.cells (cmdC F) 23) := ⟨_, rfl⟩
      rw [← ew3] at R3 C3 z3 T3
      rw [← ew3]
      clear ew3 b3 R R2 hb2 hbd
      have hc3 := R3.book.c0
      have hbl := R3.book.b_lt
      obtain ⟨d0, d1, d2, d3, d4, d5, d6, d7⟩ := C3.all
      have nb : ¬ w3.heap.size = b := by omega
      have nc3 : ¬ w3.heap.size = w2.heap.size := by omega
      go_cut [12] (fun s wx => ∃ (q : Nat) (p4 : Adr), s = .pointer (some ⟨q, 0, none⟩) ∧ Mid w0 wx p4 a b hv S (doD S F).S k ∧ Side wx p4 b hv w2.heap.size F q (dec S F).E (dec S F).N ∧ (∀ g, g < w3.heap.size → ¬ p.foot g → wx.heap[g]? = w3.heap[g]? ∧ ¬ p4.foot g) ∧ w3.heap.size ≤ wx.heap.size)
      case first =>
        go_region_held3 (fun w' => w'.cell? ⟨b, 0, none⟩ = some (.pointer (some ⟨a, 0, none⟩)) ∧ w'.cell? ⟨w2.heap.size, 0, none⟩ = some (.int .i64 (F 0)) ∧ w'.cell? ⟨w2.heap.size, 1, none⟩ = some (.int .i64 (F 1)) ∧ w'.cell? ⟨w2.heap.size, 2, none⟩ = some (.int .i64 (F 2)) ∧ w'.cell? ⟨w2.heap.size, 3, none⟩ = some (.int .i64 (F 3)) ∧ w'.cell? ⟨w2.heap.size, 4, none⟩ = some (.int .i64 (F 4)) ∧ w'.cell? ⟨w2.heap.size, 5, none⟩ = some (.int .i64 (F 5)) ∧ w'.cell? ⟨w2.heap.size, 6, none⟩ = some (.int .i64 (F 6)) ∧ w'.cell? ⟨w2.heap.size, 7, none⟩ = some (.int .i64 (F 7))) (first | (go_keep; done) | (simp; done)) (first | (go_at_call 17; refine (do_box w0 w3 _ p a b hv S k F w2.heap.size R3 HF (by omega) C3 z3 ncf nck (by first | exact (Below.refl _ _).drew | exact ((Below.refl _ _).alloc (Nat.le_refl _) _).drew) w3.heap.size rfl).mono ?_; rintro e w4 ⟨rfl, p4, D4⟩; have s4 : w3.heap.size ≤ w4.heap.size := Nat.le_trans (by simp) D4.size; have n4 : ¬ w4.heap.size = b := (by omega); have m4 : ¬ w4.heap.size = w2.heap.size := (by omega); have bx4 := D4.box; have fz4 := D4.frz; have h4 := D4.c0; obtain ⟨r0, r1, r2, r3, r4, r5, r6, r7⟩ := D4.cmd.all))
        · obtain ⟨M5, X5, O5⟩ := D4.new (dec S F).E (dec S F).N (by simp <;> omega) (by simp <;> omega)
          go_wp2_with fail
          go_meet
          exact ⟨_, p4, rfl, M5, X5, O5, by simp; omega⟩
        · obtain ⟨M5, X5, O5⟩ := D4.old (dec S F).E (dec S F).N (by simp <;> omega) (by simp <;> omega) (by omega) (by have := R3.live.below.size; omega) (by simp [go_sem]) (by simp [go_sem])
          go_wp2_with fail
          go_meet
          exact ⟨_, p4, rfl, M5, X5, O5, by simp; omega⟩
      case rest =>
        obtain ⟨w5, rfl⟩ : ∃ w5, w5 = wc := ⟨_, rfl⟩
        obtain ⟨q5, p4, rfl, M5, X5, O5, z5⟩ := hcut
        have T5 : Trn (fun k => p.foot k ∨ KFoot b hv k) w3 (fun k => p4.foot k ∨ KFoot b hv k) w5 := ⟨z5, fun g hg hn => ⟨(O5 g hg (fun e => hn (Or.inl e))).1, fun e => e.elim (O5 g hg (fun e => hn (Or.inl e))).2 (fun e => hn (Or.inr e))⟩⟩
        have hbb := M5.book.c0
        obtain ⟨t0, t1, t2, t3, t4, t5, t6, t7⟩ := X5.cmd.all
        have x0 := X5.a0
        have x1 := X5.a1
        clear R3 hc3 C3 d0 d1 d2 d3 d4 d5 d6 d7
        go_wp2_with fail
        refine (takes_box w0 _ p4 a b hv S (k) F _ _ M5 HF X5).mono ?_
        rintro e w6 ⟨rfl, hv6, R6, X6, O6, z6⟩
        clear hbb t0 t1 t2 t3 t4 t5 t6 t7 x0 x1
        have T6 : Trn (fun k => p4.foot k ∨ KFoot b hv k) w5 (fun k => p4.foot k ∨ KFoot b hv6 k) w6 := ⟨z6, fun g hg hn => ⟨(O6 g hg (fun e => hn (Or.inr e))).1, fun e => e.elim (fun e => hn (Or.inl e)) (O6 g hg (fun e => hn (Or.inr e))).2⟩⟩
        obtain ⟨er6, wr6, eo6, wo6, cp6⟩ := rs_moved Q ((T3.trans T5).trans T6)
        obtain ⟨fs', hs1, hs2, hs3, hs4, hs5, hs6, hs7, hs8⟩ := rs_counts (f := F) Q.hist Q.clen Q.cle Q.step Q.last
        have HQ : Hid (RS w0 wr p a b hv ev wv S k fs Cs Xs) := Q
        obtain ⟨S', eS⟩ : ∃ S', S' = (doD S F).S := ⟨_, rfl⟩
        rw [← eS] at R6 hs1 hs5
        obtain ⟨sx, sc, ehv⟩ := R6.book.slice
        subst ehv
        clear M5 X5 X6 O5 O6 T3 T5 T6 Q z5 z6 eS HF ncf nck nb nc3 z3 hbl
        have c6 := R6.book.c0
        go_wp2_with fail
        refine (journal_at _ R6).mono ?_
        rintro e wj ⟨rfl, rfl⟩
        have bA : Below w6.heap.size w6 (w6.alloc (.cells #[.int .i64 ((strOfNums S'.J).size : Int)] 3)) := (Below.refl _ _).alloc (Nat.le_refl _) _
        have clen := HQ.out.clen
        have xlen := HQ.out.xlen
        obtain ⟨ev8, w8, hr8, own8, g8, l8⟩ := run_append_int (w6.alloc (.cells #[.int .i64 ((strOfNums S'.J).size : Int)] 3)) 64 ev Cs.length _ (own_trn (Z := fun _ => False) (Z' := fun _ => False) er6 (fun _ _ h => h) (Trn.below bA)) ((strOfNums S'.J).size : Int) w6.heap.size (by simp [go_sem]) (by omega)
        have R8 : Run w0 w8 p4 a b (.slice sx S'.H.length sc) S' (k + 1) := (R6.below bA).grow g8 (fun j hj => ⟨(eo6 j hj).1, (eo6 j hj).2.1, (eo6 j hj).2.2.1⟩)
        have rg8 := R8.book.range
        have one8 : (bookL (.pointer (some ⟨a, 0, none⟩)) S'.now (pofG S'.G) (.slice sx S'.H.length sc)).toArray.all (·.oneCell') = true := all_oneCell_toArray (bookL_one rfl rfl)
        have iK : (Tryd.prog.info? 48).map (·.size) = some (bookL (.pointer (some ⟨a, 0, none⟩)) S'.now (pofG S'.G) (.slice sx S'.H.length sc)).length := by rw [bookL_len]; exact infoK
        have iK2 : (Tryd.prog.info? 48).map (·.size) = some (bookL (.pointer (some ⟨a, 0, none⟩)) S'.now (pofG S'.G) (.slice sx S'.H.length sc)).toArray.size := by rw [List.size_toArray, bookL_len]; exact infoK
        have hst := run_storeCells_new (P := Tryd.prog) w8 48 Tryd.zeroCells48 (bookL (.pointer (some ⟨a, 0, none⟩)) S'.now (pofG S'.G) (.slice sx S'.H.length sc)).toArray iK2 (by rw [zk_len, List.size_toArray, bookL_len]) one8
        have zsz : Tryd.zeroCells48.size = (bookL (.pointer (some ⟨a, 0, none⟩)) S'.now (pofG S'.G) (.slice sx S'.H.length sc)).toArray.size := by rw [zk_len, List.size_toArray, bookL_len]
        go_wp2_with (first | (at_builtin; refine wp_append_at _ rfl _ _ 64 rfl _ _ rfl rfl _ _ hr8 ?_) | (refine wpList_load_mid rfl 48 _ rfl b 0 rfl (bookL (.pointer (some ⟨a, 0, none⟩)) S'.now (pofG S'.G) (.slice sx S'.H.length sc)) _ rg8 Tryd.underlying48 rfl iK ?_) | (refine wp_store_new w8 rfl 48 _ _ rfl Tryd.zeroCells48 (bookL (.pointer (some ⟨a, 0, none⟩)) S'.now (pofG S'.G) (.slice sx S'.H.length sc)).toArray rfl rfl iK2 zsz one8 ?_))
        rw [bookL_set]
        have l60 := R8.live.led.book.len
        have B9 : Below w8.heap.size w8 (w8.alloc (.cells (bookL (.pointer (some ⟨a, 0, none⟩)) S'.now (pofG S'.G) (.slice none 0 0)).toArray 48)) := (Below.refl _ _).alloc (Nat.le_refl _) _
        obtain ⟨k0, k1, kn, kh, kf⟩ := book_new w8 (.pointer (some ⟨a, 0, none⟩)) S'.now (pofG S'.G) (.slice none 0 0) 48
        have R9 := R8.below B9
        have KD := R9.book.below (w' := (w8.alloc (.cells (bookL (.pointer (some ⟨a, 0, none⟩)) S'.now (pofG S'.G) (.slice none 0 0)).toArray 48)).drew) (Below.refl _ _).drew
        obtain ⟨vh, w10, hr10, own10, g10, lh10⟩ := run_append_all ((w8.alloc (.cells (bookL (.pointer (some ⟨a, 0, none⟩)) S'.now (pofG S'.G) (.slice none 0 0)).toArray 48)).drew) 46 b _ S'.now (pofG S'.G) (.slice sx S'.H.length sc) S'.H KD l60
        have lh10' : vh.ownBlock = none ∨ vh.ownBlock = some (w8.heap.size + 1) := by simpa using lh10
        obtain ⟨KX, B11, KF⟩ := copy_kat g10 own10 lh10'
        obtain ⟨vx, vc, evh⟩ : ∃ x c, vh = .slice x S'.H.length c := by
          rcases own10.2 with ⟨e, e2⟩ | ⟨g, cap, cur, e, _⟩
          · exact ⟨none, 0, by rw [e, e2]⟩
          · exact ⟨_, _, e⟩
        subst evh
        have hS9 : LoadsC w8.heap.size b (.slice sx S'.H.length sc) ((w8.alloc (.cells (bookL (.pointer (some ⟨a, 0, none⟩)) S'.now (pofG S'.G) (.slice none 0 0)).toArray 48)).drew) := ⟨kh, KD.ch⟩
        have bl9 := R9.book.b_lt
        have e10x : w10.heap[w8.heap.size]? = (w8.alloc (.cells (bookL (.pointer (some ⟨a, 0, none⟩)) S'.now (pofG S'.G) (.slice none 0 0)).toArray 48)).heap[w8.heap.size]? := g10.block _ (by simp) (by simp)
        have e10b : w10.heap[b]? = (w8.alloc (.cells (bookL (.pointer (some ⟨a, 0, none⟩)) S'.now (pofG S'.G) (.slice none 0 0)).toArray 48)).heap[b]? := g10.block _ bl9 (by simp)
        have c10x : w10.cell? ⟨w8.heap.size, 82, none⟩ = some (.slice none 0 0) := (World.cell?_of_block (a := ⟨w8.heap.size, 82, none⟩) e10x).trans kh
        have f10x : w10.frozen? ⟨w8.heap.size, 82, none⟩ = false := (World.frozen?_of_block (a := ⟨w8.heap.size, 82, none⟩) e10x).trans (kf 82)
        have hS10 : LoadsC w8.heap.size b (.slice sx S'.H.length sc) w10 := ⟨c10x, (World.cell?_of_block (a := ⟨b, 82, none⟩) e10b).trans R9.book.ch⟩
        clear e10x e10b k0 k1 kn kh kf rg8 one8 iK iK2 hst zsz
        refine wp_region_E (LoadsC w8.heap.size b (.slice sx S'.H.length sc)) 8 (by kernel_rfl) ?_
        refine wpAnyE_take (i := 0) (v := .pointer (some ⟨w8.heap.size, 82, none⟩)) rfl (by kernel_rfl) (by kernel_rfl) (by kernel_rfl) (by kernel_rfl) (fun _ _ _ h => h) (by kernel_rfl) hS9 (by rfl) (fun w' hw => by obtain ⟨l0, l1⟩ := hw; go_simp) ?_
        simp only [Act.put]
        refine wpAnyE_take (i := 1) (v := .slice none 0 0) rfl (by kernel_rfl) (by kernel_rfl) (by kernel_rfl) (by kernel_rfl) (fun _ _ _ h => h) (by kernel_rfl) hS9 (by rfl) (fun w' hw => by obtain ⟨l0, l1⟩ := hw; go_simp) ?_
        simp only [Act.put]
        refine wpAnyE_take (i := 2) (v := .pointer (some ⟨b, 0, none⟩)) rfl (by kernel_rfl) (by kernel_rfl) (by kernel_rfl) (by kernel_rfl) (fun _ _ _ h => h) (by kernel_rfl) hS9 (by rfl) (fun w' hw => by obtain ⟨l0, l1⟩ := hw; go_simp) ?_
        simp only [Act.put]
        refine wpAnyE_take (i := 3) (v := .pointer (some ⟨b, 0, none⟩)) rfl (by kernel_rfl) (by kernel_rfl) (by kernel_rfl) (by kernel_rfl) (fun _ _ _ h => h) (by kernel_rfl) hS9 (by rfl) (fun w' hw => by obtain ⟨l0, l1⟩ := hw; go_simp) ?_
        simp only [Act.put]
        refine wpAnyE_take (i := 4) (v := .pointer (some ⟨b, 82, none⟩)) rfl (by kernel_rfl) (by kernel_rfl) (by kernel_rfl) (by kernel_rfl) (fun _ _ _ h => h) (by kernel_rfl) hS9 (by rfl) (fun w' hw => by obtain ⟨l0, l1⟩ := hw; go_simp) ?_
        simp only [Act.put]
        refine wpAnyE_take (i := 5) (v := .slice sx S'.H.length sc) rfl (by kernel_rfl) (by kernel_rfl) (by kernel_rfl) (by kernel_rfl) (fun _ _ _ h => h) (by kernel_rfl) hS9 (by rfl) (fun w' hw => by obtain ⟨l0, l1⟩ := hw; go_simp) ?_
        simp only [Act.put]
        refine wpAnyE_append (i := 6) (d := 80) (ty := 46) (tys := #[46, 46]) (s := .tmp 75) (x := .tmp 79) (v := .slice none 0 0) (sl := (.slice sx S'.H.length sc)) (v' := .slice vx S'.H.length vc) (w' := w10) (by kernel_rfl) (by kernel_rfl) (by go_simp) (by go_simp) hr10 hS10 ?_
        simp only [Act.put]
        refine wpAnyE_one (i := 7) (v := .pointer (some ⟨w8.heap.size, 82, none⟩)) (w' := w10) rfl (by kernel_rfl) (by rfl) (by go_simp) hS10 ?_
        simp only [Act.put]
        refine wpAnyE_last (w' := w10.setCell ⟨w8.heap.size, 82, none⟩ (.slice vx S'.H.length vc)) rfl (by kernel_rfl) (by kernel_rfl) (by rfl) (by go_simp) ?_
        simp only [Act.put]
        obtain ⟨w11, ew11⟩ : ∃ w11, w11 = w10.setCell ⟨w8.heap.size, 82, none⟩ (.slice vx S'.H.length vc) := ⟨_, rfl⟩
        rw [← ew11] at KX B11
        rw [← ew11]
        clear ew11 c10x f10x hS9 hS10 hr10 own10 g10 lh10 lh10' KD R9 B9 bl9
        have T8 : Turned (fun k => ev.ownBlock = some k) w6 w8 := (Turned.ofBelow bA).trans (Turned.ofGrown g8 (fun k e => Or.inl e))
        have wr11 : w11.ownsRow 0 36 1 wv Xs.length (Xs.map fun x => Value.pointer (some ⟨x.B, 0, none⟩)) := own_same (own_same wr6 (fun k hk => T8.block k (own_block_lt wr6 hk) (fun e => (eo6 k e).2.2.2 hk))) (fun k hk => B11.block k (Nat.lt_of_lt_of_le (own_block_lt wr6 hk) T8.size))
        have bC : Below w11.heap.size w11 (w11.alloc (.cells #[.pointer (some ⟨w8.heap.size, 0, none⟩)] 36)) := (Below.refl _ _).alloc (Nat.le_refl _) _
        obtain ⟨wv14, w14, hr14, own14, g14, l14⟩ := run_append_ptr (w11.alloc (.cells #[.pointer (some ⟨w8.heap.size, 0, none⟩)] 36)) 65 wv Xs.length _ (own_trn (Z := fun _ => False) (Z' := fun _ => False) wr11 (fun _ _ h => h) (Trn.below bC)) w8.heap.size w11.heap.size (by simp [go_sem]) (by omega)
        have T14 : Turned (fun k => wv.ownBlock = some k) w11 w14 := (Turned.ofBelow bC).trans (Turned.ofGrown g14 (fun k e => Or.inl e))
        have l8' : ∀ k, ev8.ownBlock = some k → ev.ownBlock = some k ∨ w6.heap.size ≤ k := fun k hk => by
          rcases l8 with e | e
          · exact Or.inl (e ▸ hk)
          · right
            rw [e] at hk
            simp at hk
            omega
        have l14' : ∀ k, wv14.ownBlock = some k → wv.ownBlock = some k ∨ w11.heap.size ≤ k := fun k hk => by
          rcases l14 with e | e
          · exact Or.inl (e ▸ hk)
          · right
            rw [e] at hk
            simp at hk
            omega
        have hJl : (strOfNums S'.J).size = (fsB (fs'.take fs'.length)).length := by rw [strOfNums_size, ← hs5, bytesU_length]
        have hxs : (Cs.map fun c => Value.int .i64 (((fsB (fs.take c)).length : Nat) : Int)) ++ [.int .i64 ((strOfNums S'.J).size : Int)] = (Cs ++ [fs'.length]).map fun c => Value.int .i64 (((fsB (fs'.take c)).length : Nat) : Int) := by
          rw [List.map_append, hJl]
          congr 1
          apply List.map_congr_left
          intro c hc
          obtain ⟨i, hi⟩ := List.getElem?_of_mem hc
          rw [hs4 c (HQ.out.cle i c hi)]
        have NX := rs_next HQ.out R6 wr6 eo6 wo6 cp6 hs1 hs4 hs6 hs7 hs8 T8 own8 hxs l8' KX B11 KF T14 own14 l14'
        clear HQ R6 wr6 eo6 wo6 cp6 hs1 hs2 hs3 hs4 hs5 hs6 hs7 hs8 T8 own8 hxs l8 l8' KX B11 KF T14 own14 l14 l14' R8 hr8 g8 hJl wr11 g14 bA bC
        go_wp2_with (at_builtin; refine wp_append_at _ rfl _ _ 65 rfl _ _ rfl rfl _ _ hr14 ?_)
        refine ⟨⟨k + 1, p4, _, ev8, wv14, S', fs', _, _, by omega, by go_num, rfl, rfl, NX⟩, by simp [intOf]; omega⟩
    · have he : k = L.length := by omega
      subst he
      have hist := Q.hist
      have hjl := R.jl
      have hJb := hist_str hist
      have hJs : (strOfNums S.J).size = (fsB fs).length := by rw [size_list, hJb]
      have hsz : (strOfNums S.J).size ≤ 38797312 := by rw [strOfNums_size]; omega
      have hpk := pk_bd cut (((strOfNums S.J).size : Int) + 1) (by omega)
      obtain ⟨kc, hkc⟩ : ∃ kc : Nat, pk cut (((strOfNums S.J).size : Int) + 1) = (kc : Int) := ⟨(pk cut (((strOfNums S.J).size : Int) + 1)).toNat, by omega⟩
      have hkb : kc ≤ (strOfNums S.J).size := by omega
      obtain ⟨gs, hs, tt, e1, e2, e3, e4, e5⟩ := cut_split fs (hist_right hist) kc (by omega)
      obtain ⟨T, hT1, hT2⟩ := hist_app (e1 ▸ hist)
      have hxs : ((strOfNums S.J).extract 0 kc).data.toList = fsB gs ++ tt := by rw [extract0_toList, hJb, e2]
      have hop1 : Hid (openF ((strOfNums S.J).size + 1) S0 (strOfNums S.J).data.toList 0 = (some S, 0)) := by
        show _ = _
        have := open_hist hist [] rfl ((strOfNums S.J).size + 1) 0 (by simp; omega)
        rw [List.append_nil] at this
        rw [hJb]
        exact this
      have hop2 : Hid (openF (((strOfNums S.J).extract 0 kc).size + 1) S0 ((strOfNums S.J).extract 0 kc).data.toList 0 = (some T, 0)) := by
        show _ = _
        rw [size_list, hxs]
        exact open_hist hT1 tt e3 _ 0 (by omega)
      have hxz : ((strOfNums S.J).extract 0 kc).size ≤ 1000000000 := by simp [ByteArray.size_extract]; omega
      have hTb := hist_str hT1
      have hTs : (strOfNums T.J).size = (fsB gs).length := by rw [size_list, hTb]
      have hTx : strOfNums T.J = (strOfNums S.J).extract 0 (strOfNums T.J).size := by
        apply bytes_ext
        rw [extract0_toList, hTb, hTs, hJb, e1, fsB_app, List.take_left]
      have HTx : Hid (strOfNums T.J = (strOfNums S.J).extract 0 (strOfNums T.J).size) := hTx
      have hTk : (strOfNums T.J).size ≤ kc := by omega
      have HQ : Hid (RS w0 wr p a b hv ev wv S L.length fs Cs Xs) := Q
      obtain ⟨SJ, eSJ⟩ : ∃ SJ, SJ = strOfNums S.J := ⟨_, rfl⟩
      obtain ⟨TJ, eTJ⟩ : ∃ TJ, TJ = strOfNums T.J := ⟨_, rfl⟩
      have HSJ : Hid (SJ = strOfNums S.J) := eSJ
      have HTJ : Hid (TJ = strOfNums T.J) := eTJ
      have jr := journal_at _ R
      have tb := R.live.tab
      have c0 := R.book.c0
      rw [← eSJ] at hsz hkc hkb hop1 hop2 hxz HTx jr
      rw [← eTJ] at HTx hTk
      have kI : ¬ ((L.length : Nat) : Int) < (L.length : Int) := by omega
      have HE : Hid (fs = gs ++ hs ∧ (fsB gs).length ≤ kc ∧ ∀ f r, hs = f :: r → kc < (fsB gs).length + (fB f).length) := ⟨e1, e4, e5⟩
      clear hxs hTb hTs hTx hJb eSJ eTJ hpk e1 e2 e3 e4 e5 hist hjl hT2 hB hJs
      go_wp2_with fail
      refine jr.mono ?_
      rintro e wj ⟨rfl, rfl⟩
      clear jr c0
      go_wp2_with fail
      refine (open_to SJ _ tb (by omega) _ hop1).mono ?_
      rintro e w1 ⟨p1, rfl, L1⟩
      obtain ⟨a1, ha1⟩ : ∃ a1, p1.a = a1 := ⟨_, rfl⟩
      rw [ha1]
      have HA1 : Hid (p1.a = a1) := ha1
      clear ha1 hop1 tb
      go_wp2_with fail
      refine (pick_any cut ((SJ.size : Int) + 1) _ hcut.1 hcut.2 (by omega) (by omega)).mono ?_
      rintro e wj ⟨rfl, rfl⟩
      rw [hkc]
      clear hkc
      have kcI : (kc : Int) ≤ (SJ.size : Int) := by omega
      go_wp2_with fail
      refine (open_to (SJ.extract 0 kc) _ L1.tab hxz _ hop2).mono ?_
      rintro e w2 ⟨p2, rfl, L2⟩
      obtain ⟨a2, ha2⟩ : ∃ a2, p2.a = a2 := ⟨_, rfl⟩
      rw [ha2]
      have HA2 : Hid (p2.a = a2) := ha2
      clear ha2 hop2
      obtain ⟨wo, rfl⟩ : ∃ wo : World, wo = wr := ⟨_, rfl⟩
      have O0 : OldAt (w2.alloc (.cells (Tryd.zeroCells48.setIfInBounds 0 (.pointer (some ⟨a2, 0, none⟩))) 48)) p p1 a2 w2.heap.size (.slice none 0 0) S0 := old_zero (fun k hk => R.live.led.foot_lt hk) L1 L2 a2
      have b23 : Below w2.heap.size w2 (w2.alloc (.cells (Tryd.zeroCells48.setIfInBounds 0 (.pointer (some ⟨a2, 0, none⟩))) 48)) := (Below.refl _ _).alloc (Nat.le_refl _) _
      obtain ⟨ey, ec, eev⟩ : ∃ y c, ev = .slice y L.length c := by
        rcases Q.er.2 with ⟨e, e2⟩ | ⟨g, cap, cur, e, _⟩
        · exact ⟨none, 0, by rw [e, ← Q.clen, e2]⟩
        · exact ⟨_, _, by rw [e, Q.clen]⟩
      subst eev
      obtain ⟨wy, wc, ewv⟩ : ∃ y c, wv = .slice y L.length c := by
        rcases Q.wr.2 with ⟨e, e2⟩ | ⟨g, cap, cur, e, _⟩
        · exact ⟨none, 0, by rw [e, ← Q.xlen, e2]⟩
        · exact ⟨_, _, by rw [e, Q.xlen]⟩
      subst ewv
      clear R Q
      go_wp2
      go_loopw [23, 24] (fun v i wx => ∃ (j B : Nat) (hvB : Value) (X : Led), j ≤ L.length ∧ i = .int .i64 (j : Int) ∧ v = .pointer (some ⟨B, 0, none⟩) ∧ Below w2.heap.size w2 wx ∧ OldAt wx p p1 a2 B hvB X ∧ Hist (fs.take (min (prevC Cs j) gs.length)) S0 X) (fun _ i _ => L.length - (intOf i).toNat)
      case atStart => exact ⟨0, _, _, S0, Nat.zero_le _, rfl, rfl, b23, O0, by rw [show min (prevC Cs 0) gs.length = 0 from by simp [prevC], List.take_zero]; rfl⟩
      case round =>
        clear O0 b23
        obtain ⟨j, B, hvB, X, hj, rfl, rfl, hB, O, hX⟩ := hrel
        have clen := HQ.out.clen
        have xlen := HQ.out.xlen
        by_cases hjl : j < L.length
        · obtain ⟨c, hc⟩ : ∃ c, Cs[j]? = some c := ⟨Cs[j]'(by omega), List.getElem?_eq_getElem _⟩
          obtain ⟨x, hx⟩ : ∃ x, Xs[j]? = some x := ⟨Xs[j]'(by omega), List.getElem?_eq_getElem _⟩
          have zz1 := L1.below.size
          have Bx : Below wo.heap.size wo wr := L1.below.trans ((L2.below.mono zz1).trans (hB.mono (by have := L2.below.size; omega)))
          obtain ⟨ge, ce, eev, cce⟩ := own_at (i := j) (x := .int .i64 (((fsB (fs.take c)).length : Nat) : Int)) (own_trn (Z := fun _ => False) (Z' := fun _ => False) HQ.out.er (fun _ _ h => h) (Trn.below Bx)) (by rw [List.getElem?_map, hc]; rfl) (by omega)
          obtain ⟨gw, cw, ewv, ccw⟩ := own_at (i := j) (x := .pointer (some ⟨x.B, 0, none⟩)) (own_trn (Z := fun _ => False) (Z' := fun _ => False) HQ.out.wr (fun _ _ h => h) (Trn.below Bx)) (by rw [List.getElem?_map, hx]; rfl) (by omega)
          have hcl := HQ.out.cle j c hc
          have hend := ends_le HE.out.1 HE.out.2.1 HE.out.2.2 c hcl
          have jI : (j : Int) < (L.length : Int) := by omega
          obtain ⟨KX, OX⟩ := old_copy HQ.out L1 L2 hB hx a2 48
          obtain ⟨sx, sc, ehv⟩ := KX.slice
          have hst := HQ.out.step j c hc
          have hsn := HQ.out.snap j c x hc hx
          obtain ⟨E0, eE0⟩ : ∃ E0 : Nat, E0 = (fsB (fs.take c)).length := ⟨_, rfl⟩
          rw [← eE0] at cce hend
          simp only [Value.slice.injEq] at eev ewv
          obtain ⟨rfl, -, -⟩ := eev
          obtain ⟨rfl, -, -⟩ := ewv
          clear clen xlen
          have hzb := hB.size
          by_cases hcm : c ≤ gs.length
          · have hle : (E0 : Int) ≤ (kc : Int) := by have := hend.2 hcm; omega
            have hX' := old_take hc hcm hsn
            have rg8 := KX.range
            have one8 : (bookL (.pointer (some ⟨a, 0, none⟩)) x.S.now (pofG x.S.G) x.hv).toArray.all (·.oneCell') = true := all_oneCell_toArray (bookL_one rfl (by rw [ehv]; rfl))
            have iK : (Tryd.prog.info? 48).map (·.size) = some (bookL (.pointer (some ⟨a, 0, none⟩)) x.S.now (pofG x.S.G) x.hv).length := by rw [bookL_len]; exact infoK
            have iK2 : (Tryd.prog.info? 48).map (·.size) = some (bookL (.pointer (some ⟨a, 0, none⟩)) x.S.now (pofG x.S.G) x.hv).toArray.size := by rw [List.size_toArray, bookL_len]; exact infoK
            have zsz : Tryd.zeroCells48.size = (bookL (.pointer (some ⟨a, 0, none⟩)) x.S.now (pofG x.S.G) x.hv).toArray.size := by rw [zk_len, List.size_toArray, bookL_len]
            have HX' : Hid (Hist (fs.take (min (prevC Cs (j + 1)) gs.length)) S0 x.S) := hX'
            have HOX : Hid (OldAt (wr.alloc (.cells (bookL (.pointer (some ⟨a2, 0, none⟩)) x.S.now (pofG x.S.G) x.hv).toArray 48)) p p1 a2 wr.heap.size x.hv x.S) := OX
            clear hX hX' hsn hst KX OX O Bx ehv eE0 hend hcm hcl hc hx
            go_wp2_with (first | (refine wpList_load_mid rfl 48 _ rfl x.B 0 rfl (bookL (.pointer (some ⟨a, 0, none⟩)) x.S.now (pofG x.S.G) x.hv) _ rg8 Tryd.underlying48 rfl iK ?_) | (refine wp_store_new wr rfl 48 _ _ rfl Tryd.zeroCells48 (bookL (.pointer (some ⟨a, 0, none⟩)) x.S.now (pofG x.S.G) x.hv).toArray rfl rfl iK2 zsz one8 ?_))
            rw [bookL_set0]
            refine ⟨⟨j + 1, wr.heap.size, x.hv, x.S, by omega, by go_num, rfl, hB.alloc hzb _, HOX.out, HX'.out⟩, by simp [intOf]; omega⟩
          · have hle : ¬ (E0 : Int) ≤ (kc : Int) := fun e => hcm (hend.1 (by omega))
            have hX' := old_keep hc (by omega) hst.2 hX
            have HX' : Hid (Hist (fs.take (min (prevC Cs (j + 1)) gs.length)) S0 X) := hX'
            clear hX hX' hsn hst KX OX Bx ehv eE0 hend hcm hcl hc hx
            go_wp2_with fail
            refine ⟨⟨j + 1, B, hvB, X, by omega, by go_num, rfl, hB, O, HX'.out⟩, by simp [intOf]; omega⟩
        · have he : j = L.length := by omega
          subst he
          have hXT : X = T := by
            have h1 := HQ.out.last
            have h2 : gs.length ≤ fs.length := by rw [HE.out.1]; simp
            rw [h1, Nat.min_eq_right h2] at hX
            have h3 : fs.take gs.length = gs := by rw [HE.out.1]; simp
            rw [h3] at hX
            exact hist_fun hX hT1
          subst hXT
          have D := two_start HQ.out L1 L2 hB (by rw [HA2.out]; exact O)
          rw [HA1.out, HA2.out] at D
          have jr2 := journal_live a2 wr (L2.mk' hB) HA2
          rw [← HTJ.out] at jr2
          have hJ0 : S.J.length ≤ 37 * L.length := HQ.out.run.jl
          have hx0 : (TJ.toList == (SJ.extract 0 TJ.size).toList) = true := by rw [← HTx.out]; simp
          have hx1 : (TJ.size : Int) ≤ (SJ.size : Int) := by omega
          have hx2 : ¬ (kc : Int) < (TJ.size : Int) := by omega
          have hzT : TJ.size ≤ 38797312 := by omega
          have hx3 : decide (kc < TJ.size) = false := decide_eq_false (by omega)
          have hx4 : ¬ kc < TJ.size := by omega
          clear hX hT1 HQ HE O hB L1 L2 HTx
          go_wp2_with fail
          refine jr2.mono ?_
          rintro e wj ⟨rfl, rfl⟩
          clear jr2
          go_wp2_with fail
          refine (kright_any p2 a2 B hvB X _ D.duo).mono ?_
          rintro e w4 ⟨rfl, hb4⟩
          have D4 := D.below hb4
          clear D hb4 HTJ
          go_wp2
          go_loopw [28] (fun i wx => ∃ (j : Nat) (p' p1' : Adr) (S' : Led), j ≤ Mo.length ∧ i = .int .i64 (j : Int) ∧ S'.J.length ≤ 37 * (L.length + j) ∧ Two w0 wx p' p1' p2 a a1 a2 b B hvB S' S' X) (fun i _ => Mo.length - (intOf i).toNat)
          case atStart => exact ⟨0, p, p1, S, Nat.zero_le _, rfl, by omega, D4⟩
          case round =>
            clear D4 HA1 hJ0 hsz hkb hxz kcI hTk hx0 hx1 hx2 hzT hx3 hx4
            obtain ⟨j, q, q1, S', hj, rfl, hJ, D⟩ := hrel
            obtain ⟨wo2, rfl⟩ : ∃ wo2 : World, wo2 = wr := ⟨_, rfl⟩
            by_cases hjl : j < Mo.length
            · obtain ⟨f, hf⟩ : ∃ f, Mo[j]? = some f := ⟨Mo[j], by simp [hjl]⟩
              obtain ⟨g, o, rfl, hg, hbd, c0, c1, c2, c3, c4, c5, c6, c7⟩ := (hM.below D.l.below (Nat.le_refl _)).at hf
              have jI : (j : Int) < (Mo.length : Int) := by omega
              clear hf hM hR hT
              go_wp2_with fail
              refine (command_z f _ _ hbd (by constructor <;> omega)).mono ?_
              rintro e w2 ⟨F, rfl, hb2⟩
              have D2 := D.below hb2
              have b3 : Below w2.heap.size w2 (w2.alloc (.cells (cmdC F) 23)) := (Below.refl _ _).alloc (Nat.le_refl _) _
              have D3 := D2.below b3
              have C3 := CmdAt.new w2 F 23
              have o3 : Off (w2.alloc (.cells (cmdC F) 23)) q q1 p2 b B hvB w2.heap.size := ⟨by simp, fun e => by have := D2.l.led.foot_lt e; omega, fun e => by have := D2.l1.led.foot_lt e; omega, fun e => by have := D2.lt2 e; omega, by have := D2.b_lt; omega⟩
              clear c0 c1 c2 c3 c4 c5 c6 c7
              go_upto_region 42 with fail
              obtain ⟨w3, ew3⟩ : ∃ w3, w3 = w2.alloc (.cells (cmdC F) 23) := ⟨_, rfl⟩
              rw [← ew3] at D3 C3 o3
              rw [← ew3]
              clear ew3 b3 D D2 hb2 hbd
              have hc3 := D3.bc
              have hbl := D3.b_lt
              have hcl := o3.1
              have h03 := D3.l.below.size
              obtain ⟨d0, d1, d2, d3, d4, d5, d6, d7⟩ := C3.all
              have nb : ¬ w3.heap.size = b := by omega
              have nc3 : ¬ w3.heap.size = w2.heap.size := by omega
              have HJ : Hid (S'.J.length ≤ 140737488355000) := by show _ ≤ _; omega
              go_cut [30] (fun s wx => ∃ (z : Nat) (p4 : Adr), s = .pointer (some ⟨z, 0, none⟩) ∧ Two w0 wx p4 q1 p2 a a1 a2 b B hvB (doD S' F).S S' X ∧ CmdAt wx w2.heap.size F ∧ Off wx p4 q1 p2 b B hvB w2.heap.size ∧ AnsAt wx p4 q1 p2 b B hvB z (doD S' F).E (doD S' F).N)
              case first =>
                go_region_held3 (fun w' => w'.cell? ⟨b, 0, none⟩ = some (.pointer (some ⟨a, 0, none⟩)) ∧ w'.cell? ⟨w2.heap.size, 0, none⟩ = some (.int .i64 (F 0)) ∧ w'.cell? ⟨w2.heap.size, 1, none⟩ = some (.int .i64 (F 1)) ∧ w'.cell? ⟨w2.heap.size, 2, none⟩ = some (.int .i64 (F 2)) ∧ w'.cell? ⟨w2.heap.size, 3, none⟩ = some (.int .i64 (F 3)) ∧ w'.cell? ⟨w2.heap.size, 4, none⟩ = some (.int .i64 (F 4)) ∧ w'.cell? ⟨w2.heap.size, 5, none⟩ = some (.int .i64 (F 5)) ∧ w'.cell? ⟨w2.heap.size, 6, none⟩ = some (.int .i64 (F 6)) ∧ w'.cell? ⟨w2.heap.size, 7, none⟩ = some (.int .i64 (F 7))) (first | (go_keep; done) | (simp; done)) (first | (go_at_call 17; refine (two_do0 w0 w3 _ q q1 p2 a a1 a2 b B hvB S' S' X w2.heap.size F D3 HJ.out C3 o3 (by first | exact (Below.refl _ _).drew | exact ((Below.refl _ _).alloc (Nat.le_refl _) _).drew) w3.heap.size rfl).mono ?_; rintro e w4 ⟨rfl, p4, D4⟩; have s4 : w3.heap.size ≤ w4.heap.size := Nat.le_trans (by simp) D4.size; have n4 : ¬ w4.heap.size = b := (by omega); have m4 : ¬ w4.heap.size = w2.heap.size := (by omega); have bx4 := D4.box; have fz4 := D4.frz; have h4 := D4.two.bc; obtain ⟨r0, r1, r2, r3, r4, r5, r6, r7⟩ := D4.cmd.all))
                · obtain ⟨M5, X5, O5, A5, _⟩ := D4.new (doD S' F).E (doD S' F).N
                  go_wp2_with fail
                  go_meet
                  exact ⟨_, p4, rfl, M5, X5, O5, A5⟩
                · obtain ⟨M5, X5, O5, A5, _⟩ := D4.old (by simp <;> omega) (by omega) (by omega) (by simp [go_sem]) (by simp [go_sem]) (doD S' F).E (doD S' F).N
                  go_wp2_with fail
                  go_meet
                  exact ⟨_, p4, rfl, M5, X5, O5, A5⟩
              case rest =>
                obtain ⟨w5, rfl⟩ : ∃ w5, w5 = wc := ⟨_, rfl⟩
                obtain ⟨z, p4, rfl, D5, C5, O5, A5⟩ := hcut
                clear D3 hc3 C3 d0 d1 d2 d3 d4 d5 d6 d7 o3
                obtain ⟨t0, t1, t2, t3, t4, t5, t6, t7⟩ := C5.all
                have jd := j_do S' F
                go_wp2_with fail
                refine (two_do1 w0 w5 _ p4 q1 p2 a a1 a2 b B hvB (doD S' F).S S' X w2.heap.size F D5 HJ.out C5 O5 (Below.refl _ _) w5.heap.size rfl).mono ?_
                rintro e w6 ⟨rfl, p6, D6⟩
                obtain ⟨x0, x1, x2⟩ := A5
                obtain ⟨M7, X7, O7, A7, T7⟩ := D6.new (doD S' F).E (doD S' F).N
                obtain ⟨T8, _⟩ := T7 z x0.1 x0
                have y0 := (World.cell?_of_block (a := ⟨z, 0, none⟩) T8).trans x1
                have y1 := (World.cell?_of_block (a := ⟨z, 1, none⟩) T8).trans x2
                obtain ⟨_, u0, u1⟩ := A7
                have zl : z < w6.heap.size := Nat.lt_of_lt_of_le x0.1 D6.size
                have y0' : w6.cell? ⟨z, 0, none⟩ = some (.int .i64 (doD S' F).E) := by rw [← World.cell?_alloc_past _ _ _ (by simpa using zl)]; exact y0
                have y1' : w6.cell? ⟨z, 1, none⟩ = some (.int .i64 (doD S' F).N) := by rw [← World.cell?_alloc_past _ _ _ (by simpa using zl)]; exact y1
                have HM7 : Hid (Two w0 (w6.alloc (.cells #[.int .i64 (doD S' F).E, .int .i64 (doD S' F).N] 39)) p4 p6 p2 a a1 a2 b B hvB (doD S' F).S (doD S' F).S X) := M7
                generalize (doD S' F).E = E at *
                generalize (doD S' F).N = N at *
                clear D5 C5 O5 x1 x2 x0 D6 X7 O7 T7 T8 M7 t0 t1 t2 t3 t4 t5 t6 t7 HJ
                go_wp2_with fail
                go_roundw
                case rel => exact ⟨j + 1, p4, p6, (doD S' F).S, by omega, by go_num, by omega, HM7.out⟩
                case measure => simp [intOf]; omega
            · have he : j = Mo.length := by omega
              subst he
              have HA : Hid (q.a = a) := D.pa
              have HB : Hid (q1.a = a1) := D.pa1
              have hc3 := D.bc
              have BB := D.l.below
              go_wp2_with fail
              refine (journal_live a _ D.l HA).mono ?_
              rintro e wj ⟨rfl, rfl⟩
              go_wp2_with fail
              refine (journal_live a1 _ D.l1 HB).mono ?_
              rintro e wj ⟨rfl, rfl⟩
              go_wp2_with fail
              refine (kright_any p2 a2 B hvB X _ D.duo).mono ?_
              rintro e w5 ⟨rfl, hb5⟩
              have B5 := BB.trans (hb5.mono BB.size)
              clear D hc3 BB hb5
              go_wp2
              go_ret
              exact ⟨rfl, B5⟩

end Go.Proofs.YtdblmheoghhepaaDoor
