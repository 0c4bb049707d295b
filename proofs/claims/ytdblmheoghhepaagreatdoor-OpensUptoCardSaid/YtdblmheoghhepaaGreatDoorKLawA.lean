/- The law's small functions: 'pick', 'mark', 'spoilt'; how long a journal is that was opened. -/
import Derived.Test.YtdblmheoghhepaaGreatDoorKRefOpen
import Derived.Test.YtdblmheoghhepaaGreatDoorKUnframed
import Derived.Lib.ConvBytes
import Derived.Deep.MidRow
namespace Go.Proofs.YtdblmheoghhepaaGreatDoor
open Go.RowKit

/-! ### A journal that was opened is no longer than its bytes -/
theorem unf_size (l : List UInt8) (F : Nat → Int) (m : Nat) (h : unfL l = some (F, m)) : (frS F).size = m ∧ m ≤ l.length := by
  have hg : Good ⟨⟨l⟩⟩ := Classical.byContradiction fun hn => by
    have := unf_bad ⟨⟨l⟩⟩ hn
    rw [show (⟨⟨l⟩⟩ : ByteArray).data.toList = l from rfl, h] at this
    cases this
  have e := unf_good ⟨⟨l⟩⟩ hg
  rw [show (⟨⟨l⟩⟩ : ByteArray).data.toList = l from rfl, h] at e
  simp only [Option.some.injEq, Prod.mk.injEq] at e
  obtain ⟨rfl, rfl⟩ := e
  obtain ⟨h2, h0, hl, hrr⟩ := hg
  have hkk := good_kind ⟨⟨l⟩⟩ h2 hrr
  have hfb := frame_bytes ⟨⟨l⟩⟩ h2 hkk.1 hkk.2 h0 hl
  have e2 : (frS (goodF ⟨⟨l⟩⟩ h2)).size = 1 + goodN ⟨⟨l⟩⟩ h2 := by
    unfold frS goodF goodN
    rw [hfb, h0]
    have : (⟨⟨l⟩⟩ : ByteArray).size = l.length := rfl
    simp [ByteArray.size_extract]
    omega
  exact ⟨e2, hl⟩
theorem open_J (k : Nat) : ∀ (S : Led) (l : List UInt8) (n : Nat) (T : Led), (openF k S l n).1 = some T → T.J.length ≤ S.J.length + l.length := by
  induction k with
  | zero =>
    intro S l n T h
    simp only [openF, Option.some.injEq] at h
    rw [← h]
    omega
  | succ k ih =>
    intro S l n T h
    rw [openF] at h
    by_cases ht : tornB l = true
    · rw [if_pos ht] at h
      simp only [Option.some.injEq] at h
      rw [← h]
      omega
    · rw [if_neg ht] at h
      cases hu : unfL l with
      | none => rw [hu] at h; cases h
      | some fm =>
        obtain ⟨F, m⟩ := fm
        rw [hu] at h
        obtain ⟨hz, hm⟩ := unf_size l F m hu
        rcases do_grows (S := S) (f := F) with ⟨ha, hlt, _⟩ | ⟨hn, _⟩
        · simp only [hlt, if_true] at h
          have := ih _ _ _ _ h
          rw [do_acc ha] at this
          have e : (accS S F).J.length = S.J.length + m := by
            show (S.J ++ bytesS (frS F)).length = _
            rw [List.length_append, bytesS_len, hz]
          simp only [e, List.length_drop] at this
          omega
        · simp only [hn, if_false] at h
          cases h

/-! ### 'pick', 'mark', 'spoilt' -/
def pk (c n : Int) : Int := (if c < 0 then -(c + 1) else c) % n
theorem pk_bd (c n : Int) (hn : 0 < n) : 0 ≤ pk c n ∧ pk c n < n := ⟨Int.emod_nonneg _ (by omega), Int.emod_lt_of_pos _ hn⟩
set_option maxRecDepth 100000 in
set_option maxHeartbeats 1000000 in
theorem lpick_any (c n : Int) (w : World) (h1 : -9223372036854775808 ≤ c) (h2 : c ≤ 9223372036854775807) (hn : 0 < n) (hn2 : n ≤ 4294967296) :
    Calls Tryz.prog 15 #[.int .i64 c, .int .i64 n] w fun e w' => e = .returned (.int .i64 (pk c n)) ∧ w = w' := by
  by_cases hc : c < 0
  · go_enter Tryz.func15, Tryz.ntmps15
    go_wp2
    go_ret
    refine ⟨ret_int ?_, rfl⟩
    unfold pk
    rw [if_pos hc]
    rw [← Int.neg_tmod]
    exact Int.tmod_eq_emod_of_nonneg (by omega)
  · go_enter Tryz.func15, Tryz.ntmps15
    go_wp2
    go_ret
    refine ⟨ret_int ?_, rfl⟩
    unfold pk
    rw [if_neg (by omega)]

/-- The mark of the n-th list. -/
def markI (n : Nat) : Int := -1000 - ((n / 4 : Nat) : Int)
set_option maxRecDepth 100000 in
set_option maxHeartbeats 1000000 in
theorem mark_any (n : Nat) (w : World) (hn : n ≤ 1000000000) : Calls Tryz.prog 18 #[.int .i64 (n : Int)] w fun e w' => e = .returned (.int .i64 (markI n)) ∧ w = w' := by
  have e1 : Int.tdiv (n : Int) 4 = (n : Int) / 4 := Int.tdiv_eq_ediv_of_nonneg (by omega)
  go_enter Tryz.func18, Tryz.ntmps18
  go_wp2
  go_ret
  refine ⟨ret_int ?_, rfl⟩
  unfold markI
  omega

set_option maxRecDepth 100000 in
set_option maxHeartbeats 2000000 in
theorem spoilt_any (s : ByteArray) (a b : Int) (w : World) (hs : s.size ≤ 1000000000) (ha : -9223372036854775808 ≤ a ∧ a ≤ 9223372036854775807) :
    Calls Tryz.prog 16 #[.string s, .int .i64 a, .int .i64 b] w fun e w' => ∃ s' : ByteArray, e = .returned (.string s') ∧ s'.size = s.size ∧ Below w.heap.size w w' := by
  by_cases h0 : s.size = 0
  · have h0' : ((s.size : Int) == 0) = true := by simp [h0]
    have hE := hid h0
    clear h0
    go_enter Tryz.func16, Tryz.ntmps16
    go_wp2
    go_ret
    exact ⟨s, rfl, rfl, Below.refl _ _⟩
  · have h0' : ((s.size : Int) == 0) = false := by rw [beq_eq_false_iff_ne]; omega
    have hcv := Go.Lib.run_convert_string_bytes (P := Tryz.prog) w 9 71 5 s Tryz.underlying9 Tryz.underlying71 Tryz.underlying5
    have hpk := pk_bd a (s.size : Int) (by omega)
    obtain ⟨i, hi⟩ : ∃ i : Nat, pk a (s.size : Int) = (i : Int) := ⟨(pk a (s.size : Int)).toNat, by omega⟩
    have hil : i < s.size := by omega
    have hiI : (i : Int) < (s.size : Int) := by omega
    have hnew := Go.Lib.bytesWorld_at_new w 5 s
    have hcs : s.size ≤ (Go.Lib.bytesCells w 5 s).size := by
      unfold Go.Lib.bytesCells
      rw [Array.size_append, Array.size_map]
      show s.data.size ≤ _
      omega
    have ci := Go.Lib.bytesWorld_cell w 5 s i hil
    have fi : (Go.Lib.bytesWorld w 5 s).frozen? ⟨w.heap.size, i, none⟩ = false := by
      simp [World.frozen?, hnew]
      omega
    have hb1 : Below w.heap.size w (Go.Lib.bytesWorld w 5 s) := ⟨rfl, rfl, rfl, by rw [Go.Lib.bytesWorld_size]; omega, fun j hj => Go.Lib.bytesWorld_at_old w 5 s j hj⟩
    have hcv2 : ∀ (x : Int), (convert 71 9 (.slice (some ⟨w.heap.size, 0, none⟩) s.size (grownCap w s.size 0 5))).run Tryz.prog ((Go.Lib.bytesWorld w 5 s).setCell ⟨w.heap.size, i, none⟩ (.int .u8 x)) = .ok (.string (strOfNums ((List.range s.size).map fun j => if j = i then x else ((s.data.toList.getD j 0).toNat : Int)))) ((Go.Lib.bytesWorld w 5 s).setCell ⟨w.heap.size, i, none⟩ (.int .u8 x)) := fun x => by
      refine run_convert_bytes_arg _ 71 5 Tryz.underlying71 Tryz.underlying5 w.heap.size 0 s.size _ _ (by simp) (fun j hj => ?_) 9 Tryz.underlying9
      rw [Nat.zero_add]
      have e : ((List.range s.size).map fun j => if j = i then x else ((s.data.toList.getD j 0).toNat : Int)).getD j 0 = if j = i then x else ((s.data.toList.getD j 0).toNat : Int) := by
        rw [List.getD_eq_getElem?_getD, List.getElem?_map, List.getElem?_range hj]
        rfl
      rw [e]
      by_cases hji : j = i
      · subst hji
        rw [World.cell?_setCell_same _ _ _ ci, if_pos rfl]
      · rw [World.cell?_setCell_other _ _ _ _ (off_ne (by omega)), if_neg hji]
        exact Go.Lib.bytesWorld_cell w 5 s j hj
    have HB := hid hb1
    have HI := hid hi
    generalize Go.Lib.bytesWorld w 5 s = W1 at *
    generalize grownCap w s.size 0 5 = cap at *
    clear hnew hcs hpk hb1 hi h0
    go_enter Tryz.func16, Tryz.ntmps16
    go_wp2_with fail
    refine (lpick_any a (s.size : Int) _ ha.1 ha.2 (by omega) (by omega)).mono ?_
    rw [HI.out]
    rintro e wj ⟨rfl, rfl⟩
    go_wp2
    go_ret
    exact ⟨_, rfl, by rw [strOfNums_size]; simp, HB.out.setCell (p := ⟨w.heap.size, i, none⟩) (Nat.le_refl _) _⟩

end Go.Proofs.YtdblmheoghhepaaGreatDoor

/- The law's world: pairs of ledgers, lists with their marks; what is written, and what is not. -/
namespace Go.Proofs.YtdblmheoghhepaaGreatDoor
open Go.RowKit

/-- A pair: the program's ledger and the document's. -/
structure Ent where
  p : Adr
  r : RAdr
  S : Led
  D : List (Nat → Int)
def Ent.foot (e : Ent) (k : Nat) : Prop := e.p.foot k ∨ e.r.foot k
abbrev Ent.cells (e : Ent) : List Value := [.pointer (some ⟨e.p.a, 0, none⟩), .pointer (some ⟨e.r.q, 0, none⟩)]
structure EntAt (w : World) (e : Ent) (M : Nat) : Prop where
  led : LedAt w e.p e.S
  rled : RLed w e.r e.S e.D
  ok : SOk e.S
  dok : DOk e.S.A e.D
  jl : e.S.J.length ≤ M
  apart : ∀ k, e.p.foot k → ¬ e.r.foot k
theorem EntAt.foot_lt {w : World} {e : Ent} {M : Nat} (h : EntAt w e M) {k : Nat} (hk : e.foot k) : k < w.heap.size := by
  rcases hk with hk | hk
  · exact h.led.foot_lt hk
  · exact h.rled.foot_lt hk
theorem EntAt.same {w w' : World} {e : Ent} {M M' : Nat} (h : EntAt w e M) (hb : ∀ k, e.foot k → w'.heap[k]? = w.heap[k]?) (hM : M ≤ M') : EntAt w' e M' :=
  ⟨h.led.same fun k hk => hb k (Or.inl hk), h.rled.same fun k hk => hb k (Or.inr hk), h.ok, h.dok, Nat.le_trans h.jl hM, h.apart⟩

/-- A hold that is a mark. -/
def markH (m : Int) : Nat → Int := eight m 0 0 0 0 0 0 0
/-- A list of n marks. -/
def LstAt (w : World) (v : Value) (n : Nat) (m : Int) : Prop := ∃ g cap, v = .slice (some ⟨g, 0, none⟩) n cap ∧ HoldsAt w g (List.replicate n (markH m)) ∧ n ≤ 100
theorem LstAt.same {w w' : World} {v : Value} {n : Nat} {m : Int} (h : LstAt w v n m) (hs : w.heap.size ≤ w'.heap.size) (hb : ∀ k, v.ownBlock = some k → w'.heap[k]? = w.heap[k]?) : LstAt w' v n m := by
  obtain ⟨g, cap, rfl, ⟨h1, h2⟩, hn⟩ := h
  refine ⟨g, cap, rfl, ⟨Nat.lt_of_lt_of_le h1 hs, fun k x hk j hj => ?_⟩, hn⟩
  exact (World.cell?_of_block (a := ⟨g, k * 8 + j, none⟩) (hb g rfl)).trans (h2 k x hk j hj)
theorem LstAt.lt {w : World} {v : Value} {n : Nat} {m : Int} (h : LstAt w v n m) {k : Nat} (hk : v.ownBlock = some k) : k < w.heap.size := by
  obtain ⟨g, cap, rfl, ⟨h1, _⟩, _⟩ := h
  simp [Value.ownBlock] at hk
  omega

/-- The law's world at block b; C: whose a block is. -/
structure Wd (w0 w : World) (b : Nat) (lv sv : Value) (Es : List Ent) (Ls : List (Value × Nat)) (M : Nat) (C : Nat → Nat) : Prop where
  tab : TabW w
  pos : 0 < w0.heap.size
  below : Below w0.heap.size w0 w
  c0 : w.cell? ⟨b, 0, none⟩ = some lv
  c1 : w.cell? ⟨b, 1, none⟩ = some sv
  free : Free w b
  lr : w.ownsRow 0 41 2 lv Es.length (Es.flatMap Ent.cells)
  sr : w.ownsRow 0 50 1 sv Ls.length (Ls.map fun x => x.1)
  ents : ∀ (i : Nat) e, Es[i]? = some e → EntAt w e M
  lsts : ∀ (k : Nat) (x : Value × Nat), Ls[k]? = some x → LstAt w x.1 x.2 (markI k)
  cb : C b = 0
  cl : ∀ k, lv.ownBlock = some k → C k = 1
  cs : ∀ k, sv.ownBlock = some k → C k = 2
  cm : ∀ (i : Nat) (x : Value × Nat), Ls[i]? = some x → ∀ k, x.1.ownBlock = some k → C k = 3
  ce : ∀ (i : Nat) e, Es[i]? = some e → ∀ k, e.foot k → C k = i + 4
  c3 : ∀ k, k < w0.heap.size → C k = 3
  els : Es.length ≤ 4000000
  lls : Ls.length ≤ 16000000

section
variable {w0 w w' : World} {b : Nat} {lv sv : Value} {Es : List Ent} {Ls : List (Value × Nat)} {M : Nat} {C : Nat → Nat}
theorem Wd.b_lt (h : Wd w0 w b lv sv Es Ls M C) : b < w.heap.size := World.block_lt_of_cell? w ⟨b, 0, none⟩ h.c0
theorem Wd.b_ge (h : Wd w0 w b lv sv Es Ls M C) : w0.heap.size ≤ b := by
  rcases Nat.lt_or_ge b w0.heap.size with x | x
  · have := h.c3 b x; rw [h.cb] at this; cases this
  · exact x
/-- What was made since is new; all else is as it was. -/
theorem Wd.mk' (h : Wd w0 w b lv sv Es Ls M C) (hb : Below w.heap.size w w') : Wd w0 w' b lv sv Es Ls M C :=
  ⟨h.tab.below hb h.tab.pos, h.pos, h.below.trans (hb.mono h.below.size), (hb.cell (p := ⟨b, 0, none⟩) h.b_lt).trans h.c0, (hb.cell (p := ⟨b, 1, none⟩) h.b_lt).trans h.c1, fun j => (hb.frozen (p := ⟨b, j, none⟩) h.b_lt).trans (h.free j),
    own_same h.lr (fun k hk => hb.block k (own_blt h.lr hk)), own_same h.sr (fun k hk => hb.block k (own_blt h.sr hk)), fun i e he => (h.ents i e he).same (fun k hk => hb.block k ((h.ents i e he).foot_lt hk)) (Nat.le_refl _),
    fun k x hx => (h.lsts k x hx).same hb.size (fun j hj => hb.block j ((h.lsts k x hx).lt hj)), h.cb, h.cl, h.cs, h.cm, h.ce, h.c3, h.els, h.lls⟩
theorem Wd.more (h : Wd w0 w b lv sv Es Ls M C) {M' : Nat} (hM : M ≤ M') : Wd w0 w b lv sv Es Ls M' C :=
  ⟨h.tab, h.pos, h.below, h.c0, h.c1, h.free, h.lr, h.sr, fun i e he => (h.ents i e he).same (fun _ _ => rfl) hM, h.lsts, h.cb, h.cl, h.cs, h.cm, h.ce, h.c3, h.els, h.lls⟩

theorem flat_set (Es : List Ent) (i : Nat) (e e' : Ent) (h : Es[i]? = some e) (hc : e'.cells = e.cells) : (Es.set i e').flatMap Ent.cells = Es.flatMap Ent.cells := by
  induction Es generalizing i with
  | nil => rfl
  | cons a t ih =>
    cases i with
    | zero =>
      simp at h
      subst h
      rw [List.set_cons_zero, List.flatMap_cons, List.flatMap_cons, hc]
    | succ i => rw [List.set_cons_succ, List.flatMap_cons, List.flatMap_cons, ih i (by simpa using h)]

/-- One pair of ledgers is turned. -/
theorem Wd.turn (h : Wd w0 w b lv sv Es Ls M C) {i : Nat} {e e' : Ent} (he : Es[i]? = some e) {M' : Nat} (hM : M ≤ M') (E : EntAt w' e' M') (hc : e'.cells = e.cells) (t : Turned e.foot w w') (hf : ∀ k, e'.foot k → e.foot k ∨ w.heap.size ≤ k) :
    ∃ C', Wd w0 w' b lv sv (Es.set i e') Ls M' C' := by
  have hil : i < Es.length := (List.getElem?_eq_some_iff.1 he).1
  have ce := h.ce i e he
  have nF : ∀ k, C k ≠ i + 4 → ¬ e.foot k := fun k hk x => hk (ce k x)
  have blk : ∀ k, k < w.heap.size → C k ≠ i + 4 → w'.heap[k]? = w.heap[k]? := fun k hk hn => t.block k hk (nF k hn)
  have hb0 : Below w0.heap.size w w' := ⟨t.os, t.tape, t.output, t.size, fun k hk => blk k (Nat.lt_of_lt_of_le hk h.below.size) (by rw [h.c3 k hk]; omega)⟩
  have bb : w'.heap[b]? = w.heap[b]? := blk b h.b_lt (by rw [h.cb]; omega)
  refine ⟨fun k => if k < w.heap.size then C k else i + 4, h.tab.below hb0 h.pos, h.pos, h.below.trans hb0, (World.cell?_of_block (a := ⟨b, 0, none⟩) bb).trans h.c0, (World.cell?_of_block (a := ⟨b, 1, none⟩) bb).trans h.c1, fun j => (World.frozen?_of_block (a := ⟨b, j, none⟩) bb).trans (h.free j), ?_,
    own_same h.sr (fun k hk => blk k (own_blt h.sr hk) (by rw [h.cs k hk]; omega)), fun j x hx => ?_, fun k x hx => (h.lsts k x hx).same t.size (fun j hj => blk j ((h.lsts k x hx).lt hj) (by rw [h.cm k x hx j hj]; omega)), ?_, fun k hk => ?_, fun k hk => ?_, fun j x hx k hk => ?_, fun j x hx k hk => ?_, fun k hk => ?_, by rw [List.length_set]; exact h.els, h.lls⟩
  · rw [flat_set Es i e e' he hc, List.length_set]
    exact own_same h.lr (fun k hk => blk k (own_blt h.lr hk) (by rw [h.cl k hk]; omega))
  · rw [List.getElem?_set] at hx
    split at hx
    · cases hx; exact E
    · rename_i hne
      have hE := h.ents j x hx
      exact hE.same (fun k hk => blk k (hE.foot_lt hk) (by rw [h.ce j x hx k hk]; omega)) hM
  · show (if b < w.heap.size then C b else i + 4) = 0
    rw [if_pos h.b_lt]; exact h.cb
  · show (if k < w.heap.size then C k else i + 4) = 1
    rw [if_pos (own_blt h.lr hk)]; exact h.cl k hk
  · show (if k < w.heap.size then C k else i + 4) = 2
    rw [if_pos (own_blt h.sr hk)]; exact h.cs k hk
  · show (if k < w.heap.size then C k else i + 4) = 3
    rw [if_pos ((h.lsts j x hx).lt hk)]; exact h.cm j x hx k hk
  · show (if k < w.heap.size then C k else i + 4) = j + 4
    rw [List.getElem?_set] at hx
    split at hx
    · rename_i hij
      subst hij
      cases hx
      rcases hf k hk with y | y
      · split
        · exact ce k y
        · rfl
      · rw [if_neg (by omega)]
    · have hE := h.ents j x hx
      rw [if_pos (hE.foot_lt hk)]
      exact h.ce j x hx k hk
  · show (if k < w.heap.size then C k else i + 4) = 3
    rw [if_pos (Nat.lt_of_lt_of_le hk h.below.size)]; exact h.c3 k hk

/-- One pair more. -/
theorem Wd.add (h : Wd w0 w b lv sv Es Ls M C) {e : Ent} {w1 : World} {lv' : Value} (hb : Below w.heap.size w w1) (E : EntAt w1 e M) (hn : ∀ k, e.foot k → w.heap.size ≤ k) (hl : Es.length < 4000000)
    (own : w'.ownsRow 0 41 2 lv' (Es.length + 1) (Es.flatMap Ent.cells ++ e.cells)) (hg : w1.grownBy w' lv.ownBlock) (hlv : lv'.ownBlock = lv.ownBlock ∨ lv'.ownBlock = some w1.heap.size) :
    ∃ C', Wd w0 (w'.setCell ⟨b, 0, none⟩ lv') b lv' sv (Es ++ [e]) Ls M C' := by
  have h1 := h.mk' hb
  have z1 := hb.size
  have bl := h.b_lt
  have nb : lv.ownBlock ≠ some b := fun x => by have := h.cl b x; rw [h.cb] at this; cases this
  have blk : ∀ k, k < w1.heap.size → lv.ownBlock ≠ some k → w'.heap[k]? = w1.heap[k]? := fun k hk hn => hg.block k hk (fun x => hn x.symm)
  have bb : w'.heap[b]? = w1.heap[b]? := blk b (by omega) nb
  have blk2 : ∀ k, k < w1.heap.size → lv.ownBlock ≠ some k → k ≠ b → (w'.setCell ⟨b, 0, none⟩ lv').heap[k]? = w1.heap[k]? := fun k hk hn hkb => (Below.heap_setCell _ _ _ _ hkb).trans (blk k hk hn)
  have nb' : ∀ k, lv'.ownBlock = some k → k ≠ b := fun k hk => by
    rcases hlv with x | x
    · rw [x] at hk; exact fun y => nb (y ▸ hk)
    · rw [x] at hk; cases hk; omega
  have hb0 : Below w0.heap.size w1 (w'.setCell ⟨b, 0, none⟩ lv') := ⟨hg.os, hg.tape, hg.output, by simpa [World.setCell] using hg.size, fun k hk => blk2 k (by have := h.below.size; omega) (fun x => by have := h.cl k x; rw [h.c3 k hk] at this; cases this) (fun x => by rw [x] at hk; have := h.c3 b hk; rw [h.cb] at this; cases this)⟩
  have sz : (w'.setCell ⟨b, 0, none⟩ lv').heap.size = w'.heap.size := by simp
  have gs := hg.size
  refine ⟨fun k => if k < w.heap.size then C k else if lv'.ownBlock = some k then 1 else Es.length + 4, h1.tab.below hb0 h.pos, h.pos, h1.below.trans hb0, World.cell?_setCell_same _ _ _ ((World.cell?_of_block (a := ⟨b, 0, none⟩) bb).trans h1.c0), ?_, fun j => ?_, ?_, ?_, fun j x hx => ?_, fun k x hx => ?_, ?_, fun k hk => ?_, fun k hk => ?_, fun j x hx k hk => ?_, fun j x hx k hk => ?_, fun k hk => ?_, by simp; omega, h.lls⟩
  · rw [World.cell?_setCell_other _ _ _ _ (off_ne (by omega))]
    exact (World.cell?_of_block (a := ⟨b, 1, none⟩) bb).trans h1.c1
  · rw [World.frozen?_setCell]; exact (World.frozen?_of_block (a := ⟨b, j, none⟩) bb).trans (h1.free j)
  · rw [List.flatMap_append, List.length_append]
    simp only [List.flatMap_cons, List.flatMap_nil, List.append_nil, List.length_cons, List.length_nil, Nat.zero_add]
    exact own_same own (fun k hk => Below.heap_setCell _ _ _ _ (nb' k hk))
  · exact own_same h1.sr (fun k hk => blk2 k (own_blt h1.sr hk) (fun x => by have := h.cl k x; rw [h.cs k hk] at this; cases this) (fun x => by have := h.cs k hk; rw [x, h.cb] at this; cases this))
  · rcases Nat.lt_or_ge j Es.length with hj | hj
    · rw [List.getElem?_append_left hj] at hx
      have hE := h1.ents j x hx
      exact hE.same (fun k hk => blk2 k (hE.foot_lt hk) (fun y => by have := h.cl k y; rw [h.ce j x hx k hk] at this; omega) (fun y => by have := h.ce j x hx k hk; rw [y, h.cb] at this; omega)) (Nat.le_refl _)
    · rw [List.getElem?_append_right hj] at hx
      rcases Nat.eq_zero_or_pos (j - Es.length) with h0 | h0
      · rw [h0] at hx
        simp at hx
        subst hx
        exact E.same (fun k hk => blk2 k (E.foot_lt hk) (fun y => by have := own_blt h.lr y; have := hn k hk; omega) (fun y => by have := hn k hk; omega)) (Nat.le_refl _)
      · rw [List.getElem?_eq_none (by simp; omega)] at hx; cases hx
  · have hL := h1.lsts k x hx
    exact hL.same (by rw [sz]; exact gs) (fun j hj => blk2 j (hL.lt hj) (fun y => by have := h.cl j y; rw [h.cm k x hx j hj] at this; cases this) (fun y => by have := h.cm k x hx j hj; rw [y, h.cb] at this; cases this))
  · show (if b < w.heap.size then C b else _) = 0
    rw [if_pos bl]; exact h.cb
  · show (if k < w.heap.size then C k else if lv'.ownBlock = some k then 1 else Es.length + 4) = 1
    split
    · rename_i hk1
      rcases hlv with x | x
      · exact h.cl k (x ▸ hk)
      · rw [x] at hk; cases hk; omega
    · first | rfl | rw [if_pos hk]
  · show (if k < w.heap.size then C k else _) = 2
    rw [if_pos (own_blt h.sr hk)]; exact h.cs k hk
  · show (if k < w.heap.size then C k else _) = 3
    rw [if_pos ((h.lsts j x hx).lt hk)]; exact h.cm j x hx k hk
  · show (if k < w.heap.size then C k else if lv'.ownBlock = some k then 1 else Es.length + 4) = j + 4
    rcases Nat.lt_or_ge j Es.length with hj | hj
    · rw [List.getElem?_append_left hj] at hx
      rw [if_pos ((h.ents j x hx).foot_lt hk)]
      exact h.ce j x hx k hk
    · rw [List.getElem?_append_right hj] at hx
      rcases Nat.eq_zero_or_pos (j - Es.length) with h0 | h0
      · rw [h0] at hx
        simp at hx
        subst hx
        have := hn k hk
        have hk1 := E.foot_lt hk
        rw [if_neg (by omega), if_neg]
        · omega
        · intro y
          rcases hlv with x | x
          · rw [x] at y; have := own_blt h.lr y; omega
          · rw [x] at y; cases y; omega
      · rw [List.getElem?_eq_none (by simp; omega)] at hx; cases hx
  · show (if k < w.heap.size then C k else _) = 3
    rw [if_pos (Nat.lt_of_lt_of_le hk h.below.size)]; exact h.c3 k hk

/-- Lists more, with the mark of their place. -/
theorem Wd.lists (h : Wd w0 w b lv sv Es Ls M C) {w1 : World} {sv' : Value} {Ns : List (Value × Nat)} (hb : Below w.heap.size w w1) (hN : ∀ (i : Nat) (x : Value × Nat), Ns[i]? = some x → LstAt w1 x.1 x.2 (markI (Ls.length + i)) ∧ ∀ k, x.1.ownBlock = some k → w.heap.size ≤ k) (hl : Ls.length + Ns.length ≤ 16000000)
    (own : w'.ownsRow 0 50 1 sv' (Ls.length + Ns.length) ((Ls.map fun x => x.1) ++ Ns.map fun x => x.1)) (hg : w1.grownBy w' sv.ownBlock) (hsv : sv'.ownBlock = sv.ownBlock ∨ sv'.ownBlock = some w1.heap.size) :
    ∃ C', Wd w0 (w'.setCell ⟨b, 1, none⟩ sv') b lv sv' Es (Ls ++ Ns) M C' := by
  have h1 := h.mk' hb
  have z1 := hb.size
  have bl := h.b_lt
  have nb : sv.ownBlock ≠ some b := fun x => by have := h.cs b x; rw [h.cb] at this; cases this
  have blk : ∀ k, k < w1.heap.size → sv.ownBlock ≠ some k → w'.heap[k]? = w1.heap[k]? := fun k hk hn => hg.block k hk (fun x => hn x.symm)
  have bb : w'.heap[b]? = w1.heap[b]? := blk b (by omega) nb
  have blk2 : ∀ k, k < w1.heap.size → sv.ownBlock ≠ some k → k ≠ b → (w'.setCell ⟨b, 1, none⟩ sv').heap[k]? = w1.heap[k]? := fun k hk hn hkb => (Below.heap_setCell _ _ _ _ hkb).trans (blk k hk hn)
  have nb' : ∀ k, sv'.ownBlock = some k → k ≠ b := fun k hk => by
    rcases hsv with x | x
    · rw [x] at hk; exact fun y => nb (y ▸ hk)
    · rw [x] at hk; cases hk; omega
  have hb0 : Below w0.heap.size w1 (w'.setCell ⟨b, 1, none⟩ sv') := ⟨hg.os, hg.tape, hg.output, by simpa [World.setCell] using hg.size, fun k hk => blk2 k (by have := h.below.size; omega) (fun x => by have := h.cs k x; rw [h.c3 k hk] at this; cases this) (fun x => by rw [x] at hk; have := h.c3 b hk; rw [h.cb] at this; cases this)⟩
  have sz : (w'.setCell ⟨b, 1, none⟩ sv').heap.size = w'.heap.size := by simp
  have gs := hg.size
  refine ⟨fun k => if k < w.heap.size then C k else if sv'.ownBlock = some k then 2 else 3, h1.tab.below hb0 h.pos, h.pos, h1.below.trans hb0, ?_, World.cell?_setCell_same _ _ _ ((World.cell?_of_block (a := ⟨b, 1, none⟩) bb).trans h1.c1), fun j => ?_, ?_, ?_, fun j x hx => ?_, fun k x hx => ?_, ?_, fun k hk => ?_, fun k hk => ?_, fun j x hx k hk => ?_, fun j x hx k hk => ?_, fun k hk => ?_, h.els, by simpa using hl⟩
  · rw [World.cell?_setCell_other _ _ _ _ (off_ne (by omega))]
    exact (World.cell?_of_block (a := ⟨b, 0, none⟩) bb).trans h1.c0
  · rw [World.frozen?_setCell]; exact (World.frozen?_of_block (a := ⟨b, j, none⟩) bb).trans (h1.free j)
  · exact own_same h1.lr (fun k hk => blk2 k (own_blt h1.lr hk) (fun x => by have := h.cs k x; rw [h.cl k hk] at this; cases this) (fun x => by have := h.cl k hk; rw [x, h.cb] at this; cases this))
  · rw [List.map_append, List.length_append]
    exact own_same own (fun k hk => Below.heap_setCell _ _ _ _ (nb' k hk))
  · have hE := h1.ents j x hx
    exact hE.same (fun k hk => blk2 k (hE.foot_lt hk) (fun y => by have := h.cs k y; rw [h.ce j x hx k hk] at this; omega) (fun y => by have := h.ce j x hx k hk; rw [y, h.cb] at this; omega)) (Nat.le_refl _)
  · rcases Nat.lt_or_ge k Ls.length with hj | hj
    · rw [List.getElem?_append_left hj] at hx
      have hL := h1.lsts k x hx
      exact hL.same (by rw [sz]; exact gs) (fun j hj => blk2 j (hL.lt hj) (fun y => by have := h.cs j y; rw [h.cm k x hx j hj] at this; cases this) (fun y => by have := h.cm k x hx j hj; rw [y, h.cb] at this; cases this))
    · rw [List.getElem?_append_right hj] at hx
      obtain ⟨hL, hk⟩ := hN _ x hx
      rw [show Ls.length + (k - Ls.length) = k by omega] at hL
      exact hL.same (by rw [sz]; exact gs) (fun j hj => blk2 j (hL.lt hj) (fun y => by have := own_blt h.sr y; have := hk j hj; omega) (fun y => by have := hk j hj; omega))
  · show (if b < w.heap.size then C b else _) = 0
    rw [if_pos bl]; exact h.cb
  · show (if k < w.heap.size then C k else _) = 1
    rw [if_pos (own_blt h.lr hk)]; exact h.cl k hk
  · show (if k < w.heap.size then C k else if sv'.ownBlock = some k then 2 else 3) = 2
    split
    · rename_i hk1
      rcases hsv with x | x
      · exact h.cs k (x ▸ hk)
      · rw [x] at hk; cases hk; omega
    · first | rfl | rw [if_pos hk]
  · show (if k < w.heap.size then C k else if sv'.ownBlock = some k then 2 else 3) = 3
    rcases Nat.lt_or_ge j Ls.length with hj | hj
    · rw [List.getElem?_append_left hj] at hx
      rw [if_pos ((h.lsts j x hx).lt hk)]
      exact h.cm j x hx k hk
    · rw [List.getElem?_append_right hj] at hx
      obtain ⟨hL, hk2⟩ := hN _ x hx
      have := hk2 k hk
      have hk1 := hL.lt hk
      rw [if_neg (by omega), if_neg]
      intro y
      rcases hsv with x | x
      · rw [x] at y; have := own_blt h.sr y; omega
      · rw [x] at y; cases y; omega
  · show (if k < w.heap.size then C k else _) = j + 4
    rw [if_pos ((h.ents j x hx).foot_lt hk)]; exact h.ce j x hx k hk
  · show (if k < w.heap.size then C k else _) = 3
    rw [if_pos (Nat.lt_of_lt_of_le hk h.below.size)]; exact h.c3 k hk
end

end Go.Proofs.YtdblmheoghhepaaGreatDoor

/- The law's 'begins', 'opened', 'looks'. -/
namespace Go.Proofs.YtdblmheoghhepaaGreatDoor
open Go.RowKit

theorem infoP : (Tryz.prog.info? 41).map (fun i => (i.zero, i.size, i.bytes)) = some (some (.agg #[.pointer none, .pointer none]), 2, 16) := by kernel_rfl
/-- A pair goes behind the pairs. -/
theorem run_append_pair (w : World) (ty : TypeId) (v : Value) (n : Nat) (xs : List Value) (hown : w.ownsRow 0 41 2 v n xs) (x y : Value) (hx : x.oneCell' = true) (hy : y.oneCell' = true) (g : Nat) (h0 : w.cell? ⟨g, 0, none⟩ = some x) (h1 : w.cell? ⟨g, 1, none⟩ = some y) (hn : n ≤ 4000000) :
    ∃ v' w', (Builtin.append_ #[26, 26] ty #[v, .slice (some ⟨g, 0, none⟩) 1 1]).run Tryz.prog w = .ok v' w' ∧ w'.ownsRow 0 41 2 v' (n + 1) (xs ++ [x, y]) ∧ w.grownBy w' v.ownBlock ∧ (v'.ownBlock = v.ownBlock ∨ v'.ownBlock = some w.heap.size) ∧ ∃ g' c', v' = .slice (some ⟨g', 0, none⟩) (n + 1) c' := by
  obtain ⟨i0, hi, hz0, hz1, hz2⟩ := info_parts infoP
  obtain ⟨v', w', hr, a1, a2, _, a4⟩ := run_append_own_at (P := Tryz.prog) w 0 26 ty 41 i0 _ 2 16 Tryz.underlying26 hi hz0 hz1 hz2 rfl (by decide) v n xs hown ⟨g, 0, none⟩ 1 1 [x, y] rfl (by
    intro j u hu
    rw [add_off]
    match j, hu with
    | 0, hu => simp at hu; rw [← hu]; exact h0
    | 1, hu => simp at hu; rw [← hu]; exact h1) (by
    intro u hu
    simp at hu
    rcases hu with rfl | rfl
    · exact hx
    · exact hy) (by unfold maxLen; omega) (by omega) (Nat.zero_le _)
  refine ⟨v', w', hr, a1, a2, a4, ?_⟩
  rcases a1.2 with ⟨_, e⟩ | ⟨g', c', cur, e, _⟩
  · omega
  · exact ⟨g', c', e⟩

section
variable {w0 : World} {b : Nat} {lv sv : Value} {Es : List Ent} {Ls : List (Value × Nat)} {M : Nat} {C : Nat → Nat}

/-- A pair that was just made goes behind the pairs. -/
theorem add_pair {w w2 : World} (h : Wd w0 w b lv sv Es Ls M C) (hb : Below w.heap.size w w2) {e : Ent} (E : EntAt w2 e M) (hn : ∀ k, e.foot k → w.heap.size ≤ k) (hl : Es.length < 4000000) :
    ∃ v' w4, (Builtin.append_ #[26, 26] 26 #[lv, .slice (some ⟨w2.heap.size, 0, none⟩) 1 1]).run Tryz.prog (w2.alloc (.cells #[.pointer (some ⟨e.p.a, 0, none⟩), .pointer (some ⟨e.r.q, 0, none⟩)] 41)) = .ok v' w4 ∧
      w4.cell? ⟨b, 0, none⟩ = some lv ∧ w4.frozen? ⟨b, 0, none⟩ = false ∧ (∃ g' c', v' = .slice (some ⟨g', 0, none⟩) (Es.length + 1) c') ∧ ∃ C', Wd w0 (w4.setCell ⟨b, 0, none⟩ v') b v' sv (Es ++ [e]) Ls M C' := by
  have bA : Below w2.heap.size w2 (w2.alloc (.cells #[.pointer (some ⟨e.p.a, 0, none⟩), .pointer (some ⟨e.r.q, 0, none⟩)] 41)) := (Below.refl _ _).alloc (Nat.le_refl _) _
  have h2 := h.mk' hb
  have h3 := h2.mk' bA
  obtain ⟨v', w4, hr, own, hg, hlv, hex⟩ := run_append_pair _ 26 lv Es.length _ h3.lr (.pointer (some ⟨e.p.a, 0, none⟩)) (.pointer (some ⟨e.r.q, 0, none⟩)) rfl rfl w2.heap.size (by simp [go_sem]) (by simp [go_sem]) (by omega)
  have nb : lv.ownBlock ≠ some b := fun x => by have := h.cl b x; rw [h.cb] at this; cases this
  have eb := hg.block b h3.b_lt (fun x => nb x.symm)
  exact ⟨v', w4, hr, (World.cell?_of_block (a := ⟨b, 0, none⟩) eb).trans h3.c0, (World.frozen?_of_block (a := ⟨b, 0, none⟩) eb).trans (h3.free 0), hex, h.add (hb.trans (bA.mono hb.size)) (E.same (fun k hk => bA.block k (E.foot_lt hk)) (Nat.le_refl _)) hn hl own hg hlv⟩

set_option maxRecDepth 100000 in
set_option maxHeartbeats 2000000 in
theorem wbegins_any (w : World) (h : Wd w0 w b lv sv Es Ls M C) (hl : Es.length < 4000000) :
    Calls Tryz.prog 7 #[.pointer (some ⟨b, 0, none⟩)] w fun e w' => e = .returned (.bool true) ∧ ∃ (lv' : Value) (E : Ent) (C' : Nat → Nat), Wd w0 w' b lv' sv (Es ++ [E]) Ls M C' := by
  obtain ⟨lx, lc, elv⟩ := own_slice h.lr
  subst elv
  go_enter Tryz.func7, Tryz.ntmps7
  go_wp2_with fail
  refine (new_any w).mono ?_
  rintro e w1 ⟨p, rfl, hL, hf, hb⟩
  go_wp2_with fail
  refine (rnew_any w1).mono ?_
  rintro e w2 ⟨r, rfl, V⟩
  have z1 := hb.size
  have B2 : Below w.heap.size w w2 := hb.trans (V.below.mono z1)
  have E : EntAt w2 ⟨p, r, S0, []⟩ M := ⟨hL.below V.below, V.led, sok_S0, dok_nil, Nat.zero_le _, fun k hk x => by have := hL.foot_lt hk; have := V.foot k x; omega⟩
  obtain ⟨v', w4, hr, c4, f4, ⟨g', c', ev⟩, C', WW⟩ := add_pair h B2 E (fun k hk => by
    rcases hk with hk | hk
    · exact hf k hk
    · have := V.foot k hk; omega) hl
  subst ev
  have cb := (h.mk' B2).c0
  have bl := (h.mk' B2).b_lt
  have HW := hid WW
  clear WW E V hL hf hb B2 h
  go_wp2_with (at_builtin; refine wp_append_at _ rfl _ _ 26 rfl _ _ rfl rfl _ _ hr ?_)
  go_ret
  exact ⟨rfl, _, _, C', HW.out⟩

theorem open_res (s : ByteArray) : ∃ r : Option Led × Nat, openF (s.size + 1) S0 s.data.toList 0 = r ∧ (∀ T n, r = (some T, n) → T.J.length ≤ s.size) := by
  refine ⟨_, rfl, fun T n h => ?_⟩
  have := open_J (s.size + 1) S0 s.data.toList 0 T (by rw [h])
  rw [Array.length_toList] at this
  show T.J.length ≤ s.data.size
  have e : S0.J.length = 0 := rfl
  omega

set_option maxRecDepth 100000 in
set_option maxHeartbeats 4000000 in
theorem wopened_any (w : World) (s : ByteArray) (h : Wd w0 w b lv sv Es Ls M C) (hl : Es.length < 4000000) (hs : s.size ≤ M) (hM : M ≤ 1000000000) :
    Calls Tryz.prog 12 #[.pointer (some ⟨b, 0, none⟩), .string s] w fun e w' => e = .returned (.bool true) ∧ ∃ (lv' : Value) (Es' : List Ent) (C' : Nat → Nat), Wd w0 w' b lv' sv Es' Ls M C' ∧ Es'.length ≤ Es.length + 1 ∧ Es.length ≤ Es'.length := by
  obtain ⟨lx, lc, elv⟩ := own_slice h.lr
  subst elv
  obtain ⟨⟨R1, n⟩, hR, hJ⟩ := open_res s
  have HR := hid hR
  clear hR
  cases R1 with
  | none =>
    go_enter Tryz.func12, Tryz.ntmps12
    go_wp2_with fail
    refine (open_to s w h.tab (by omega) _ HR).mono ?_
    rintro e w1 ⟨rfl, hb1⟩
    have h1 := h.mk' hb1
    go_wp2_with fail
    refine (ropen_to s w1 (by omega) _ HR).mono ?_
    rintro e w2 ⟨rfl, hb2⟩
    have h2 := h1.mk' hb2
    have HW := hid h2
    clear h h1 h2 hb1 hb2 hJ
    go_wp2_with (go_at_call 22; refine (num_any _ _).mono ?_; rintro e w' ⟨rfl, rfl⟩)
    go_ret
    exact ⟨rfl, _, Es, C, HW.out, by omega, by omega⟩
  | some T =>
    have hTJ := hJ T n rfl
    go_enter Tryz.func12, Tryz.ntmps12
    go_wp2_with fail
    refine (open_to s w h.tab (by omega) _ HR).mono ?_
    rintro e w1 ⟨p, rfl, V1⟩
    go_wp2_with fail
    refine (ropen_to s w1 (by omega) _ HR).mono ?_
    rintro e w2 ⟨r, D, rfl, V2⟩
    have z1 := V1.below.size
    have B2 : Below w.heap.size w w2 := V1.below.trans (V2.below.mono z1)
    have E : EntAt w2 ⟨p, r, T, D⟩ M := ⟨V1.led.below V2.below, V2.led, V2.ok, V2.dok, by show T.J.length ≤ M; omega, fun k hk x => by have := V1.led.foot_lt hk; have := V2.foot k x; omega⟩
    obtain ⟨v', w4, hr, c4, f4, ⟨g', c', ev⟩, C', WW⟩ := add_pair h B2 E (fun k hk => by
      rcases hk with hk | hk
      · exact V1.foot k hk
      · have := V2.foot k hk; omega) hl
    subst ev
    have cb := (h.mk' B2).c0
    have bl := (h.mk' B2).b_lt
    have HW := hid WW
    clear WW E V1 V2 B2 h hJ
    go_wp2_with (first | (go_at_call 22; refine (num_any _ _).mono ?_; rintro e w' ⟨rfl, rfl⟩) | (at_builtin; refine wp_append_at _ rfl _ _ 26 rfl _ _ rfl rfl _ _ hr ?_))
    go_ret
    exact ⟨rfl, _, _, C', HW.out, by simp, by simp⟩
end

end Go.Proofs.YtdblmheoghhepaaGreatDoor

/- The law's 'looks'. -/
namespace Go.Proofs.YtdblmheoghhepaaGreatDoor
open Go.RowKit

theorem mark_cells {w : World} {g n : Nat} {m : Int} (h : HoldsAt w g (List.replicate n (markH m))) {i : Nat} (hi : i < n) :
    w.cell? ⟨g, i * 8, none⟩ = some (.int .i64 m) ∧ w.cell? ⟨g, i * 8 + 1, none⟩ = some (.int .i64 0) ∧ w.cell? ⟨g, i * 8 + 1 + 1, none⟩ = some (.int .i64 0) ∧ w.cell? ⟨g, i * 8 + 1 + 1 + 1, none⟩ = some (.int .i64 0) ∧
    w.cell? ⟨g, i * 8 + 1 + 1 + 1 + 1, none⟩ = some (.int .i64 0) ∧ w.cell? ⟨g, i * 8 + 1 + 1 + 1 + 1 + 1, none⟩ = some (.int .i64 0) ∧ w.cell? ⟨g, i * 8 + 1 + 1 + 1 + 1 + 1 + 1, none⟩ = some (.int .i64 0) ∧ w.cell? ⟨g, i * 8 + 1 + 1 + 1 + 1 + 1 + 1 + 1, none⟩ = some (.int .i64 0) :=
  h.all (k := i) (h := markH m) (by rw [List.getElem?_replicate]; simp [hi])

theorem row_at {w : World} {e : TypeId} {v : Value} {n : Nat} {xs : List Value} {i : Nat} {x : Value} (h : w.ownsRow 0 e 1 v n xs) (hx : xs[i]? = some x) (hi : i < n) : ∃ g cap, v = .slice (some ⟨g, 0, none⟩) n cap ∧ w.cell? ⟨g, i, none⟩ = some x ∧ g < w.heap.size := by
  rcases h.2 with ⟨_, e2⟩ | ⟨g, cap, cur, e, _, hh, _⟩
  · omega
  · refine ⟨g, cap, e, ?_, (Array.getElem?_eq_some_iff.1 hh).1⟩
    rw [e] at h
    rw [h.cellAt i (by omega), hx]

section
variable {w0 : World} {b : Nat} {lv sv : Value} {Es : List Ent} {Ls : List (Value × Nat)} {M : Nat} {C : Nat → Nat}
set_option maxRecDepth 100000 in
set_option maxHeartbeats 4000000 in
theorem looks_any (w : World) (h : Wd w0 w b lv sv Es Ls M C) :
    Calls Tryz.prog 9 #[.pointer (some ⟨b, 0, none⟩)] w fun e w' => e = .returned (.bool true) ∧ Below w.heap.size w w' := by
  obtain ⟨sx, sc, esv⟩ := own_slice h.sr
  subst esv
  have hls := h.lls
  go_enter Tryz.func9, Tryz.ntmps9
  go_wp2
  go_loopw [3] (fun v wr => ∃ k : Nat, k ≤ Ls.length ∧ v = .int .i64 (k : Int) ∧ Below w.heap.size w wr) (fun v _ => Ls.length - (intOf v).toNat)
  case atStart => exact ⟨0, Nat.zero_le _, rfl, Below.refl _ _⟩
  case round =>
    obtain ⟨k, hk, rfl, hb⟩ := hrel
    have h1 := h.mk' hb
    have c1 := h1.c1
    by_cases hlt : k < Ls.length
    · obtain ⟨x, hx⟩ : ∃ x, Ls[k]? = some x := ⟨Ls[k], by simp [hlt]⟩
      obtain ⟨gs, cs, es, cx, _⟩ := row_at (i := k) h1.sr (by rw [List.getElem?_map, hx]; rfl) hlt
      cases es
      obtain ⟨g, cap, ev, hH, hn100⟩ := h1.lsts k x hx
      obtain ⟨xv, n⟩ := x
      simp only at ev hH cx hn100
      subst ev
      have kI : (k : Int) < (Ls.length : Int) := by omega
      obtain ⟨wo, rfl⟩ : ∃ wo : World, wo = wr := ⟨_, rfl⟩
      clear h1
      go_wp2
      go_loopw [4] (fun v wr => ∃ i : Nat, i ≤ n ∧ v = .int .i64 (i : Int) ∧ Below w.heap.size w wr) (fun v _ => n - (intOf v).toNat)
      case atStart => exact ⟨0, Nat.zero_le _, rfl, hb⟩
      case round =>
        clear hb c1 cx hH
        obtain ⟨i, hi, rfl, hb⟩ := hrel
        have h2 := h.mk' hb
        have c2 := h2.c1
        obtain ⟨gs2, cs2, es2, cx2, _⟩ := row_at (i := k) h2.sr (by rw [List.getElem?_map, hx]; rfl) hlt
        cases es2
        obtain ⟨g2, cap2, ev2, hH2, _⟩ := h2.lsts k _ hx
        simp only at ev2 hH2 cx2
        cases ev2
        by_cases hin : i < n
        · obtain ⟨q0, q1, q2, q3, q4, q5, q6, q7⟩ := mark_cells hH2 hin
          have iI : (i : Int) < (n : Int) := by omega
          clear h2 hH2
          go_wp2
          go_region_held3 (fun w' => w'.cell? ⟨b, 1, none⟩ = some (.slice (some ⟨gs, 0, none⟩) Ls.length sc) ∧ w'.cell? ⟨gs, k, none⟩ = some (.slice (some ⟨g, 0, none⟩) n cap) ∧ w'.cell? ⟨g, i * 8, none⟩ = some (.int .i64 (markI k)) ∧ w'.cell? ⟨g, i * 8 + 1, none⟩ = some (.int .i64 0) ∧ w'.cell? ⟨g, i * 8 + 1 + 1, none⟩ = some (.int .i64 0) ∧ w'.cell? ⟨g, i * 8 + 1 + 1 + 1, none⟩ = some (.int .i64 0) ∧ w'.cell? ⟨g, i * 8 + 1 + 1 + 1 + 1, none⟩ = some (.int .i64 0) ∧ w'.cell? ⟨g, i * 8 + 1 + 1 + 1 + 1 + 1, none⟩ = some (.int .i64 0) ∧ w'.cell? ⟨g, i * 8 + 1 + 1 + 1 + 1 + 1 + 1, none⟩ = some (.int .i64 0) ∧ w'.cell? ⟨g, i * 8 + 1 + 1 + 1 + 1 + 1 + 1 + 1, none⟩ = some (.int .i64 0)) (first | (go_keep; done) | (simp; done)) (first | (go_at_call 18; refine (mark_any k _ (by omega)).mono ?_; rintro e w' ⟨rfl, rfl⟩))
          go_wp2
          go_roundw
          case rel => exact ⟨i + 1, by omega, by go_num, hb.drew⟩
          case measure => simp [intOf]; omega
        · have he : i = n := by omega
          subst he
          clear h2 hH2
          go_wp2
          go_roundw
          case rel => exact ⟨k + 1, by omega, by go_num, hb⟩
          case measure => simp [intOf]; omega
    · have he : k = Ls.length := by omega
      subst he
      clear h1
      go_wp2
      go_ret
      exact ⟨rfl, hb⟩
end

end Go.Proofs.YtdblmheoghhepaaGreatDoor
