/- The journal: a frame is added to it; it is told. -/
import Derived.Test.YtdblmheoghhepaaGreatDoorKLedgerAll
import Derived.Lib.AppendStr
namespace Go.Proofs.YtdblmheoghhepaaGreatDoor
open Go.RowKit
open Go.Lib (strCells)

def bytesS (s : ByteArray) : List Int := s.data.toList.map fun b => (b.toNat : Int)
theorem bytesS_len (s : ByteArray) : (bytesS s).length = s.size := by
  rw [bytesS, List.length_map, Array.length_toList]
  rfl
theorem bytesS_cells (s : ByteArray) : (bytesS s).map (Value.int .u8) = strCells s := by simp [bytesS, strCells]
theorem bytesS_str (s : ByteArray) : strOfNums (bytesS s) = s := by
  have : (strOfNums (bytesS s)).data = s.data := by
    apply Array.toList_inj.1
    rw [strOfNums_data, bytesS, List.map_map]
    conv => rhs; rw [← List.map_id s.data.toList]
    apply List.map_congr_left
    intro b _
    simp
  exact ByteArray.ext this

theorem append_str_loc (w : World) (ty : TypeId) (base : Nat) (v : Value) (n : Nat) (xs : List Value) (hown : w.ownsRow base 5 1 v n xs) (s : ByteArray) (hs : 0 < s.size) (hb : n + s.size ≤ 140737488355328) (hbase : base ≤ w.heap.size) :
    ∃ v' w', (Builtin.append_ #[71, 9] ty #[v, .string s]).run Tryz.prog w = .ok v' w' ∧ w'.ownsRow base 5 1 v' (n + s.size) (xs ++ strCells s) ∧ w.grownBy w' v.ownBlock ∧ (v'.ownBlock = v.ownBlock ∨ v'.ownBlock = some w.heap.size) := by
  obtain ⟨i0, hi, hz0, hz1, hz2⟩ := info_parts info5
  obtain ⟨v', w', hr, h2, h3, _⟩ := Lib.run_append_own_string (P := Tryz.prog) w base 71 9 ty 5 i0 Tryz.underlying71 Tryz.underlying9 hi hz0 hz1 hz2 v n xs hown s (by unfold maxLen; omega) hb hbase
  refine ⟨v', w', hr, h2, h3, ?_⟩
  rcases hown.2 with ⟨rfl, rfl⟩ | ⟨g, cap, cur, rfl, hbg, hg, hnc, hcm, hcs, htake⟩
  · have hr' := run_append_nil_string (P := Tryz.prog) w 71 9 ty 5 i0 (.int .u8 0) Tryz.underlying71 Tryz.underlying9 hi hz0 s (by omega) (by omega) (by rw [hz2]; omega)
    rw [hr] at hr'
    cases hr'
    right; rfl
  · by_cases hroom : n + s.size ≤ cap
    · have hcs' : cur.size = cap := by simpa using hcs
      have hr' := Lib.run_append_room_string (P := Tryz.prog) w 71 9 ty 5 i0 Tryz.underlying71 Tryz.underlying9 hi hz1 g n cap cur hg s hroom (by omega)
      rw [hr] at hr'
      cases hr'
      left; rfl
    · have holds : ∀ j u, xs[j]? = some u → w.cell? ((⟨g, 0, none⟩ : Addr).add j) = some u := hown.cells (g := g) rfl
      have hr' := Lib.run_append_grow_string (P := Tryz.prog) w 71 9 ty 5 i0 (.int .u8 0) Tryz.underlying71 Tryz.underlying9 hi hz0 ⟨g, 0, none⟩ n cap xs (by rw [hz1]; simpa using hown.1) holds s (by omega) (by omega) (by rw [hz2]; exact growslice_fits (by omega) (by omega))
      rw [hr] at hr'
      cases hr'
      right; rfl

/-- A frame is added to the journal. -/
theorem LedAt.journal {w w1 : World} {p : Adr} {S : Led} (h : LedAt w p S) {s : ByteArray} {v' : Value} (hown : w1.ownsRow 0 5 1 v' (S.J.length + s.size) (S.J.map (Value.int .u8) ++ strCells s)) (hg : w.grownBy w1 p.jv.ownBlock) (hl : v'.ownBlock = p.jv.ownBlock ∨ v'.ownBlock = some w.heap.size) :
    LedAt (w1.setCell ⟨p.a, 162, none⟩ v') { p with jv := v' } { S with J := S.J ++ bytesS s } ∧ Turned p.foot w (w1.setCell ⟨p.a, 162, none⟩ v') ∧ (∀ k, ({ p with jv := v' } : Adr).foot k → p.foot k ∨ w.heap.size ≤ k) := by
  have hal := h.a_lt
  have hj := fun k hk => h.j_ne (k := k) hk
  have hkeep : ∀ k, k < w.heap.size → p.jv.ownBlock ≠ some k → w1.heap[k]? = w.heap[k]? := fun k hk hn => hg.block k hk (fun e => hn e.symm)
  have ea : w1.heap[p.a]? = w.heap[p.a]? := hkeep _ hal (fun e => (hj _ e).1 rfl)
  have hap : ∀ k, v'.ownBlock = some k → k ≠ p.a ∧ k ≠ p.bk := fun k hk => by
    rcases hl with e | e
    · rw [e] at hk; exact h.apart k hk
    · rw [e] at hk; cases hk
      exact ⟨by omega, by have := h.book.bk_lt; omega⟩
  have c0 : w1.cell? ⟨p.a, 0, none⟩ = some (.int .i64 S.now) := (World.cell?_of_block (a := ⟨p.a, 0, none⟩) ea).trans h.c0
  have cb : w1.cell? ⟨p.a, 81, none⟩ = some (.pointer (some ⟨p.bk, 0, none⟩)) := (World.cell?_of_block (a := ⟨p.a, 81, none⟩) ea).trans h.cb
  have cj : w1.cell? ⟨p.a, 162, none⟩ = some p.jv := (World.cell?_of_block (a := ⟨p.a, 162, none⟩) ea).trans h.cj
  have hB : BookAt w1 p.bk p.mo p.mc S.H := h.book.same (hkeep _ h.book.bk_lt (fun e => (hj _ e).2.1 rfl)) (hkeep _ h.book.mo_lt (fun e => (hj _ e).2.2.1 rfl)) (hkeep _ h.book.mc_lt (fun e => (hj _ e).2.2.2.1 rfl))
  obtain ⟨n1, n2, n3⟩ := h.a_ne
  refine ⟨⟨?_, nums_other (h.goods.same ea) (by omega) _, ?_, nums_other (h.last.same ea) (by omega) _, World.cell?_setCell_same _ _ _ cj, fun j => ?_, hB.same (Below.heap_setCell _ _ _ _ n1.symm) (Below.heap_setCell _ _ _ _ n2.symm) (Below.heap_setCell _ _ _ _ n3.symm), ?_, hap⟩, ?_, ?_⟩
  · rw [World.cell?_setCell_other _ _ _ _ (off_ne (by omega))]; exact c0
  · rw [World.cell?_setCell_other _ _ _ _ (off_ne (by omega))]; exact cb
  · rw [World.frozen?_setCell]; exact (World.frozen?_of_block (a := ⟨p.a, j, none⟩) ea).trans (h.free j)
  · have e1 : (S.J ++ bytesS s).length = S.J.length + s.size := by rw [List.length_append, bytesS_len]
    have e2 : (S.J ++ bytesS s).map (Value.int .u8) = S.J.map (Value.int .u8) ++ strCells s := by rw [List.map_append, bytesS_cells]
    show (w1.setCell ⟨p.a, 162, none⟩ v').ownsRow 0 5 1 v' (S.J ++ bytesS s).length ((S.J ++ bytesS s).map (Value.int .u8))
    rw [e1, e2]
    exact own_same hown (fun k hk => Below.heap_setCell _ _ _ _ (hap k hk).1)
  · refine (Turned.ofGrown hg (fun k e => Or.inl ?_)).setCell (Or.inl (Or.inl rfl)) _
    exact Or.inr (Or.inr (Or.inr (Or.inr e)))
  · rintro k (e | e | e | e | e)
    · exact Or.inl (Or.inl e)
    · exact Or.inl (Or.inr (Or.inl e))
    · exact Or.inl (Or.inr (Or.inr (Or.inl e)))
    · exact Or.inl (Or.inr (Or.inr (Or.inr (Or.inl e))))
    · rcases hl with e' | e'
      · exact Or.inl (Or.inr (Or.inr (Or.inr (Or.inr (e' ▸ e)))))
      · right
        have : some k = some w.heap.size := e.symm.trans e'
        cases this
        exact Nat.le_refl _

/-- The last answers have moved on. -/
theorem LedAt.push {w w' : World} {p : Adr} {S : Led} (h : LedAt w p S) {R : Nat → Int} (hp : Pushed w w' p.a 82 S.A R) : LedAt w' p { S with A := pushA S.A R } ∧ Turned p.foot w w' := by
  have hj := fun k hk => h.j_ne (k := k) hk
  obtain ⟨n1, n2, n3⟩ := h.a_ne
  have hk : ∀ k, k < w.heap.size → k ≠ p.a → w'.heap[k]? = w.heap[k]? := fun k hk hn => hp.turned.block k hk hn
  refine ⟨⟨(hp.cells 0 (by omega)).trans h.c0, fun k hk => (hp.cells (1 + k) (by omega)).trans (h.goods k hk), (hp.cells 81 (by omega)).trans h.cb, hp.nums, (hp.cells 162 (by omega)).trans h.cj, hp.free, h.book.same (hk _ h.book.bk_lt n1.symm) (hk _ h.book.mo_lt n2.symm) (hk _ h.book.mc_lt n3.symm), own_same h.jour (fun k hk' => hk k (hj k hk').2.2.2.2 (hj k hk').1), h.apart⟩, hp.turned.mono (fun k _ e => Or.inl e)⟩

end Go.Proofs.YtdblmheoghhepaaGreatDoor
