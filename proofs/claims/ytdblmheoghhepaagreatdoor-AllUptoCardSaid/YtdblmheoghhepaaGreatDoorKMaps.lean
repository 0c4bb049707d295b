/- Maps from numbers to holds: what a look-up, a store, a delete, 'len' and a range do. -/
import Derived.Test.YtdblmheoghhepaaGreatDoorKBase
import Derived.Maps.RangeWalk
namespace Go.Proofs.YtdblmheoghhepaaGreatDoor
open Go.RowKit
open Go.Maps (Keyed)

abbrev I64 (n : Int) : Prop := -9223372036854775808 ≤ n ∧ n ≤ 9223372036854775807
abbrev zeroH : Nat → Int := fun _ => 0
def litD (n : Int) : DataW Unit := .lit (.int .i64 n)
def holdD (h : Nat → Int) : DataW Unit := .agg [litD (h 0), litD (h 1), litD (h 2), litD (h 3), litD (h 4), litD (h 5), litD (h 6), litD (h 7)]

/-- How a hold reads. -/
def holdElem : Value → Option (DataW Unit × List MemPlace)
  | .agg cs => match cs.toList with
    | [.int .i64 a0, .int .i64 a1, .int .i64 a2, .int .i64 a3, .int .i64 a4, .int .i64 a5, .int .i64 a6, .int .i64 a7] => some (.agg [litD a0, litD a1, litD a2, litD a3, litD a4, litD a5, litD a6, litD a7], [])
    | _ => none
  | _ => none
theorem holdElem_mk (h : Nat → Int) : holdElem (cmdV h) = some (holdD h, []) := rfl
def eight (a0 a1 a2 a3 a4 a5 a6 a7 : Int) : Nat → Int
  | 0 => a0 | 1 => a1 | 2 => a2 | 3 => a3 | 4 => a4 | 5 => a5 | 6 => a6 | _ => a7
theorem holdElem_inv {v : Value} {z : DataW Unit × List MemPlace} (e : holdElem v = some z) : ∃ h, v = cmdV h ∧ z = (holdD h, []) := by
  unfold holdElem at e
  split at e
  · split at e
    · rename_i cs x a0 a1 a2 a3 a4 a5 a6 a7 hcs
      refine ⟨eight a0 a1 a2 a3 a4 a5 a6 a7, ?_, (Option.some.inj e).symm⟩
      have : cs = #[.int .i64 a0, .int .i64 a1, .int .i64 a2, .int .i64 a3, .int .i64 a4, .int .i64 a5, .int .i64 a6, .int .i64 a7] := Array.toList_inj.1 hcs
      rw [this]
      rfl
    · cases e
  · cases e
theorem cmdV_of_holdD {h g : Nat → Int} (e : holdD h = holdD g) : cmdV h = cmdV g := by
  simp only [holdD, litD, DataW.agg.injEq, List.cons.injEq, DataW.lit.injEq, Lit.int.injEq, true_and, and_true] at e
  obtain ⟨e0, e1, e2, e3, e4, e5, e6, e7⟩ := e
  simp only [cmdV, e0, e1, e2, e3, e4, e5, e6, e7]

theorem K3 : Keyed Tryz.prog 3 := Maps.int_keyed Tryz.underlying3
theorem zero64 (w : World) : (zeroValue 57).run Tryz.prog w = .ok (cmdV zeroH) w := by kernel_rfl
theorem wf64 {k : Int} (h : I64 k) : (Lit.int .i64 k).wf = true := WalkArith.wf_i64 (by omega)
theorem i64_of_wf {k : Int} (h : (Lit.int .i64 k).wf = true) : I64 k := by
  simp [Lit.wf, IntKind.min, IntKind.max, IntKind.signed, IntKind.bits] at h
  omega
theorem keyI3 {k : Int} (h : I64 k) : keyOf Tryz.prog 3 (.int .i64 k) = some (.int .i64 k) := Maps.keyOf_int_mk Tryz.underlying3 (wf64 h)

/-- The datum of a map holds just what M says. -/
def MapD (D : DataW Unit) (M : Int → Option (Nat → Int)) : Prop :=
  ∀ k, I64 k → (M k = none → Maps.has D (.int .i64 k) = false) ∧ ∀ h, M k = some h → Maps.has D (.int .i64 k) = true ∧ ∀ z, D.atKey (.int .i64 k) z = holdD h

/-- Block b is a map of n entries: just those that M says. -/
def MapIs (w : World) (b : Nat) (M : Int → Option (Nat → Int)) (n : Nat) : Prop :=
  ∃ D : DataW Unit, w.ownsMap Tryz.prog 3 holdElem b n D ∧ Maps.size D = n ∧ MapD D M

theorem own_tight {w : World} {b n : Nat} {D : DataW Unit} (h : w.ownsMap Tryz.prog 3 holdElem b n D) : w.ownsMap Tryz.prog 3 holdElem b (Maps.size D) D := by
  obtain ⟨es, clock, hb, F, _, rfl⟩ := h
  exact ⟨es, clock, hb, F, by simp [Maps.size, length_sorted], rfl⟩

theorem MapIs.kept {w w' : World} {b n : Nat} {M : Int → Option (Nat → Int)} {row : Option Nat} (h : MapIs w b M n) (hg : w.grownBy w' row) (hne : some b ≠ row) : MapIs w' b M n := by
  obtain ⟨D, h1, h2⟩ := h
  exact ⟨D, h1.kept hg hne, h2⟩
theorem MapIs.lt {w : World} {b n : Nat} {M : Int → Option (Nat → Int)} (h : MapIs w b M n) : b < w.heap.size := by
  obtain ⟨D, h1, _⟩ := h
  exact h1.lt
theorem MapIs.block {w w' : World} {b n : Nat} {M : Int → Option (Nat → Int)} (h : MapIs w b M n) (hb : w'.heap[b]? = w.heap[b]?) : MapIs w' b M n := by
  obtain ⟨D, ⟨es, clock, h1, r⟩, h2⟩ := h
  exact ⟨D, ⟨es, clock, hb.trans h1, r⟩, h2⟩
theorem MapIs.congr {w : World} {b n : Nat} {M M' : Int → Option (Nat → Int)} (h : MapIs w b M n) (e : ∀ k, I64 k → M k = M' k) : MapIs w b M' n := by
  obtain ⟨D, h1, h2, h3⟩ := h
  exact ⟨D, h1, h2, fun k hk => e k hk ▸ h3 k hk⟩

theorem MapIs.made (w : World) : MapIs (w.alloc (.map #[] 0)) w.heap.size (fun _ => none) 0 :=
  ⟨.map [], World.ownsMap_made _ _ _ _, rfl, fun _ _ => ⟨fun _ => rfl, fun _ h => by cases h⟩⟩

/-- 'm[k]' where k is there. -/
theorem MapIs.look_some {w : World} {b n : Nat} {M : Int → Option (Nat → Int)} (hm : MapIs w b M n) {k : Int} (hk : I64 k) {h : Nat → Int} (hh : M k = some h) :
    (Instr.lookup 98 (.map (some b)) (.int .i64 k) true).run Tryz.prog w = .ok (.tuple #[cmdV h, .bool true]) w ∧ (Instr.lookup 98 (.map (some b)) (.int .i64 k) false).run Tryz.prog w = .ok (cmdV h) w := by
  obtain ⟨D, h1, _, h3⟩ := hm
  obtain ⟨e1, e2⟩ := (h3 k hk).2 h hh
  constructor
  · obtain ⟨v, ps, hr, hv⟩ := h1.look_ok (t := 98) (e := 57) K3 Tryz.underlying98 (zero64 w) (holdElem_mk zeroH) (keyI3 hk)
    obtain ⟨g, rfl, hg⟩ := holdElem_inv hv
    rw [hr, e1, cmdV_of_holdD (((congrArg Prod.fst hg).symm.trans (e2 _)))]
  · obtain ⟨v, ps, hr, hv⟩ := h1.lookup (t := 98) (e := 57) K3 Tryz.underlying98 (zero64 w) (holdElem_mk zeroH) (keyI3 hk)
    obtain ⟨g, rfl, hg⟩ := holdElem_inv hv
    rw [hr, cmdV_of_holdD (((congrArg Prod.fst hg).symm.trans (e2 _)))]
theorem MapIs.look_none {w : World} {b n : Nat} {M : Int → Option (Nat → Int)} (hm : MapIs w b M n) {k : Int} (hk : I64 k) (hh : M k = none) :
    (Instr.lookup 98 (.map (some b)) (.int .i64 k) true).run Tryz.prog w = .ok (.tuple #[cmdV zeroH, .bool false]) w ∧ (Instr.lookup 98 (.map (some b)) (.int .i64 k) false).run Tryz.prog w = .ok (cmdV zeroH) w := by
  obtain ⟨D, h1, _, h3⟩ := hm
  have e1 := (h3 k hk).1 hh
  have e2 := Maps.atKey_of_not_has e1
  constructor
  · obtain ⟨v, ps, hr, hv⟩ := h1.look_ok (t := 98) (e := 57) K3 Tryz.underlying98 (zero64 w) (holdElem_mk zeroH) (keyI3 hk)
    obtain ⟨g, rfl, hg⟩ := holdElem_inv hv
    rw [hr, e1, cmdV_of_holdD (((congrArg Prod.fst hg).symm.trans (e2 _)))]
  · obtain ⟨v, ps, hr, hv⟩ := h1.lookup (t := 98) (e := 57) K3 Tryz.underlying98 (zero64 w) (holdElem_mk zeroH) (keyI3 hk)
    obtain ⟨g, rfl, hg⟩ := holdElem_inv hv
    rw [hr, cmdV_of_holdD (((congrArg Prod.fst hg).symm.trans (e2 _)))]

def updM (M : Int → Option (Nat → Int)) (k : Int) (h : Nat → Int) : Int → Option (Nat → Int) := fun j => if j = k then some h else M j
def delM (M : Int → Option (Nat → Int)) (k : Int) : Int → Option (Nat → Int) := fun j => if j = k then none else M j

theorem lit_ne {j k : Int} (h : j ≠ k) : (Lit.int .i64 j) ≠ .int .i64 k := fun e => h (by cases e; rfl)

/-- A delete, seen also by whoever ranges over the map. -/
def RangeIs (w : World) (b r : Nat) (M : Int → Option (Nat → Int)) (n : Nat) (left : Int → Bool) (cnt : Nat) : Prop :=
  ∃ (D : DataW Unit) (l : Lit → Bool), w.ranges Tryz.prog 3 holdElem b r n D l cnt ∧ Maps.size D = n ∧ MapD D M ∧ ∀ k, I64 k → l (.int .i64 k) = left k

theorem ranges_tight {w : World} {b r n : Nat} {D : DataW Unit} {l : Lit → Bool} {cnt : Nat} (h : w.ranges Tryz.prog 3 holdElem b r n D l cnt) : w.ranges Tryz.prog 3 holdElem b r (Maps.size D) D l cnt := by
  obtain ⟨es, clock, since, seen, c0, hb, F, _, rfl, r⟩ := h
  exact ⟨es, clock, since, seen, c0, hb, F, by simp [Maps.size, length_sorted], rfl, r⟩

theorem mapD_del {D : DataW Unit} {M : Int → Option (Nat → Int)} (h : MapD D M) (k : Int) : MapD (D.del (.int .i64 k)) (delM M k) := by
  intro j hj
  unfold delM
  by_cases e : j = k
  · subst e
    rw [if_pos rfl]
    exact ⟨fun _ => Maps.has_del_same, fun _ h => by cases h⟩
  · rw [if_neg e, Maps.has_del_other (lit_ne e)]
    refine ⟨(h j hj).1, fun g hg => ⟨((h j hj).2 g hg).1, fun z => ?_⟩⟩
    rw [Maps.atKey_del_other (lit_ne e)]
    exact ((h j hj).2 g hg).2 z

theorem MapIs.drop {w : World} {b n : Nat} {M : Int → Option (Nat → Int)} (hm : MapIs w b M (n + 1)) {k : Int} (hk : I64 k) {h : Nat → Int} (hh : M k = some h) (ty : TypeId) :
    ∃ w', (Builtin.delete_ #[98, 3] ty #[.map (some b), .int .i64 k]).run Tryz.prog w = .ok (.tuple #[]) w' ∧ MapIs w' b (delM M k) n ∧ w.mapTurned w' b ∧
      ∀ r m left cnt, RangeIs w b r M m left cnt → ∃ cnt', cnt' ≤ cnt ∧ RangeIs w' b r (delM M k) n (fun z => left z && !(z == k)) cnt' := by
  obtain ⟨D, h1, h2, h3⟩ := hm
  obtain ⟨w', hr, ho, ht⟩ := h1.drop (t := 98) (e := 57) K3 Tryz.underlying98 (keyI3 hk) ty
  have hs : Maps.size (D.del (.int .i64 k)) = n := by
    have := Maps.size_del (k := .int .i64 k) (h1.tidy K3)
    rw [((h3 k hk).2 h hh).1, h2] at this
    simp only [if_true] at this
    omega
  have ho' := own_tight ho
  rw [hs] at ho'
  refine ⟨w', hr, ⟨_, ho', hs, mapD_del h3 k⟩, ht, ?_⟩
  rintro r m left cnt ⟨D', l, g1, g2, g3, g4⟩
  obtain ⟨w'', cnt', hr', gr, gc, _⟩ := g1.drop (t := 98) (e := 57) K3 Tryz.underlying98 (keyI3 hk) ty
  rw [hr] at hr'
  cases hr'
  have hs' : Maps.size (D'.del (.int .i64 k)) = n := by
    have a := g1.owns
    obtain ⟨es, clock, hb, F, q1, rfl⟩ := a
    obtain ⟨es2, clock2, hb2, F2, q2, rfl⟩ := h1
    rw [hb] at hb2
    cases hb2
    exact hs
  have gr' := ranges_tight gr
  rw [hs'] at gr'
  refine ⟨cnt', gc, _, _, gr', hs', mapD_del g3 k, fun z hz => ?_⟩
  rw [g4 z hz]
  by_cases e : z = k
  · subst e
    rw [WideAt.sameKey_self (K3.key (keyI3 hk))]
    simp
  · rw [Maps.sameKey_ne (lit_ne e)]
    simp [e]

theorem MapIs.store {w : World} {b n : Nat} {M : Int → Option (Nat → Int)} (hm : MapIs w b M n) {k : Int} (hk : I64 k) (hn : n < 1000) (hh : M k = none) (h : Nat → Int) :
    ∃ w', (Instr.mapUpdate 98 (.map (some b)) (.int .i64 k) (cmdV h)).run Tryz.prog w = .ok () w' ∧ MapIs w' b (updM M k h) (n + 1) ∧ w.mapTurned w' b := by
  obtain ⟨D, h1, h2, h3⟩ := hm
  obtain ⟨w', hr, ho, ht⟩ := h1.store (t := 98) (e := 57) K3 Tryz.underlying98 (by unfold maxLen; omega) (keyI3 hk) (holdElem_mk h)
  have hs : Maps.size (D.put (.int .i64 k) (holdD h)) = n + 1 := by
    rw [Maps.size_put (h1.tidy K3), (h3 k hk).1 hh, h2]
    simp
  have hkl := K3.key (keyI3 hk)
  refine ⟨w', hr, ⟨_, ho, hs, fun j hj => ?_⟩, ht⟩
  unfold updM
  by_cases e : j = k
  · subst e
    rw [if_pos rfl]
    refine ⟨fun h => (by cases h), fun g hg => ?_⟩
    cases hg
    exact ⟨Maps.has_put_same h1.isMap hkl _, fun z => Maps.atKey_put_same h1.isMap hkl _ z⟩
  · rw [if_neg e, Maps.has_put_other (lit_ne e)]
    refine ⟨(h3 j hj).1, fun g hg => ⟨((h3 j hj).2 g hg).1, fun z => ?_⟩⟩
    rw [Maps.atKey_put_other (lit_ne e)]
    exact ((h3 j hj).2 g hg).2 z

theorem MapIs.len {w : World} {b n : Nat} {M : Int → Option (Nat → Int)} (hm : MapIs w b M n) (ty : TypeId) : (Builtin.len_ #[98] ty #[.map (some b)]).run Tryz.prog w = .ok (.int .i64 (n : Int)) w := by
  obtain ⟨D, h1, h2, _⟩ := hm
  rw [← h2]
  exact h1.len Tryz.underlying98 ty

theorem RangeIs.isMap {w : World} {b r n cnt : Nat} {M : Int → Option (Nat → Int)} {left : Int → Bool} (h : RangeIs w b r M n left cnt) : MapIs w b M n := by
  obtain ⟨D, l, h1, h2, h3, _⟩ := h
  exact ⟨D, h1.owns, h2, h3⟩
theorem RangeIs.kept {w w' : World} {b r n cnt : Nat} {M : Int → Option (Nat → Int)} {left : Int → Bool} {row : Option Nat} (h : RangeIs w b r M n left cnt) (hg : w.grownBy w' row) (hb : some b ≠ row) (hr : some r ≠ row) : RangeIs w' b r M n left cnt := by
  obtain ⟨D, l, h1, h2⟩ := h
  exact ⟨D, l, h1.kept hg hb hr, h2⟩
theorem RangeIs.left_eq {w : World} {b r n cnt : Nat} {M : Int → Option (Nat → Int)} {left : Int → Bool} (h : RangeIs w b r M n left cnt) : w.rangeLeft b r = cnt := by
  obtain ⟨D, l, h1, _⟩ := h
  exact h1.left_eq
theorem RangeIs.iter {w : World} {b r n cnt : Nat} {M : Int → Option (Nat → Int)} {left : Int → Bool} (h : RangeIs w b r M n left cnt) : ∃ x y z u, w.heap[r]? = some (.mapIter x y z u) := by
  obtain ⟨D, l, ⟨es, clock, since, seen, c0, hb, F, q, e, hr, _⟩, _⟩ := h
  exact ⟨_, _, _, _, hr⟩
theorem MapIs.isMapBlock {w : World} {b n : Nat} {M : Int → Option (Nat → Int)} (h : MapIs w b M n) : ∃ x y, w.heap[b]? = some (.map x y) := by
  obtain ⟨D, ⟨es, clock, hb, _⟩, _⟩ := h
  exact ⟨_, _, hb⟩


theorem MapD.has {D : DataW Unit} {M : Int → Option (Nat → Int)} (h : MapD D M) {k : Int} (hk : I64 k) : Maps.has D (.int .i64 k) = (M k).isSome := by
  cases e : M k with
  | none => simpa using (h k hk).1 e
  | some g => simpa using ((h k hk).2 g e).1

section
variable (w : World) {ops : Array Oper} {rest : List Oper} {o : Oper} {a : Act} {Q : Exit → Act → World → Prop}

theorem wp_range (hg : o.guard = none) (m : Operand) (hop : o.op = Op.range 98 m) (b n : Nat) (M : Int → Option (Nat → Int)) (hm : a.eval m = .map (some b)) (h : MapIs w b M n)
    (hK : ∀ w', RangeIs w' b w.heap.size M n (fun k => (M k).isSome) n → w.grownBy w' none → w'.heap.size = w.heap.size + 1 → wpList Tryz.prog ops Q rest (a.put o.dst (.pointer (some ⟨w.heap.size, 0, none⟩))) w') :
    wpList Tryz.prog ops Q (o :: rest) a w := by
  obtain ⟨D, h1, h2, h3⟩ := h
  refine wpList_range_own w hg m 98 hop 3 57 K3 Tryz.underlying98 holdElem b n D hm h1 (fun w' hr hg' hs => ?_)
  rw [h2] at hr
  exact hK w' ⟨D, _, hr, h2, h3, fun k hk => h3.has hk⟩ hg' hs

theorem wp_next (hg : o.guard = none) (it : Operand) (hop : o.op = Op.next it false) (b r n : Nat) (M : Int → Option (Nat → Int)) (left : Int → Bool) (cnt : Nat)
    (hit : a.eval it = .pointer (some ⟨r, 0, none⟩)) (h : RangeIs w b r M n left cnt)
    (hDone : cnt = 0 → (∀ k, I64 k → left k = false) → wpList Tryz.prog ops Q rest (a.put o.dst (.tuple #[.bool false])) w)
    (hMore : ∀ (x : Int) (c : Nat → Int) (w' : World) (cnt' : Nat), I64 x → M x = some c → left x = true → RangeIs w' b r M n (fun z => left z && !(z == x)) cnt' → cnt' < cnt →
      w.grownBy w' (some r) → w'.heap.size = w.heap.size → (Instr.entry (.pointer (some ⟨r, 0, none⟩))).run Tryz.prog w' = .ok (.tuple #[.int .i64 x, cmdV c]) w' → wpList Tryz.prog ops Q rest (a.put o.dst (.tuple #[.bool true, .int .i64 x, cmdV c])) w') :
    wpList Tryz.prog ops Q (o :: rest) a w := by
  obtain ⟨D, l, h1, h2, h3, h4⟩ := h
  refine wpList_next_ranges w hg it hop 3 K3 holdElem (Value.int .i64) cmdV (fun key kl hkey => by obtain ⟨x, rfl, _⟩ := Maps.keyOf_int_inv Tryz.underlying3 hkey; exact ⟨x, rfl⟩) (fun v y hv => by obtain ⟨c, rfl, _⟩ := holdElem_inv hv; exact ⟨c, rfl⟩)
    b r n D l cnt hit h1 (fun h0 hl => hDone h0 fun k hk => by rw [← h4 k hk]; exact hl _) (fun x c kl y w' cnt' hkey hlk hv hat hrg hlt hgr hsz hen => ?_)
  obtain ⟨x', ex, rfl, hwx⟩ := Maps.keyOf_int_inv Tryz.underlying3 hkey
  cases ex
  have hx := i64_of_wf hwx
  have hhas := Maps.has_true_of_atKey hat
  rw [h3.has hx] at hhas
  obtain ⟨g, hg'⟩ := Option.isSome_iff_exists.1 hhas
  have e1 := ((h3 x hx).2 g hg').2 (.lit (.bool true))
  rw [hat] at e1
  rw [holdElem_mk] at hv
  have e2 : holdD c = holdD g := by
    have := congrArg Prod.fst (Option.some.inj hv)
    exact this.trans e1
  have e3 := cmdV_of_holdD e2
  rw [e3] at hen ⊢
  refine hMore x g w' cnt' hx hg' (by rw [← h4 x hx]; exact hlk) ⟨D, _, hrg, h2, h3, fun z hz => ?_⟩ hlt hgr hsz hen
  rw [h4 z hz]
  by_cases e : z = x
  · subst e
    rw [WideAt.sameKey_self (K3.key (keyI3 hx))]
    simp
  · rw [Maps.sameKey_ne (lit_ne e)]
    simp [e]

theorem wp_drop (hg : o.guard = none) (m x : Operand) (hop : o.op = Op.call { callee := Callee.builtin Builtin.delete, args := #[m, x], argTypes := #[98, 3] }) (b n : Nat) (M : Int → Option (Nat → Int)) (hm : a.eval m = .map (some b)) (h : MapIs w b M (n + 1))
    (k : Int) (hk : I64 k) (hx : a.eval x = .int .i64 k) (c : Nat → Int) (hc : M k = some c)
    (hK : ∀ w', MapIs w' b (delM M k) n → w.mapTurned w' b → (∀ r m left cnt, RangeIs w b r M m left cnt → ∃ cnt', cnt' ≤ cnt ∧ RangeIs w' b r (delM M k) n (fun z => left z && !(z == k)) cnt') → wpList Tryz.prog ops Q rest (a.put o.dst (.tuple #[])) w') :
    wpList Tryz.prog ops Q (o :: rest) a w := by
  refine wpList_plain hg fun K' hK' => ?_
  obtain ⟨w', hrun, r1, r2, r3⟩ := h.drop hk hc o.type
  unfold Oper.wp
  simp [execOp, hop, resolve, invoke, builtin, hm, hx, hrun, Result.andThen]
  exact hK' _ _ (hK w' r1 r2 r3)

theorem wp_store (hg : o.guard = none) (m x v : Operand) (hop : o.op = Op.mapUpdate 98 m x v) (b n : Nat) (M : Int → Option (Nat → Int)) (hm : a.eval m = .map (some b)) (h : MapIs w b M n) (hn : n < 1000)
    (k : Int) (hk : I64 k) (hx : a.eval x = .int .i64 k) (hc : M k = none) (c : Nat → Int) (hv : a.eval v = cmdV c)
    (hK : ∀ w', MapIs w' b (updM M k c) (n + 1) → w.mapTurned w' b → wpList Tryz.prog ops Q rest (a.put o.dst undef) w') :
    wpList Tryz.prog ops Q (o :: rest) a w := by
  refine wpList_plain hg fun K' hK' => ?_
  obtain ⟨w', hrun, r1, r2⟩ := h.store hk hn hc c
  unfold Oper.wp
  simp [execOp, hop, hm, hx, hv, hrun, Result.andThen]
  exact hK' _ _ (hK w' r1 r2)

theorem wp_look_some (c : Bool) (hg : o.guard = none) (m x : Operand) (hop : o.op = Op.lookup 98 m x c) (b n : Nat) (M : Int → Option (Nat → Int)) (hm : a.eval m = .map (some b)) (h : MapIs w b M n)
    (k : Int) (hk : I64 k) (hx : a.eval x = .int .i64 k) (f : Nat → Int) (hf : M k = some f)
    (hK : wpList Tryz.prog ops Q rest (a.put o.dst (if c then .tuple #[cmdV f, .bool true] else cmdV f)) w) :
    wpList Tryz.prog ops Q (o :: rest) a w := by
  refine wpList_plain hg fun K' hK' => ?_
  obtain ⟨e1, e2⟩ := h.look_some hk hf
  unfold Oper.wp
  cases c <;> simp [execOp, hop, hm, hx, e1, e2, Result.andThen] <;> exact hK' _ _ hK

theorem wp_look_none (c : Bool) (hg : o.guard = none) (m x : Operand) (hop : o.op = Op.lookup 98 m x c) (b n : Nat) (M : Int → Option (Nat → Int)) (hm : a.eval m = .map (some b)) (h : MapIs w b M n)
    (k : Int) (hk : I64 k) (hx : a.eval x = .int .i64 k) (hf : M k = none)
    (hK : wpList Tryz.prog ops Q rest (a.put o.dst (if c then .tuple #[cmdV zeroH, .bool false] else cmdV zeroH)) w) :
    wpList Tryz.prog ops Q (o :: rest) a w := by
  refine wpList_plain hg fun K' hK' => ?_
  obtain ⟨e1, e2⟩ := h.look_none hk hf
  unfold Oper.wp
  cases c <;> simp [execOp, hop, hm, hx, e1, e2, Result.andThen] <;> exact hK' _ _ hK

end

end Go.Proofs.YtdblmheoghhepaaGreatDoor
