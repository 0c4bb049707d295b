/- 'awake': a ledger that takes stock and a share, promises, and tells so. -/
import Derived.Test.YtdblmheoghhepaaGreatDoorKDoAll
import Derived.Test.YtdblmheoghhepaaGreatDoorKNew
import Derived.Test.YtdblmheoghhepaaGreatDoorKAsk
namespace Go.Proofs.YtdblmheoghhepaaGreatDoor
open Go.RowKit

/-- A ledger that was made behind the world w0. -/
structure Live (w0 w : World) (p : Adr) (S : Led) : Prop where
  led : LedAt w p S
  tab : TabW w
  ok : LOk S
  foot : ∀ k, p.foot k → w0.heap.size ≤ k
  below : Below w0.heap.size w0 w
  pos : 0 < w0.heap.size

theorem Live.mk' {w0 w w' : World} {p : Adr} {S : Led} (h : Live w0 w p S) (hb : Below w.heap.size w w') : Live w0 w' p S :=
  ⟨h.led.below hb, h.tab.below hb h.tab.pos, h.ok, h.foot, h.below.trans (hb.mono h.below.size), h.pos⟩

theorem live_new {w w' : World} {p : Adr} (hT : TabW w) (hL : LedAt w' p S0) (hf : ∀ k, p.foot k → w.heap.size ≤ k) (hb : Below w.heap.size w w') : Live w w' p S0 :=
  ⟨hL, hT.below hb hT.pos, lok_S0, hf, hb, hT.pos⟩

theorem do_live (w0 : World) (p : Adr) (S : Led) (a0 a1 a2 a3 a4 a5 a6 a7 : Int) (w : World) (h : Live w0 w p S) (hJ : S.J.length ≤ 140737488355000) :
    Calls Tryz.prog 29 #[.pointer (some ⟨p.a, 0, none⟩), cv a0 a1 a2 a3 a4 a5 a6 a7] w fun e w' => e = .returned (ansV (doD S (eight a0 a1 a2 a3 a4 a5 a6 a7)).E (doD S (eight a0 a1 a2 a3 a4 a5 a6 a7)).N) ∧ ∃ p' : Adr, p'.a = p.a ∧ Live w0 w' p' (doD S (eight a0 a1 a2 a3 a4 a5 a6 a7)).S := by
  refine (do_any p S (eight a0 a1 a2 a3 a4 a5 a6 a7) w h.tab h.led h.ok hJ).mono ?_
  rintro e w' ⟨p', rfl, hL, hT, hF, ha⟩
  have hb : Below w0.heap.size w w' := ⟨hT.os, hT.tape, hT.output, hT.size, fun k hk => hT.block k (Nat.lt_of_lt_of_le hk h.below.size) (fun e => by have := h.foot k e; omega)⟩
  exact ⟨rfl, p', ha, hL, h.tab.turned hT (fun e => by have := h.foot 0 e; have := h.pos; omega), lok_do h.ok _, fun k hk => by
    rcases hF k hk with h1 | h1
    · exact h.foot k h1
    · have := h.below.size; omega, h.below.trans hb, h.pos⟩

def A1 : Led := (doD S0 (eight 1 1 2 0 0 9 0 0)).S
def A2 : Led := (doD A1 (eight 3 2 2 1 0 6 0 0)).S
def A3 : Led := (doD A2 (eight 4 3 2 1 4 5 0 10)).S
theorem aw1 : (doD S0 (eight 1 1 2 0 0 9 0 0)).E = 0 ∧ (doD S0 (eight 1 1 2 0 0 9 0 0)).N = 0 := by constructor <;> kernel_rfl
theorem aw2 : (doD A1 (eight 3 2 2 1 0 6 0 0)).E = 0 ∧ (doD A1 (eight 3 2 2 1 0 6 0 0)).N = 0 := by constructor <;> kernel_rfl
theorem aw3 : (doD A2 (eight 4 3 2 1 4 5 0 10)).E = 0 ∧ (doD A2 (eight 4 3 2 1 4 5 0 10)).N = 1 := by constructor <;> kernel_rfl
theorem aw4 : atpS A3 2 0 = 4 := by kernel_rfl
theorem aw5 : freeS A3 2 1 = 1 := by kernel_rfl
theorem aw6 : (cutL A3.H 0 9).length = 1 := by kernel_rfl
theorem aw7 : ∃ x, (cutL A3.H 0 9)[0]? = some x ∧ x 0 = 1 ∧ x 1 = 2 ∧ x 2 = 1 ∧ x 3 = 4 ∧ x 4 = 5 ∧ x 5 = 0 ∧ x 6 = 10 ∧ x 7 = 1 := by
  refine ⟨asOpen (eight 0 2 1 4 5 0 10 0) 1, ?_, rfl, rfl, rfl, rfl, rfl, rfl, rfl, rfl⟩
  kernel_rfl

end Go.Proofs.YtdblmheoghhepaaGreatDoor
