/- Rows of commands that came in. -/
import Derived.Test.YtdblmheoghhepaaDoorKPairAll
import Derived.Test.YtdblmheoghhepaaDoorKRightAll
import Derived.Test.YtdblmheoghhepaaDoorKPick
namespace Go.Proofs.YtdblmheoghhepaaDoor
open Go.RowKit

/-- From a place of a block on lie the commands L, eight cells each. -/
def CmdsAt (w : World) (g o : Nat) (L : List (Nat → Int)) : Prop := g < w.heap.size ∧ ∀ k h, L[k]? = some h → ∀ j, j < 8 → w.cell? ⟨g, o + k * 8 + j, none⟩ = some (.int .i64 (h j))
/-- A slice of commands. -/
def RawIs (w : World) (x : Option Addr) (L : List (Nat → Int)) : Prop := (∀ h ∈ L, Bd h) ∧ (L = [] ∨ ∃ g o, x = some ⟨g, o, none⟩ ∧ CmdsAt w g o L)
theorem RawIs.below {w w' : World} {x : Option Addr} {L : List (Nat → Int)} {B : Nat} (h : RawIs w x L) (hb : Below B w w') (hB : w.heap.size ≤ B) : RawIs w' x L := by
  refine ⟨h.1, ?_⟩
  rcases h.2 with h2 | ⟨g, o, e, hg, h2⟩
  · exact Or.inl h2
  · exact Or.inr ⟨g, o, e, Nat.lt_of_lt_of_le hg hb.size, fun k c hk j hj => (hb.cell (p := ⟨g, o + k * 8 + j, none⟩) (Nat.lt_of_lt_of_le hg hB)).trans (h2 k c hk j hj)⟩
theorem RawIs.at {w : World} {x : Option Addr} {L : List (Nat → Int)} (h : RawIs w x L) {k : Nat} {f : Nat → Int} (hk : L[k]? = some f) : ∃ g o, x = some ⟨g, o, none⟩ ∧ g < w.heap.size ∧ Bd f ∧
    w.cell? ⟨g, o + k * 8, none⟩ = some (.int .i64 (f 0)) ∧ w.cell? ⟨g, o + k * 8 + 1, none⟩ = some (.int .i64 (f 1)) ∧ w.cell? ⟨g, o + k * 8 + 1 + 1, none⟩ = some (.int .i64 (f 2)) ∧ w.cell? ⟨g, o + k * 8 + 1 + 1 + 1, none⟩ = some (.int .i64 (f 3)) ∧
    w.cell? ⟨g, o + k * 8 + 1 + 1 + 1 + 1, none⟩ = some (.int .i64 (f 4)) ∧ w.cell? ⟨g, o + k * 8 + 1 + 1 + 1 + 1 + 1, none⟩ = some (.int .i64 (f 5)) ∧ w.cell? ⟨g, o + k * 8 + 1 + 1 + 1 + 1 + 1 + 1, none⟩ = some (.int .i64 (f 6)) ∧ w.cell? ⟨g, o + k * 8 + 1 + 1 + 1 + 1 + 1 + 1 + 1, none⟩ = some (.int .i64 (f 7)) := by
  rcases h.2 with h2 | ⟨g, o, e, hg, h2⟩
  · rw [h2] at hk; simp at hk
  · exact ⟨g, o, e, hg, h.1 f (List.mem_of_getElem? hk), h2 k f hk 0 (by omega), h2 k f hk 1 (by omega), h2 k f hk 2 (by omega), h2 k f hk 3 (by omega), h2 k f hk 4 (by omega), h2 k f hk 5 (by omega), h2 k f hk 6 (by omega), h2 k f hk 7 (by omega)⟩

/-- 'command' at an Id that is below the bound. -/
theorem command_at (f : Nat → Int) (n : Nat) (w : World) (hf : Bd f) (hn : n ≤ 2000000) :
    Calls Tryd.prog 12 #[cmdV f, .int .i64 (n : Int)] w fun e w' => ∃ F, e = .returned (cmdV F) ∧ Hid (refOk F = true ∧ F 1 = (n : Int)) ∧ Below w.heap.size w w' := by
  refine (command_any f n w hf (by constructor <;> omega)).mono ?_
  rintro e w' ⟨F, rfl, h1, h2, h3⟩
  refine ⟨F, rfl, ⟨h1, ?_⟩, h2⟩
  rw [h3]
  unfold pk
  rw [if_neg (by omega)]
  omega

theorem Run.duo {w0 w : World} {p : Adr} {a b : Nat} {hv : Value} {S : Led} {n : Nat} (h : Run w0 w p a b hv S n) : Duo w p a b hv S := ⟨h.live.led, h.live.ok, h.pa, h.book, h.hok.day⟩

/-- 'opened' begins. -/
theorem opened_run (w : World) (hT : TabW w) : Calls Tryd.prog 16 #[] w fun e w' => ∃ (p : Adr) (a b : Nat), e = .returned (.pointer (some ⟨b, 0, none⟩)) ∧ Run w w' p a b (.slice none 0 0) S0 0 := by
  refine (opened_any w hT).mono ?_
  rintro e w' ⟨p, b, rfl, L, K, hb, hf⟩
  refine ⟨p, p.a, b, rfl, L, rfl, ?_, ?_, ?_, hok_nil _, fun i _ h => absurd rfl h, by show 0 ≤ _; omega⟩
  · exact K.congr (fun k _ => by unfold pofG; split <;> (try split) <;> rfl) rfl rfl
  · rintro k (rfl | hk)
    · exact hb
    · cases hk
  · rintro k (rfl | hk)
    · exact hf
    · cases hk

end Go.Proofs.YtdblmheoghhepaaDoor
