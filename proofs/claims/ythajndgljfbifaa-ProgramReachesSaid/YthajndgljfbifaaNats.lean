/-
  A list of numbers in memory, as words, bytes or ints.
-/
import Derived.Test.YthajndgljfbifaaMods
import Derived.WalkKit
import Derived.WalkSpells
import Derived.Lib.Hide
import Derived.Outline
import Derived.BigRegion
import Derived.Deep.QuietTactic
import Derived.BigQuiet
import Derived.Deep.RegionHeld3
import Derived.Deep.AppendLies
import Derived.WalkSmall
namespace Go.Proofs.Ythajndgljfbifaa
open Go.RowKit

/-- The numbers xs lie in memory from address a on (a slice of them); where there are none nothing is asked. -/
def NatsAt (k : IntKind) (w : World) (a : Option Addr) (xs : List Nat) : Prop :=
  xs = [] ∨ ∃ b off, a = some ⟨b, off, none⟩ ∧ ∀ i (h : i < xs.length), w.cell? ⟨b, off + i, none⟩ = some (.int k (xs[i] : Int))

theorem NatsAt.later {k : IntKind} {w w' : World} {a : Option Addr} {xs : List Nat} (h : NatsAt k w a xs) (hb : Below w.heap.size w w') : NatsAt k w' a xs := by
  rcases h with h | ⟨b, off, ha, h⟩
  · exact .inl h
  · exact .inr ⟨b, off, ha, fun i hi => cell_later hb (h i hi)⟩

theorem NatsAt.some {k : IntKind} {w : World} {a : Option Addr} {xs : List Nat} (h : NatsAt k w a xs) {j : Nat} (hj : j < xs.length) :
    ∃ b off, a = some ⟨b, off, none⟩ ∧ ∀ i (h : i < xs.length), w.cell? ⟨b, off + i, none⟩ = some (.int k (xs[i] : Int)) := by
  rcases h with rfl | h
  · simp at hj
  · exact h

/-- What the call owns reads as numbers. -/
theorem NatsAt.of_row {k : IntKind} {w : World} {base : Nat} {e : TypeId} {v : Value} {n : Nat} {xs : List Nat} (h : w.ownsRow base e 1 v n (xs.map fun x : Nat => Value.int k (x : Int))) :
    n = xs.length ∧ ∃ a cap, v = .slice a xs.length cap ∧ NatsAt k w a xs := by
  have hn : n = xs.length := by have := h.1; simp at this; omega
  subst hn
  refine ⟨rfl, ?_⟩
  rcases h.2 with ⟨hv, h0⟩ | ⟨g, cap, cur, hv, hrest⟩
  · have hx : xs = [] := by cases xs with | nil => rfl | cons x r => simp at h0
    subst hx
    exact ⟨none, 0, hv, Or.inl rfl⟩
  · refine ⟨Option.some ⟨g, 0, none⟩, cap, hv, Or.inr ⟨g, 0, rfl, fun i hi => ?_⟩⟩
    subst hv
    have := h.cellAt i (by omega)
    rw [Nat.zero_add, this, List.getElem?_map, List.getElem?_eq_getElem hi]
    rfl

end Go.Proofs.Ythajndgljfbifaa
