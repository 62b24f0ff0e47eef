/-
  Contracts of the functions on lists of cells: cellDistance, Distance, Same and the document's own Distance, Same.
-/
import Derived.Test.YthajndgljfbifaaWords
import Derived.Test.YthajndgljfbifaaCellMath
import Derived.WalkKit
import Derived.WalkSpells
import Derived.Lib.Hide
import Derived.Outline
import Derived.Deep.RegionHeld3
import Derived.Deep.DeepFit
namespace Go.Proofs.Ythajndgljfbifaa
open Go.RowKit

/-- The cells xs lie in memory from address a on (a slice of them); where there are none nothing is asked. -/
def CellsAt (w : World) (a : Option Addr) (xs : List (Nat × Nat)) : Prop :=
  xs = [] ∨ ∃ b off, a = some ⟨b, off, none⟩ ∧ ∀ i (h : i < xs.length), w.cell? ⟨b, off + i * 2, none⟩ = some (.int .u8 (xs[i].1 : Int)) ∧ w.cell? ⟨b, off + i * 2 + 1, none⟩ = some (.int .u16 (xs[i].2 : Int))

theorem CellsAt.later {w w' : World} {a : Option Addr} {xs : List (Nat × Nat)} (h : CellsAt w a xs) (hb : Below w.heap.size w w') : CellsAt w' a xs := by
  rcases h with h | ⟨b, off, ha, h⟩
  · exact .inl h
  · exact .inr ⟨b, off, ha, fun i hi => ⟨cell_later hb (h i hi).1, cell_later hb (h i hi).2⟩⟩

theorem CellsAt.some {w : World} {a : Option Addr} {xs : List (Nat × Nat)} (h : CellsAt w a xs) {k : Nat} (hk : k < xs.length) :
    ∃ b off, a = some ⟨b, off, none⟩ ∧ ∀ i (h : i < xs.length), w.cell? ⟨b, off + i * 2, none⟩ = some (.int .u8 (xs[i].1 : Int)) ∧ w.cell? ⟨b, off + i * 2 + 1, none⟩ = some (.int .u16 (xs[i].2 : Int)) := by
  rcases h with rfl | h
  · simp at hk
  · exact h

theorem CellsAt.new1 (w : World) (t v : Nat) (T : TypeId) : CellsAt (w.alloc (.cells #[.int .u8 (t : Int), .int .u16 (v : Int)] T)) (Option.some ⟨w.heap.size, 0, none⟩) [(t, v)] := by
  refine .inr ⟨w.heap.size, 0, rfl, fun i h => ?_⟩
  obtain rfl : i = 0 := by simpa using h
  refine ⟨?_, ?_⟩
  · rw [World.cell?_alloc_at _ _ _ _ rfl]; rfl
  · rw [World.cell?_alloc_at _ _ _ _ rfl]; rfl

end Go.Proofs.Ythajndgljfbifaa
