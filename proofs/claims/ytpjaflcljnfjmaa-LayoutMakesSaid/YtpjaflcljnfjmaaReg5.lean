/-
  Contracts: placesOfPage, Page and the document's own Page.
-/
import Derived.Test.YtpjaflcljnfjmaaReg1
import Derived.Test.YtpjaflcljnfjmaaPlaces
namespace Go.Proofs.Ytpjaflcljnfjmaa
open Go.RowKit
/-- Page i. -/
def pageO (s : List Nat) (i : Int) : Option (Nat × Nat × Nat) := if 0 ≤ i then pageF 0 s i.toNat else none

/-- What Page answers: the places, the error. -/
def pagePl (s : List Nat) (i : Int) : List (Nat × Nat) := match pageO s i with | some x => placesOf x | none => []
def pageE (s : List Nat) (i : Int) : Int := match pageO s i with | some _ => 0 | none => 6

theorem page_some {s : List Nat} {i : Int} {x : Nat × Nat × Nat} (h : pageO s i = some x) : pagePl s i = placesOf x ∧ pageE s i = 0 := by
  unfold pagePl pageE; rw [h]; exact ⟨rfl, rfl⟩

theorem page_none {s : List Nat} {i : Int} (h : pageO s i = none) : pagePl s i = [] ∧ pageE s i = 6 := by
  unfold pagePl pageE; rw [h]; exact ⟨rfl, rfl⟩

theorem pageO_neg {s : List Nat} {i : Int} (h : i < 0) : pageO s i = none := by unfold pageO; rw [if_neg (by omega)]
theorem pageO_nat (s : List Nat) (n : Nat) : pageO s (n : Int) = pageF 0 s n := by unfold pageO; rw [if_pos (by omega), Int.toNat_natCast]

/-- The call returns the places of a page in new memory, or none and the error. -/
def GivesPage (s : List Nat) (i : Int) (w : World) (e : Ending) (w' : World) : Prop :=
  ∃ a cap, e = .returned (.tuple #[.slice a (pagePl s i).length cap, .int .i64 (pageE s i)]) ∧ PlacesAt w' a (pagePl s i) ∧ Below w.heap.size w w'

theorem gives_none {s : List Nat} {i : Int} {w w' : World} (h : pageO s i = none) (hb : Below w.heap.size w w') : GivesPage s i w (.returned (.tuple #[.slice none 0 0, .int .i64 6])) w' := by
  obtain ⟨e1, e2⟩ := page_none h
  refine ⟨none, 0, ?_, ?_, hb⟩
  · rw [e1, e2]; rfl
  · rw [e1]; exact .inl rfl

theorem gives_some {s : List Nat} {i : Int} {w w' : World} {x : Nat × Nat × Nat} {a : Option Addr} {cap : Nat} (h : pageO s i = some x) (hp : PlacesAt w' a (placesOf x)) (hb : Below w.heap.size w w') :
    GivesPage s i w (.returned (.tuple #[.slice a (placesOf x).length cap, .int .i64 0])) w' := by
  obtain ⟨e1, e2⟩ := page_some h
  refine ⟨a, cap, ?_, ?_, hb⟩
  · rw [e1, e2]
  · rw [e1]; exact hp

theorem rows_snoc (r f j : Nat) : flatP ((List.range j).map (fun j => (r, f + j))) ++ [.int .i64 (r : Int), .int .i64 ((f + j : Nat) : Int)] = flatP ((List.range (j + 1)).map (fun j => (r, f + j))) := by
  rw [List.range_succ, List.map_append, flatP_append]; rfl

end Go.Proofs.Ytpjaflcljnfjmaa
