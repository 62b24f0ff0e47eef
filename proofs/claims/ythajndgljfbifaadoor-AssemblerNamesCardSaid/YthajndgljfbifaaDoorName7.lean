/-
  The names of the operations: the document's Name.
-/
import Derived.Test.YthajndgljfbifaaDoorDoor
namespace Go.Proofs.YthajndgljfbifaaDoor
open Go.RowKit
set_option maxRecDepth 100000

def namesB : ByteArray := ⟨#[110, 111, 112, 32, 108, 105, 32, 109, 111, 118, 32, 97, 100, 100, 32, 115, 117, 98, 32, 109, 117, 108, 32, 100, 105, 118, 32, 114, 101, 109, 32, 97, 110, 100, 32, 111, 114, 32, 120, 111, 114, 32, 115, 104, 108, 32, 115, 104, 114, 32, 108, 116, 32, 101, 113, 32, 108, 101, 97, 32, 108, 100, 32, 115, 116, 32, 106, 109, 112, 32, 106, 122, 32, 106, 110, 122, 32, 106, 97, 108, 32, 106, 114, 32, 115, 121, 115, 32, 114, 116, 105]⟩

def nameL : List ByteArray := [⟨#[110, 111, 112]⟩,
  ⟨#[108, 105]⟩,
  ⟨#[109, 111, 118]⟩,
  ⟨#[97, 100, 100]⟩,
  ⟨#[115, 117, 98]⟩,
  ⟨#[109, 117, 108]⟩,
  ⟨#[100, 105, 118]⟩,
  ⟨#[114, 101, 109]⟩,
  ⟨#[97, 110, 100]⟩,
  ⟨#[111, 114]⟩,
  ⟨#[120, 111, 114]⟩,
  ⟨#[115, 104, 108]⟩,
  ⟨#[115, 104, 114]⟩,
  ⟨#[108, 116]⟩,
  ⟨#[101, 113]⟩,
  ⟨#[108, 101, 97]⟩,
  ⟨#[108, 100]⟩,
  ⟨#[115, 116]⟩,
  ⟨#[106, 109, 112]⟩,
  ⟨#[106, 122]⟩,
  ⟨#[106, 110, 122]⟩,
  ⟨#[106, 97, 108]⟩,
  ⟨#[106, 114]⟩,
  ⟨#[115, 121, 115]⟩,
  ⟨#[114, 116, 105]⟩]

theorem split_names : Lib.splitB ⟨#[32]⟩ 0 (Lib.countB namesB ⟨#[32]⟩) namesB = nameL := by kernel_rfl

/-- The name of an operation. -/
def nameB (op : Int) : ByteArray := if 0 ≤ op ∧ op < 25 then nameL.getD op.toNat ⟨#[]⟩ else ⟨#[]⟩

theorem lib_Split_names (w : World) (h : Tabs w) : Calls Tryd.prog 8 #[.string namesB, .string ⟨#[32]⟩] w (GivesStrs nameL w) := by
  have := lib_Split namesB ⟨#[32]⟩ w h (by decide) (by decide) (by kernel_rfl)
  rwa [split_names] at this

theorem name_at {w : World} {k : Nat} (hk : k < 25) : (w.alloc (.cells (nameL.map Value.string).toArray 9)).cell? ⟨w.heap.size, k, none⟩ = some (.string (nameL.getD k ⟨#[]⟩)) := by
  rw [World.cell?_alloc_at _ _ _ _ rfl]
  have hl : k < nameL.length := hk
  simp [List.getD, List.getElem?_eq_getElem hl]

end Go.Proofs.YthajndgljfbifaaDoor
