/-
  Texts' numbers and labels: the document's number and label.
-/
import Derived.Test.YthajndgljfbifaaDoorDoor
import Derived.PlainAid
namespace Go.Proofs.YthajndgljfbifaaDoor
open Go.RowKit Go.PlainAid
set_option maxRecDepth 100000

/-- A decimal digit. -/
def digB (v : Int) : Prop := 48 ≤ v ∧ v ≤ 57
instance (v : Int) : Decidable (digB v) := by unfold digB; infer_instance

/-- The value of the first k digits, at most 65536. -/
def numTo (s : ByteArray) : Nat → Int
  | 0 => 0
  | k + 1 => min (numTo s k * 10 + (bt s k - 48)) 65536

theorem numTo_le (s : ByteArray) : ∀ k, (∀ j < k, digB (bt s j)) → 0 ≤ numTo s k ∧ numTo s k ≤ 65536
  | 0, _ => by simp [numTo]
  | k + 1, h => by
    have h1 := numTo_le s k (fun j hj => h j (by omega))
    have h2 := h k (by omega)
    unfold digB at h2
    unfold numTo
    omega

/-- The number that a text is; -1: none; 65536: too large. -/
def numB (s : ByteArray) : Int := if s.size = 0 ∨ (1 < s.size ∧ bt s 0 = 48) then -1 else if ∀ k < s.size, digB (bt s k) then numTo s s.size else -1

/-- A byte that a label may have at k. -/
def labC (k : Nat) (v : Int) : Prop := (97 ≤ v ∧ v ≤ 122) ∨ (k ≠ 0 ∧ digB v)
instance (k : Nat) (v : Int) : Decidable (labC k v) := by unfold labC; infer_instance

/-- Whether a text is a label. -/
def labB (s : ByteArray) : Bool := decide ((1 ≤ s.size ∧ s.size ≤ 8) ∧ ∀ k < s.size, labC k (bt s k))

end Go.Proofs.YthajndgljfbifaaDoor
