/-
  Which instructions are valid: the document's Valid and Branch.
-/
import Derived.Test.YthajndgljfbifaaDoorIns
import Derived.Test.YthajndgljfbifaaDoorDeckIns
namespace Go.Proofs.YthajndgljfbifaaDoor
open Go.RowKit
set_option maxRecDepth 100000

/-- A field is a register, and 0 if it is not used. -/
def okF (u : Bool) (v : Int) : Bool := decide (0 ≤ v ∧ v < 8) && (u || decide (v = 0))

def fld (x : Ins) : Nat → Int
  | 0 => x.a
  | 1 => x.b
  | _ => x.c

def usF (op : Int) : Nat → Bool
  | 0 => usA op
  | 1 => usB op
  | 2 => usC op
  | _ => usI op

def opB (x : Ins) : Bool := decide (0 ≤ x.op ∧ x.op ≤ 24)
def immB (x : Ins) : Bool := decide (0 ≤ x.imm ∧ x.imm ≤ 65535) && (usI x.op || decide (x.imm = 0))
def tailB (x : Ins) : Bool := if jumpB x.op = true then decide (x.imm < 64) else if x.op = 15 then decide (x.imm < 4) else if x.op = 23 then decide (x.imm ≤ 15) else true

/-- Whether an instruction is valid. -/
def vinB (x : Ins) : Bool := opB x && ((okF (usF x.op 0) (fld x 0) && (okF (usF x.op 1) (fld x 1) && okF (usF x.op 2) (fld x 2))) && (immB x && tailB x))

theorem okF_iff (u : Bool) (v : Int) : okF u v = true ↔ (0 ≤ v ∧ v < 8) ∧ (u = false → v = 0) := by
  unfold okF
  cases u <;> simp

theorem vinB_iff (x : Ins) : vinB x = true ↔ InsIn 4 64 x := by
  unfold vinB InsIn opB immB tailB
  simp only [Bool.and_eq_true, okF_iff, decide_eq_true_eq, Bool.or_eq_true]
  have ht : (if jumpB x.op = true then decide (x.imm < 64) else if x.op = 15 then decide (x.imm < 4) else if x.op = 23 then decide (x.imm ≤ 15) else true) = true ↔ ((jumpB x.op = true → x.imm < 64) ∧ (x.op = 15 → x.imm < 4) ∧ (x.op = 23 → x.imm ≤ 15)) := by
    have hj : jumpB x.op = true ↔ (x.op = 18 ∨ x.op = 19 ∨ x.op = 20 ∨ x.op = 21) := by unfold jumpB; exact decide_eq_true_iff
    simp only [hj]
    split
    · rename_i h; simp; omega
    · split
      · rename_i h h2; simp; omega
      · split
        · rename_i h h2 h3; simp; omega
        · rename_i h h2 h3; simp; omega
  rw [ht]
  have hu : (usI x.op = true ∨ x.imm = 0) ↔ (usI x.op = false → x.imm = 0) := by cases usI x.op <;> simp
  rw [hu]
  simp only [fld, usF]
  constructor
  · rintro ⟨⟨a1, a2⟩, ⟨⟨⟨b1, b2⟩, b3⟩, ⟨⟨c1, c2⟩, c3⟩, ⟨⟨d1, d2⟩, d3⟩⟩, ⟨⟨e1, e2⟩, e3⟩, f1, f2, f3⟩
    exact ⟨a1, a2, b1, b2, c1, c2, d1, d2, e1, e2, b3, c3, d3, e3, f1, f2, f3⟩
  · rintro ⟨a1, a2, b1, b2, c1, c2, d1, d2, e1, e2, b3, c3, d3, e3, f1, f2, f3⟩
    exact ⟨⟨a1, a2⟩, ⟨⟨⟨b1, b2⟩, b3⟩, ⟨⟨c1, c2⟩, c3⟩, ⟨⟨d1, d2⟩, d3⟩⟩, ⟨⟨e1, e2⟩, e3⟩, f1, f2, f3⟩

theorem vin_false (x : Ins) (k : Nat) (hk : k < 3) (h : okF (usF x.op k) (fld x k) = false) : vinB x = false := by
  unfold vinB
  rcases (by omega : k = 0 ∨ k = 1 ∨ k = 2) with rfl | rfl | rfl <;> rw [h] <;> simp

theorem vin_rest (x : Ins) (ho : 0 ≤ x.op ∧ x.op ≤ 24) (h : ∀ k, k < 3 → okF (usF x.op k) (fld x k) = true) : vinB x = (immB x && tailB x) := by
  unfold vinB opB
  rw [h 0 (by omega), h 1 (by omega), h 2 (by omega), decide_eq_true ho]
  rfl

end Go.Proofs.YthajndgljfbifaaDoor
