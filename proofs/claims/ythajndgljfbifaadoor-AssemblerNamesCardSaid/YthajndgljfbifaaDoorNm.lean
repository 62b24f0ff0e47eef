/-
  The labels of AssemblerNames: each of its four names, with a number behind it, names labels well.
-/
import Derived.Test.YthajndgljfbifaaDoorTx
namespace Go.Proofs.YthajndgljfbifaaDoor
open Go.RowKit
set_option maxRecDepth 100000

/-- The label of a name. -/
def labN (nm : ByteArray) (k : Nat) : ByteArray := nm ++ itoaB k

/-- The names: z9, nop, region, abcdef. -/
def lawNames : List ByteArray := [⟨#[122, 57]⟩, ⟨#[110, 111, 112]⟩, ⟨#[114, 101, 103, 105, 111, 110]⟩, ⟨#[97, 98, 99, 100, 101, 102]⟩]

theorem labN_ok (nm : ByteArray) (h : nm ∈ lawNames) : LabsOk (labN nm) where
  ok := by
    intro k hk
    have hi : ∀ n, itoaB n = ⟨(Lib.decDigits n).toArray⟩ := fun n => by unfold itoaB; rw [Lib.itoa_nonneg]
    unfold labN
    rw [hi]
    by_cases h1 : k < 10
    · rw [Lib.decDigits_one h1]
      exact (by decide +kernel : ∀ nm ∈ lawNames, ∀ k < 10, labB (nm ++ ⟨[UInt8.ofNat (48 + k)].toArray⟩) = true) nm h k h1
    · rw [Lib.decDigits_two h1 (by omega)]
      exact (by decide +kernel : ∀ nm ∈ lawNames, ∀ k < 64, labB (nm ++ ⟨[UInt8.ofNat (48 + k / 10), UInt8.ofNat (48 + k % 10)].toArray⟩) = true) nm h k hk
  inj := by
    intro i j hi hj e
    unfold labN at e
    have h1 := congrArg (fun t : ByteArray => t.data.toList) e
    simp only [bytes_add] at h1
    have h2 : itoaB i = itoaB j := bytes_ext (List.append_cancel_left h1)
    have h3 := (itoa_read i (by omega)).2
    rw [h2, (itoa_read j (by omega)).2] at h3
    omega
end Go.Proofs.YthajndgljfbifaaDoor
