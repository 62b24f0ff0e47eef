/-
  Contracts of the functions on one word: Mod, Flip, Valid, Ones and the document's own Mod, Flip, Valid, Ones.
-/
import Derived.Test.YthajndgljfbifaaMods
import Derived.Test.YthajndgljfbifaaMath
import Derived.WalkKit
import Derived.Lib.Hide
import Derived.Outline
namespace Go.Proofs.Ythajndgljfbifaa
open Go.RowKit

/-- Bits of an int modulo 16, as the program writes it. -/
theorem and15 (b : Int) : bits .and .i64 b 15 = b % 16 := by
  show IntKind.i64.wrap ((BitVec.ofInt 64 b &&& BitVec.ofInt 64 15).toNat : Int) = _
  rw [BitVec.toNat_and, BitVec.toNat_ofInt, show (BitVec.ofInt 64 15).toNat = 15 from rfl, nat_mask4, IntKind.wrap_i64]
  simp only [Nat.reducePow]
  omega

theorem word_of {a : Int} (h : (Lit.int .u16 a).wf = true) : ∃ v : Nat, v < 65536 ∧ a = (v : Int) := by
  have hx : 0 ≤ a ∧ a ≤ 65535 := by simpa [Lit.wf, IntKind.min, IntKind.max, IntKind.signed, IntKind.bits] using h
  exact ⟨a.toNat, by omega, by omega⟩

theorem byte_of {a : Int} (h : (Lit.int .u8 a).wf = true) : ∃ v : Nat, v < 256 ∧ a = (v : Int) := by
  have hx : 0 ≤ a ∧ a ≤ 255 := by simpa [Lit.wf, IntKind.min, IntKind.max, IntKind.signed, IntKind.bits] using h
  exact ⟨a.toNat, by omega, by omega⟩

theorem low_of (b : Int) : ∃ k : Nat, k < 16 ∧ b % 16 = (k : Int) := ⟨(b % 16).toNat, by omega, by omega⟩

theorem xor_pow (v k : Nat) (hv : v < 65536) (hk : k < 16) : bits .xor .u16 (v : Int) (2 ^ k) = ((v ^^^ 2 ^ k : Nat) : Int) := by
  have e2 : ((2 : Int) ^ k) = ((2 ^ k : Nat) : Int) := by simp
  rw [e2]
  exact u16_xor_nat v (2 ^ k) hv (pow_lt k hk)

theorem shl_one (k : Nat) (hk : k < 16) : IntKind.u16.wrap (2 ^ k) = (2 : Int) ^ k := by
  have h := pow_lt k hk
  have e2 : ((2 : Int) ^ k) = ((2 ^ k : Nat) : Int) := by simp
  rw [IntKind.wrap_u16, e2]
  generalize 2 ^ k = x at h
  omega

theorem bit_word (v k : Nat) (hv : v < 65536) : bits .and .u16 ((v : Int) / 2 ^ k) 1 = ((v / 2 ^ k % 2 : Nat) : Int) := by
  have e2 : (v : Int) / 2 ^ k = ((v / 2 ^ k : Nat) : Int) := by simp
  have h := u16_and_nat (v / 2 ^ k) 1 (Nat.lt_of_le_of_lt (Nat.div_le_self _ _) hv) (by omega)
  rw [nat_mask1] at h
  rw [e2]
  exact h

theorem pred_word (v : Nat) (h0 : 0 < v) (hv : v < 65536) : bits .and .u16 (v : Int) ((v : Int) - 1) = ((v &&& (v - 1) : Nat) : Int) := by
  have e2 : (v : Int) - 1 = ((v - 1 : Nat) : Int) := by omega
  rw [e2]
  exact u16_and_nat v (v - 1) hv (by omega)

theorem xor_words (v u : Nat) (hv : v < 65536) (hu : u < 65536) : bits .xor .u16 (v : Int) (u : Int) = ((v ^^^ u : Nat) : Int) := u16_xor_nat v u hv hu

theorem ref01_Valid (t v : Int) (w : World) (_h0 : 0 ≤ t) (_h1 : t ≤ 255) :
    Calls Try.prog 100 #[.agg #[.int .u8 t, .int .u16 v]] w fun e w' => e = .returned (.bool (decide (t ≤ 2))) ∧ Below w.heap.size w w' := by
  go_enter Try.func100, Try.ntmps100
  go_wp2
  go_ret
  exact ⟨rfl, (Below.refl _ _).alloc (Nat.le_refl _) _⟩

end Go.Proofs.Ythajndgljfbifaa
