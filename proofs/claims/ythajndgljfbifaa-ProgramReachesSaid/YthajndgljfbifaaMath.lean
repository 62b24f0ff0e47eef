/-
  Plain mathematics of words of 16 bits: the number of ones, flips. No program is imported.
-/
import Derived.Laws.BitsAllLaws
namespace Go.Proofs.Ythajndgljfbifaa

/-- How many of the lowest n bits of v are 1. -/
def onesTo (v : Nat) : Nat → Nat
  | 0 => 0
  | n + 1 => onesTo v n + v / 2 ^ n % 2

def ones (v : Nat) : Nat := onesTo v 16

theorem onesTo_le (v n : Nat) : onesTo v n ≤ n := by
  induction n with
  | zero => exact Nat.le_refl _
  | succ n ih => simp only [onesTo]; omega

theorem ones_le (v : Nat) : ones v ≤ 16 := onesTo_le v 16

theorem onesTo_half (v n : Nat) : onesTo v (n + 1) = v % 2 + onesTo (v / 2) n := by
  induction n with
  | zero => simp [onesTo]
  | succ n ih =>
    rw [onesTo, ih, onesTo, Nat.div_div_eq_div_mul, Nat.pow_succ, Nat.mul_comm 2]
    omega

theorem onesTo_zero (n : Nat) : onesTo 0 n = 0 := by
  induction n with
  | zero => rfl
  | succ n ih => simp [onesTo, ih]

theorem and_half (a b : Nat) : (a &&& b) / 2 = a / 2 &&& b / 2 := by
  have := Nat.shiftRight_and_distrib (a := a) (b := b) (i := 1)
  simpa [Nat.shiftRight_succ] using this

theorem and_par (a b : Nat) : (a &&& b) % 2 = a % 2 &&& b % 2 := by
  have := Nat.and_mod_two_pow (a := a) (b := b) (n := 1)
  simpa using this

/-- v & (v - 1) has one 1 less. -/
theorem onesTo_pred (n : Nat) : ∀ v, 0 < v → v < 2 ^ n → onesTo (v &&& (v - 1)) n + 1 = onesTo v n := by
  induction n with
  | zero => intro v h0 h; simp at h; omega
  | succ n ih =>
    intro v h0 h
    rw [onesTo_half, onesTo_half, and_half, and_par]
    rcases Nat.mod_two_eq_zero_or_one v with hv | hv
    · have e1 : (v - 1) / 2 = v / 2 - 1 := by omega
      have e2 : (v - 1) % 2 = 1 := by omega
      rw [e1, e2, hv]
      have := ih (v / 2) (by omega) (by rw [Nat.pow_succ] at h; omega)
      simp only [Nat.zero_and]
      omega
    · have e1 : (v - 1) / 2 = v / 2 := by omega
      have e2 : (v - 1) % 2 = 0 := by omega
      rw [e1, e2, hv, Nat.and_self]
      simp only [Nat.and_zero]
      omega

theorem ones_pred (v : Nat) (h0 : 0 < v) (h : v < 65536) : ones (v &&& (v - 1)) + 1 = ones v := onesTo_pred 16 v h0 h

theorem and_pred_lt (v : Nat) (h0 : 0 < v) : v &&& (v - 1) < v := by
  have : v &&& (v - 1) ≤ v - 1 := Nat.and_le_right
  omega

theorem ones_zero : ones 0 = 0 := onesTo_zero 16

/-- Bit j of v. -/
theorem bit_xor (v u j : Nat) : (v ^^^ u) / 2 ^ j % 2 = (v / 2 ^ j % 2 + u / 2 ^ j % 2) % 2 := by
  have h := Nat.testBit_xor v u j
  simp only [Nat.testBit_eq_decide_div_mod_eq] at h
  have a := Nat.mod_two_eq_zero_or_one (v / 2 ^ j)
  have b := Nat.mod_two_eq_zero_or_one (u / 2 ^ j)
  have c := Nat.mod_two_eq_zero_or_one ((v ^^^ u) / 2 ^ j)
  rcases a with a | a <;> rcases b with b | b <;> rcases c with c | c <;> simp [a, b, c] at h ⊢

theorem bit_pow (k j : Nat) : 2 ^ k / 2 ^ j % 2 = if k = j then 1 else 0 := by
  have h := Nat.testBit_two_pow (n := k) (m := j)
  simp only [Nat.testBit_eq_decide_div_mod_eq] at h
  by_cases e : k = j
  · subst e; simpa using h
  · have := Nat.mod_two_eq_zero_or_one (2 ^ k / 2 ^ j)
    rcases this with a | a <;> simp [a, e] at h ⊢

/-- Above the flipped bit, and below it, the ones are the same. -/
theorem onesTo_flip_low (v k : Nat) : ∀ n, n ≤ k → onesTo (v ^^^ 2 ^ k) n = onesTo v n := by
  intro n
  induction n with
  | zero => intro _; rfl
  | succ n ih =>
    intro h
    have e : ¬ k = n := by omega
    rw [onesTo, onesTo, ih (by omega), bit_xor, bit_pow, if_neg e]
    omega

theorem onesTo_flip (v k : Nat) : ∀ n, k < n → (onesTo (v ^^^ 2 ^ k) n = onesTo v n + 1 ∨ onesTo (v ^^^ 2 ^ k) n + 1 = onesTo v n) := by
  intro n
  induction n with
  | zero => intro h; omega
  | succ n ih =>
    intro h
    rw [onesTo, onesTo, bit_xor, bit_pow]
    by_cases e : k = n
    · subst e
      rw [onesTo_flip_low v k k (Nat.le_refl _), if_pos rfl]
      have := Nat.mod_two_eq_zero_or_one (v / 2 ^ k)
      rcases this with a | a <;> rw [a] <;> omega
    · have := ih (by omega)
      rw [if_neg e]
      have := Nat.mod_two_eq_zero_or_one (v / 2 ^ n)
      omega

theorem ones_flip (v k : Nat) (hk : k < 16) : ones (v ^^^ 2 ^ k) = ones v + 1 ∨ ones (v ^^^ 2 ^ k) + 1 = ones v := onesTo_flip v k 16 hk

theorem ones_pow (k : Nat) (hk : k < 16) : ones (2 ^ k) = 1 := by
  have h := ones_flip 0 k hk
  rw [Nat.zero_xor, ones_zero] at h
  omega

theorem xor_flip (v k : Nat) : v ^^^ (v ^^^ 2 ^ k) = 2 ^ k := by
  rw [← Nat.xor_assoc, Nat.xor_self, Nat.zero_xor]

theorem flip_flip (v k : Nat) : (v ^^^ 2 ^ k) ^^^ 2 ^ k = v := by
  rw [Nat.xor_assoc, Nat.xor_self, Nat.xor_zero]

theorem flip_comm (v i k : Nat) : (v ^^^ 2 ^ i) ^^^ 2 ^ k = (v ^^^ 2 ^ k) ^^^ 2 ^ i := by
  rw [Nat.xor_assoc, Nat.xor_comm (2 ^ i), ← Nat.xor_assoc]

theorem flip_ne (v k : Nat) (hk : k < 16) : v ^^^ 2 ^ k ≠ v := by
  intro e
  have h := ones_flip v k hk
  rw [e] at h
  omega

theorem pow_lt (k : Nat) (hk : k < 16) : 2 ^ k < 65536 := Nat.pow_lt_pow_right (a := 2) (m := k) (n := 16) (by omega) hk

theorem flip_lt (v k : Nat) (hv : v < 65536) (hk : k < 16) : v ^^^ 2 ^ k < 65536 := Nat.xor_lt_two_pow (n := 16) hv (pow_lt k hk)

theorem xor_lt (a b : Nat) (ha : a < 65536) (hb : b < 65536) : a ^^^ b < 65536 := Nat.xor_lt_two_pow (n := 16) ha hb

end Go.Proofs.Ythajndgljfbifaa
