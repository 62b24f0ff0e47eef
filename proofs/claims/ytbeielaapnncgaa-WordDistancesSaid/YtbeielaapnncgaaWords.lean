/-
  Contracts of the functions on one word: Mod, Flip, Valid, Ones and the document's own Mod, Flip, Valid, Ones.
-/
import Derived.Test.YtbeielaapnncgaaProg
import Derived.Test.YtbeielaapnncgaaMath
import Derived.WalkKit
import Derived.Lib.Hide
import Derived.Outline
namespace Go.Proofs.Ytbeielaapnncgaa
open Go.RowKit

/-- Bits of an int modulo 16, as the program writes it. -/
theorem and15 (b : Int) : bits .and .i64 b 15 = b % 16 := by
  show IntKind.i64.wrap ((BitVec.ofInt 64 b &&& BitVec.ofInt 64 15).toNat : Int) = _
  rw [BitVec.toNat_and, BitVec.toNat_ofInt, show (BitVec.ofInt 64 15).toNat = 15 from rfl, nat_mask4, IntKind.wrap_i64]
  simp only [Nat.reducePow]
  omega

theorem word_of {a : Int} (h : (Lit.int .u16 a).wf = true) : ∃ v : Nat, v < 65536 ∧ a = (v : Int) := by
  have hx : 0 ≤ a ∧ a ≤ 65535 := by simpa [Lit.wf, IntKind.min, IntKind.max, IntKind.signed, IntKind.bits] using h
  exact ⟨a.toNat, by omega, by omega⟩

theorem byte_of {a : Int} (h : (Lit.int .u8 a).wf = true) : ∃ v : Nat, v < 256 ∧ a = (v : Int) := by
  have hx : 0 ≤ a ∧ a ≤ 255 := by simpa [Lit.wf, IntKind.min, IntKind.max, IntKind.signed, IntKind.bits] using h
  exact ⟨a.toNat, by omega, by omega⟩

theorem int_of {a : Int} (h : (Lit.int .i64 a).wf = true) : -9223372036854775808 ≤ a ∧ a ≤ 9223372036854775807 := by
  simpa [Lit.wf, IntKind.min, IntKind.max, IntKind.signed, IntKind.bits] using h

theorem low_of (b : Int) : ∃ k : Nat, k < 16 ∧ b % 16 = (k : Int) := ⟨(b % 16).toNat, by omega, by omega⟩

theorem ret_int {k : IntKind} {a b : Int} (h : a = b) : Ending.returned (.int k a) = Ending.returned (.int k b) := by rw [h]
theorem ret_bool {a b : Bool} (h : a = b) : Ending.returned (.bool a) = Ending.returned (.bool b) := by rw [h]

theorem mod_of (v n : Int) (hn : 1 ≤ n) : (v.tmod n < 0 → v.tmod n + n = v % n) ∧ (0 ≤ v.tmod n → v.tmod n = v % n) := by
  have hb1 : v.tmod n < n := Int.tmod_lt_of_pos v (by omega)
  have hb2 : -n < v.tmod n := by have := Int.lt_tmod_of_pos v (b := n) (by omega); omega
  have hd := Int.tmod_add_mul_tdiv v n
  generalize v.tmod n = r at *
  generalize v.tdiv n = q at *
  have e : v % n = r % n := by rw [← hd, Int.add_mul_emod_self_left]
  rw [e]
  refine ⟨fun h => ?_, fun h => (Int.emod_eq_of_lt h hb1).symm⟩
  have := Int.add_emod_right r n
  rw [← this]
  exact (Int.emod_eq_of_lt (by omega) (by omega)).symm

theorem xor_pow (v k : Nat) (hv : v < 65536) (hk : k < 16) : bits .xor .u16 (v : Int) (2 ^ k) = ((v ^^^ 2 ^ k : Nat) : Int) := by
  have e2 : ((2 : Int) ^ k) = ((2 ^ k : Nat) : Int) := by simp
  rw [e2]
  exact u16_xor_nat v (2 ^ k) hv (pow_lt k hk)

theorem shl_one (k : Nat) (hk : k < 16) : IntKind.u16.wrap (2 ^ k) = (2 : Int) ^ k := by
  have h := pow_lt k hk
  have e2 : ((2 : Int) ^ k) = ((2 ^ k : Nat) : Int) := by simp
  rw [IntKind.wrap_u16, e2]
  generalize 2 ^ k = x at h
  omega

theorem bit_word (v k : Nat) (hv : v < 65536) : bits .and .u16 ((v : Int) / 2 ^ k) 1 = ((v / 2 ^ k % 2 : Nat) : Int) := by
  have e2 : (v : Int) / 2 ^ k = ((v / 2 ^ k : Nat) : Int) := by simp
  have h := u16_and_nat (v / 2 ^ k) 1 (Nat.lt_of_le_of_lt (Nat.div_le_self _ _) hv) (by omega)
  rw [nat_mask1] at h
  rw [e2]
  exact h

theorem pred_word (v : Nat) (h0 : 0 < v) (hv : v < 65536) : bits .and .u16 (v : Int) ((v : Int) - 1) = ((v &&& (v - 1) : Nat) : Int) := by
  have e2 : (v : Int) - 1 = ((v - 1 : Nat) : Int) := by omega
  rw [e2]
  exact u16_and_nat v (v - 1) hv (by omega)

theorem xor_words (v u : Nat) (hv : v < 65536) (hu : u < 65536) : bits .xor .u16 (v : Int) (u : Int) = ((v ^^^ u : Nat) : Int) := u16_xor_nat v u hv hu

theorem mod_any (v n : Int) (w : World) (hn : 1 ≤ n) (_hn2 : n ≤ 1000000) (_h1 : -9223372036854775808 ≤ v) (_h2 : v ≤ 9223372036854775807) :
    Calls Try.prog 31 #[.int .i64 v, .int .i64 n] w fun e w' => e = .returned (.int .i64 (v % n)) ∧ w = w' := by
  have hb1 : v.tmod n < n := Int.tmod_lt_of_pos v (by omega)
  have hb2 : -n < v.tmod n := by have := Int.lt_tmod_of_pos v (b := n) (by omega); omega
  have e1 := Lib.hid (mod_of v n hn)
  go_enter Try.func31, Try.ntmps31
  go_wp2
  all_goals go_ret
  · exact ⟨ret_int (e1.out.1 (by assumption)), rfl⟩
  · exact ⟨ret_int (e1.out.2 (by assumption)), rfl⟩

theorem flip_any (v : Nat) (b : Int) (w : World) (hv : v < 65536) :
    Calls Try.prog 10 #[.int .u16 (v : Int), .int .i64 b] w fun e w' => e = .returned (.int .u16 ((v ^^^ 2 ^ (b % 16).toNat : Nat) : Int)) ∧ w = w' := by
  obtain ⟨k, hk, hb⟩ := low_of b
  rw [hb, Int.toNat_natCast]
  have ha := and15 b
  rw [hb] at ha
  clear hb
  have hx := xor_pow v k hv hk
  have hs := shl_one k hk
  go_enter Try.func10, Try.ntmps10
  go_wp2
  go_ret
  exact ⟨rfl, rfl⟩

theorem dmod_any (v n : Int) (w : World) (hn : 1 ≤ n) (hn2 : n ≤ 1000000) (h1 : -9223372036854775808 ≤ v) (h2 : v ≤ 9223372036854775807) :
    Calls Try.prog 9 #[.int .i64 v, .int .i64 n] w fun e w' => e = .returned (.int .i64 (v % n)) ∧ w = w' := by
  go_enter Try.func9, Try.ntmps9
  go_wp2_with (go_at_call 31; refine (mod_any _ _ _ hn hn2 h1 h2).mono ?_; rintro e w' ⟨rfl, rfl⟩)
  go_ret
  exact ⟨rfl, rfl⟩

theorem rflip_any (v : Nat) (b : Int) (w : World) (hv : v < 65536) (h1 : -9223372036854775808 ≤ b) (h2 : b ≤ 9223372036854775807) :
    Calls Try.prog 11 #[.int .u16 (v : Int), .int .i64 b] w fun e w' => e = .returned (.int .u16 ((v ^^^ 2 ^ (b % 16).toNat : Nat) : Int)) ∧ w = w' := by
  obtain ⟨k, hk, hb⟩ := low_of b
  rw [hb, Int.toNat_natCast]
  have hx := xor_pow v k hv hk
  have hs := shl_one k hk
  go_enter Try.func11, Try.ntmps11
  go_wp2_with (go_at_call 31; refine (mod_any _ _ _ (by omega) (by omega) h1 h2).mono ?_; rintro e w' ⟨rfl, rfl⟩)
  go_ret
  exact ⟨rfl, rfl⟩

theorem valid_any (t v : Int) (w : World) (h0 : 0 ≤ t) (_h1 : t ≤ 255) :
    Calls Try.prog 12 #[.agg #[.int .u8 t, .int .u16 v]] w fun e w' => e = .returned (.bool (decide (t ≤ 2))) ∧ Below w.heap.size w w' := by
  go_enter Try.func12, Try.ntmps12
  go_wp2
  all_goals go_ret
  all_goals refine ⟨ret_bool ?_, (Below.refl _ _).alloc (Nat.le_refl _) _⟩
  all_goals simp_all
  all_goals omega

theorem rvalid_any (t v : Int) (w : World) (_h0 : 0 ≤ t) (_h1 : t ≤ 255) :
    Calls Try.prog 13 #[.agg #[.int .u8 t, .int .u16 v]] w fun e w' => e = .returned (.bool (decide (t ≤ 2))) ∧ Below w.heap.size w w' := by
  go_enter Try.func13, Try.ntmps13
  go_wp2
  go_ret
  exact ⟨rfl, (Below.refl _ _).alloc (Nat.le_refl _) _⟩

theorem ones_any (v : Nat) (w : World) (hv : v < 65536) :
    Calls Try.prog 14 #[.int .u16 (v : Int)] w fun e w' => e = .returned (.int .i64 (ones v : Nat)) ∧ w = w' := by
  go_enter Try.func14, Try.ntmps14
  go_wp2
  go_loop [3, 4, 5] (fun c _ b => ∃ k : Nat, k ≤ 16 ∧ b = .int .i64 k ∧ c = .int .i64 (onesTo v k : Nat)) (fun _ _ b => 16 - (intOf b).toNat)
  case atStart => exact ⟨0, by omega, rfl, rfl⟩
  case round =>
    obtain ⟨k, hk, rfl, rfl⟩ := hrel
    have hle := onesTo_le v k
    have hs : Hid (onesTo v (k + 1) = onesTo v k + v / 2 ^ k % 2) := Lib.hid rfl
    have hb1 : v / 2 ^ k % 2 < 2 := Nat.mod_lt _ (by omega)
    have hb := bit_word v k hv
    by_cases hlt : k < 16
    · generalize v / 2 ^ k % 2 = x at *
      go_wp2
      go_round
      case rel => exact ⟨k + 1, by omega, by go_num, by rw [hs.out]; go_num⟩
      case measure => simp [intOf]; omega
    · go_wp2
      go_ret
      obtain rfl : k = 16 := by omega
      exact ⟨rfl, rfl⟩

theorem rones_any (v : Nat) (w : World) (hv : v < 65536) :
    Calls Try.prog 15 #[.int .u16 (v : Int)] w fun e w' => e = .returned (.int .i64 (ones v : Nat)) ∧ w = w' := by
  go_enter Try.func15, Try.ntmps15
  go_wp2
  go_loop [0, 3] (fun u n => ∃ x k : Nat, x < 65536 ∧ u = .int .u16 (x : Int) ∧ n = .int .i64 (k : Int) ∧ k + ones x = ones v) (fun u _ => (intOf u).toNat)
  case atStart => exact ⟨v, 0, hv, rfl, rfl, by omega⟩
  case round =>
    obtain ⟨x, k, hx, rfl, rfl, hsum⟩ := hrel
    have hS := Lib.hid hsum
    have hl : k ≤ 16 := by have := ones_le v; omega
    clear hsum
    by_cases hlt : 0 < x
    · have hp := pred_word x hlt hx
      have h1 := and_pred_lt x hlt
      have h2 := Lib.hid (ones_pred x hlt hx)
      generalize x &&& (x - 1) = y at *
      go_wp2
      go_round
      case rel => exact ⟨y, k + 1, by omega, by go_num, by go_num, by have := h2.out; have := hS.out; omega⟩
      case measure => simp [intOf]; omega
    · obtain rfl : x = 0 := by omega
      go_wp2
      go_ret
      have := hS.out
      rw [ones_zero] at this
      exact ⟨ret_int (by omega), rfl⟩

theorem awake_any (w : World) :
    Calls Try.prog 16 #[] w fun e w' => e = .returned (.bool true) ∧ Below w.heap.size w w' := by
  have e0 : (((0 : Nat) ^^^ 2 ^ ((3 : Int) % 16).toNat : Nat) : Int) = 8 := by decide
  have e1 : ((ones 5 : Nat) : Int) = 2 := by decide
  go_enter Try.func16, Try.ntmps16
  go_wp2_with (first | (go_at_call 10; refine (flip_any 0 3 _ (by omega)).mono ?_; rintro e w' ⟨rfl, rfl⟩) | (go_at_call 14; refine (ones_any 5 _ (by omega)).mono ?_; rintro e w' ⟨rfl, rfl⟩) | (go_at_call 12; refine (valid_any 2 0 _ (by omega) (by omega)).mono ?_; rintro e w' ⟨rfl, hb⟩))
  go_ret
  exact ⟨rfl, hb⟩
end Go.Proofs.Ytbeielaapnncgaa
