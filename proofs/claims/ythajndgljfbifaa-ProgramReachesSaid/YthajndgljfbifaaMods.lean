/-
  Contracts of the remainder: Mod of the makers and of the document's answers; small facts on ints.
-/
import Derived.Test.YthajndgljfbifaaProg
import Derived.WalkKit
import Derived.Lib.Hide
import Derived.Outline
namespace Go.Proofs.Ythajndgljfbifaa
open Go.RowKit

theorem int_of {a : Int} (h : (Lit.int .i64 a).wf = true) : -9223372036854775808 ≤ a ∧ a ≤ 9223372036854775807 := by
  simpa [Lit.wf, IntKind.min, IntKind.max, IntKind.signed, IntKind.bits] using h

theorem ret_int {k : IntKind} {a b : Int} (h : a = b) : Ending.returned (.int k a) = Ending.returned (.int k b) := by rw [h]
theorem ret_bool {a b : Bool} (h : a = b) : Ending.returned (.bool a) = Ending.returned (.bool b) := by rw [h]

theorem mod_of (v n : Int) (hn : 1 ≤ n) : (v.tmod n < 0 → v.tmod n + n = v % n) ∧ (0 ≤ v.tmod n → v.tmod n = v % n) := by
  have hb1 : v.tmod n < n := Int.tmod_lt_of_pos v (by omega)
  have hb2 : -n < v.tmod n := by have := Int.lt_tmod_of_pos v (b := n) (by omega); omega
  have hd := Int.tmod_add_mul_tdiv v n
  generalize v.tmod n = r at *
  generalize v.tdiv n = q at *
  have e : v % n = r % n := by rw [← hd, Int.add_mul_emod_self_left]
  rw [e]
  refine ⟨fun h => ?_, fun h => (Int.emod_eq_of_lt h hb1).symm⟩
  have := Int.add_emod_right r n
  rw [← this]
  exact (Int.emod_eq_of_lt (by omega) (by omega)).symm

theorem ref01_Mod (v n : Int) (w : World) (hn : 1 ≤ n) (_hn2 : n ≤ 4000000000) (_h1 : -9223372036854775808 ≤ v) (_h2 : v ≤ 9223372036854775807) :
    Calls Try.prog 62 #[.int .i64 v, .int .i64 n] w fun e w' => e = .returned (.int .i64 (v % n)) ∧ w = w' := by
  have hb1 : v.tmod n < n := Int.tmod_lt_of_pos v (by omega)
  have hb2 : -n < v.tmod n := by have := Int.lt_tmod_of_pos v (b := n) (by omega); omega
  have e1 := Lib.hid (mod_of v n hn)
  go_enter Try.func62, Try.ntmps62
  go_wp2
  all_goals go_ret
  · exact ⟨ret_int (e1.out.1 (by assumption)), rfl⟩
  · exact ⟨ret_int (e1.out.2 (by assumption)), rfl⟩

theorem make_Mod (v n : Int) (w : World) (hn : 1 ≤ n) (hn2 : n ≤ 4000000000) (h1 : -9223372036854775808 ≤ v) (h2 : v ≤ 9223372036854775807) :
    Calls Try.prog 22 #[.int .i64 v, .int .i64 n] w fun e w' => e = .returned (.int .i64 (v % n)) ∧ w = w' := by
  go_enter Try.func22, Try.ntmps22
  go_wp2_with (go_at_call 62; refine (ref01_Mod _ _ _ hn hn2 h1 h2).mono ?_; rintro e w' ⟨rfl, rfl⟩)
  go_ret
  exact ⟨rfl, rfl⟩

end Go.Proofs.Ythajndgljfbifaa
