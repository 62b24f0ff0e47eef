/-
  SameInts of the document at two equal lists.
-/
import Derived.Test.YtbhpolnoeccofaaTgt2
namespace Go.Proofs.Ytbhpolnoeccofaa
open Go.RowKit
set_option maxRecDepth 100000

theorem ref01_SameInts (a1 a2 : Option Addr) (l : List Int) (c1 c2 : Nat) (w : World) (h1 : IntsAt .i64 w a1 l) (h2 : IntsAt .i64 w a2 l) (hl : l.length ≤ 1000000) :
    Calls Try.prog 17 #[.slice a1 l.length c1, .slice a2 l.length c2] w fun e w' => e = .returned (.bool true) ∧ Below w.heap.size w w' := by
  go_enter Try.func17, Try.ntmps17
  go_wp2
  go_loopw [13] (fun c wr => ∃ k : Nat, k ≤ l.length ∧ c = .int .i64 k ∧ Below w.heap.size w wr) (fun c _ => l.length - (intOf c).toNat)
  case atStart => exact ⟨0, by omega, rfl, Below.refl _ _⟩
  case round =>
    obtain ⟨k, hk, rfl, hw⟩ := hrel
    by_cases hlt : k < l.length
    · obtain ⟨b1, o1, rfl, hc1⟩ := h1.some hlt
      obtain ⟨b2, o2, rfl, hc2⟩ := h2.some hlt
      have d1 := cell_later hw (hc1 k hlt)
      have d2 := cell_later hw (hc2 k hlt)
      have i1 : (k : Int) < (l.length : Int) := by omega
      have i2 : 0 ≤ (k : Int) := by omega
      generalize l[k] = v at *
      clear hc1 hc2 h1 h2
      go_wp2_with fail
      go_quiet (fail)
      go_wp2_with fail
      go_roundw
      case rel => exact ⟨k + 1, by omega, by go_num, below_drewN hw _⟩
      case measure => simp [intOf]; omega
    · obtain rfl : k = l.length := by omega
      go_wp2
      go_ret
      exact ⟨rfl, hw⟩
end Go.Proofs.Ytbhpolnoeccofaa
