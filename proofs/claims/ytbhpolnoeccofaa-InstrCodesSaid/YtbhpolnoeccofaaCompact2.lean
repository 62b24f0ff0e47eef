/-
  The library's Compact at two ints.
-/
import Derived.Test.YtbhpolnoeccofaaSort2
import Derived.Lib.SliceRun
namespace Go.Proofs.Ytbhpolnoeccofaa
open Go.RowKit
set_option maxRecDepth 100000

theorem compact_ne (B cap : Nat) (x y : Int) (w : World) (hp : Pair w B x y) (h : x ≠ y) :
    Calls Try.prog 32 #[.slice (some ⟨B, 0, none⟩) 2 cap] w fun e w' => e = .returned (.slice (some ⟨B, 0, none⟩) 2 cap) ∧ Pair w' B x y ∧ w.grownBy w' (some B) := by
  have c0 := (hp 0 (by simp)).1
  have c1 := (hp 1 (by simp)).1
  have HP := Lib.hid (fun n => (⟨Blk.kept hp (grownBy_drewN w none n) (by simp), grownBy_drewN w _ n⟩ : Pair (w.drewN n) B x y ∧ w.grownBy (w.drewN n) (some B)))
  have g : (y == x) = false := by rw [beq_eq_false_iff_ne]; exact fun e => h e.symm
  clear hp h
  go_enter Try.func32, Try.ntmps32
  go_wp2
  go_loopw [3] (fun c wr => (c = .int .i64 1 ∧ wr = w) ∨ (c = .int .i64 2 ∧ ∃ n, wr = w.drewN n)) (fun c _ => 2 - (intOf c).toNat)
  case atStart => exact .inl ⟨rfl, rfl⟩
  case round =>
    rcases hrel with ⟨rfl, rfl⟩ | ⟨rfl, n, rfl⟩
    · go_wp2_with fail
      go_quiet (fail)
      go_wp2_with fail
      go_roundw
      case rel => exact .inr ⟨rfl, nq, rfl⟩
      case measure => simp [intOf]
    · go_wp2
      go_ret
      exact ⟨rfl, HP.out n⟩

theorem cleared {w : World} {B : Nat} {x : Int} {n : Nat} (hp : Pair w B x x) : Blk ((w.drewN n).setCells B 1 [.int .i64 0]) B [.int .i64 x] ∧ w.grownBy ((w.drewN n).setCells B 1 [.int .i64 0]) (some B) := by
  have hd : Blk (w.drewN n) B [.int .i64 x, .int .i64 x] := Blk.kept hp (grownBy_drewN w none n) (by simp)
  have h1 := hd.put 1 (.int .i64 0)
  refine ⟨fun j hj => ?_, grownBy_trans (grownBy_drewN w _ n) (grownBy_cell _ _ _ _)⟩
  obtain rfl : j = 0 := by simpa using hj
  exact h1 0 (by simp)

set_option maxHeartbeats 1000000 in
theorem compact_eq (B cap : Nat) (x : Int) (w : World) (hp : Pair w B x x) (hc : 2 ≤ cap) :
    Calls Try.prog 32 #[.slice (some ⟨B, 0, none⟩) 2 cap] w fun e w' => e = .returned (.slice (some ⟨B, 0, none⟩) 1 cap) ∧ Blk w' B [.int .i64 x] ∧ w.grownBy w' (some B) := by
  have c0 := (hp 0 (by simp)).1
  have c1 := (hp 1 (by simp)).1
  have f1 := (hp 1 (by simp)).2
  have hv : ∀ W, (zeroValue 3).run Try.prog W = .ok (.int .i64 0) W := fun W => by kernel_rfl
  have hcl : ∀ n ty, (Builtin.clear_ #[24] ty #[.slice (some ⟨B, 1, none⟩) 1 (cap - 1)]).run Try.prog (w.drewN n) = .ok (.tuple #[]) ((w.drewN n).setCells B 1 [.int .i64 0]) := fun n ty =>
    Lib.run_clear_slice (w.drewN n) 24 3 ty (.int .i64 0) Try.underlying24 hv rfl rfl B 1 1 (cap - 1) (by omega) (fun j hj => by
      obtain rfl : j = 0 := by omega
      show (w.cell? ⟨B, 1, none⟩).isSome = true
      rw [c1]; rfl) (fun j hj => by
      obtain rfl : j = 0 := by omega
      exact f1)
  have HP := Lib.hid (fun n => cleared (n := n) hp)
  have k1 : ¬ cap = 1 := by omega
  have k2 : 1 ≤ cap := by omega
  clear hp hv
  go_enter Try.func32, Try.ntmps32
  go_wp2
  go_loopw [3] (fun c wr => (c = .int .i64 1 ∧ wr = w)) (fun c _ => 2 - (intOf c).toNat)
  case atStart => exact ⟨rfl, rfl⟩
  case round =>
    obtain ⟨rfl, rfl⟩ := hrel
    go_wp2_with fail
    go_quiet (fail)
    go_wp2_with fail
    go_loopw [3, 5] (fun c d wr2 => c = .int .i64 1 ∧ d = .int .i64 1 ∧ wr2 = wr.drewN nq) (fun c _ _ => 0)
    case atStart => exact ⟨rfl, rfl, rfl⟩
    case round =>
      obtain ⟨rfl, rfl, rfl⟩ := hrel
      go_wp2
      go_ret
      exact ⟨rfl, HP.out nq⟩
end Go.Proofs.Ytbhpolnoeccofaa
