/-
  bent of the law: some instruction.
-/
import Derived.Test.YtbhpolnoeccofaaIc7
namespace Go.Proofs.Ytbhpolnoeccofaa
open Go.RowKit
set_option maxRecDepth 100000

theorem below_set {w W : World} (h : Below w.heap.size w W) {B j : Nat} {v : Value} (hB : w.heap.size ≤ B) : Below w.heap.size w (W.setCell ⟨B, j, none⟩ v) :=
  h.grown (grownBy_cell W B j v) h.size (fun k hk => by cases hk; exact hB)

/-- The call returns some instruction. -/
def GivesSome (w : World) (e : Ending) (w' : World) : Prop := ∃ z : Ins, e = .returned (insV z) ∧ Below w.heap.size w w'

/-- Eleven ints in a block of their own. -/
theorem eleven {W : World} {T : TypeId} {l : Array Int} (h : l.size = 11) (m : Nat) (hm : m < 11) : ∃ v : Int, (W.alloc (.cells (l.map fun n => Value.int .i64 n) T)).cell? ⟨W.heap.size, m, none⟩ = some (.int .i64 v) := by
  have hN := Blk.new (W := W) (l.map fun n => Value.int .i64 n) T
  have := (hN m (by simp; omega)).1
  exact ⟨l[m]'(by omega), by rw [this]; simp⟩

set_option maxHeartbeats 4000000 in
theorem law06_bent (x : Ins) (what by_ : Int) (w : World) (h1 : -9223372036854775808 ≤ what) (h2 : what ≤ 9223372036854775807) (h3 : -9223372036854775808 ≤ by_) (h4 : by_ ≤ 9223372036854775807) :
    Calls Try.prog 10 #[insV x, .int .i64 what, .int .i64 by_] w (GivesSome w) := by
  have HM1 := Lib.hid (fun W => make_Mod by_ 11 W (by omega) (by omega) h3 h4)
  have HM2 := Lib.hid (fun W => make_Mod what 5 W (by omega) (by omega) h1 h2)
  have HM3 := Lib.hid (fun W => make_Mod by_ 28 W (by omega) (by omega) h3 h4)
  obtain ⟨m, hm⟩ : ∃ m : Nat, by_ % 11 = (m : Int) := ⟨(by_ % 11).toNat, by omega⟩
  obtain ⟨q, hq⟩ : ∃ q : Nat, what % 5 = (q : Int) := ⟨(what % 5).toNat, by omega⟩
  obtain ⟨r, hr⟩ : ∃ r : Nat, by_ % 28 = (r : Int) := ⟨(by_ % 28).toNat, by omega⟩
  have hm6 : m < 11 := by omega
  have hq6 : q < 5 := by omega
  have hr6 : r < 28 := by omega
  rw [hm] at HM1
  rw [hq] at HM2
  rw [hr] at HM3
  clear h1 h2 h3 h4 hm hq hr
  obtain ⟨op, a, b, c, imm⟩ := x
  unfold insV
  have hA1 := Below.alloc (Below.refl w.heap.size w) (Nat.le_refl _) (.cells #[.int .i64 op, .int .i64 a, .int .i64 b, .int .i64 c, .int .i64 imm] 23)
  have hA2 := hA1.alloc hA1.size (.cells #[.int .i64 0, .int .i64 0, .int .i64 0, .int .i64 0, .int .i64 0] 23)
  have X1 := (Blk.new (W := w) #[.int .i64 op, .int .i64 a, .int .i64 b, .int .i64 c, .int .i64 imm] 23).later (Below.alloc (Below.refl _ _) (Nat.le_refl _) (.cells #[.int .i64 0, .int .i64 0, .int .i64 0, .int .i64 0, .int .i64 0] 23))
  have R1 := Blk.new (W := w.alloc (.cells #[.int .i64 op, .int .i64 a, .int .i64 b, .int .i64 c, .int .i64 imm] 23)) #[.int .i64 0, .int .i64 0, .int .i64 0, .int .i64 0, .int .i64 0] 23
  rw [show (w.alloc (.cells #[.int .i64 op, .int .i64 a, .int .i64 b, .int .i64 c, .int .i64 imm] 23)).heap.size = w.heap.size + 1 by simp] at R1
  clear hA1
  go_enter Try.func10, Try.ntmps10
  go_upto_region 1 with fail
  generalize (w.alloc (.cells #[.int .i64 op, .int .i64 a, .int .i64 b, .int .i64 c, .int .i64 imm] 23)).alloc (.cells #[.int .i64 0, .int .i64 0, .int .i64 0, .int .i64 0, .int .i64 0] 23) = W1 at *
  obtain ⟨v, hv⟩ := eleven (W := W1) (T := 3) (l := #[-1, 0, 1, 7, 8, 15, 16, 63, 64, 65535, 65536]) rfl m hm6
  simp only [List.map_toArray, List.map_cons, List.map_nil] at hv
  have hA3 := hA2.alloc hA2.size (.cells #[.int .i64 (-1), .int .i64 0, .int .i64 1, .int .i64 7, .int .i64 8, .int .i64 15, .int .i64 16, .int .i64 63, .int .i64 64, .int .i64 65535, .int .i64 65536] 3)
  have X3 := X1.later (Below.alloc (Below.refl _ _) (Nat.le_refl _) (.cells #[.int .i64 (-1), .int .i64 0, .int .i64 1, .int .i64 7, .int .i64 8, .int .i64 15, .int .i64 16, .int .i64 63, .int .i64 64, .int .i64 65535, .int .i64 65536] 3))
  have R3 := R1.later (Below.alloc (Below.refl _ _) (Nat.le_refl _) (.cells #[.int .i64 (-1), .int .i64 0, .int .i64 1, .int .i64 7, .int .i64 8, .int .i64 15, .int .i64 16, .int .i64 63, .int .i64 64, .int .i64 65535, .int .i64 65536] 3))
  clear X1 R1 hA2
  go_wp2_with fail
  generalize W1.alloc (.cells #[.int .i64 (-1), .int .i64 0, .int .i64 1, .int .i64 7, .int .i64 8, .int .i64 15, .int .i64 16, .int .i64 63, .int .i64 64, .int .i64 65535, .int .i64 65536] 3) = W2 at *
  generalize W1.heap.size = T at *
  refine (HM1.out _).mono ?_
  rintro e w3 ⟨rfl, hw3⟩
  subst hw3
  have j1 : (m : Int) < 11 := by omega
  have j2 : 0 ≤ (m : Int) := by omega
  obtain ⟨k0, k1, k2, k3, k4, l0, l1, l2, l3, l4⟩ := ins_cells (x := ⟨op, a, b, c, imm⟩) X3
  obtain ⟨e0, e1, e2, e3, e4, f0, f1, f2, f3, f4⟩ := ins_cells (x := ⟨0, 0, 0, 0, 0⟩) R3
  have HA := Lib.hid hA3
  clear hA3 X3 R3
  go_wp2_with fail
  refine (HM2.out _).mono ?_
  rintro e w4 ⟨rfl, hw4⟩
  subst hw4
  have hS : Hid (w.heap.size ≤ w.heap.size + 1) := Lib.hid (by omega)
  have g0 : IntKind.i64.wrap ((r : Int) - 1) = (r : Int) - 1 := IntWalk.i64_in _ (by omega)
  rcases (by omega : q = 0 ∨ q = 1 ∨ q = 2 ∨ q = 3 ∨ q = 4) with rfl | rfl | rfl | rfl | rfl
  · go_wp2_with (go_at_call 19; (with_reducible refine (HM3.out _).mono ?_); rintro e w' ⟨rfl, rfl⟩)
    refine bodyPost_ret (v := insV ⟨(r : Int) - 1, a, b, c, imm⟩) (by simp [results, Try.results10, go_sem, insV, e0, e1, e2, e3, e4]) rfl ⟨_, rfl, ?_⟩
    exact below_set (below_set (below_set (below_set (below_set (below_set HA.out (Nat.le_refl _)) hS.out) hS.out) hS.out) hS.out) hS.out
  · go_wp2
    refine bodyPost_ret (v := insV ⟨op, v, b, c, imm⟩) (by simp [results, Try.results10, go_sem, insV, e0, e1, e2, e3, e4]) rfl ⟨_, rfl, ?_⟩
    exact below_set (below_set (below_set (below_set (below_set (below_set HA.out (Nat.le_refl _)) hS.out) hS.out) hS.out) hS.out) hS.out
  · go_wp2
    refine bodyPost_ret (v := insV ⟨op, a, v, c, imm⟩) (by simp [results, Try.results10, go_sem, insV, e0, e1, e2, e3, e4]) rfl ⟨_, rfl, ?_⟩
    exact below_set (below_set (below_set (below_set (below_set (below_set HA.out (Nat.le_refl _)) hS.out) hS.out) hS.out) hS.out) hS.out
  · go_wp2
    refine bodyPost_ret (v := insV ⟨op, a, b, v, imm⟩) (by simp [results, Try.results10, go_sem, insV, e0, e1, e2, e3, e4]) rfl ⟨_, rfl, ?_⟩
    exact below_set (below_set (below_set (below_set (below_set (below_set HA.out (Nat.le_refl _)) hS.out) hS.out) hS.out) hS.out) hS.out
  · go_wp2
    refine bodyPost_ret (v := insV ⟨op, a, b, c, v⟩) (by simp [results, Try.results10, go_sem, insV, e0, e1, e2, e3, e4]) rfl ⟨_, rfl, ?_⟩
    exact below_set (below_set (below_set (below_set (below_set (below_set HA.out (Nat.le_refl _)) hS.out) hS.out) hS.out) hS.out) hS.out
end Go.Proofs.Ytbhpolnoeccofaa
