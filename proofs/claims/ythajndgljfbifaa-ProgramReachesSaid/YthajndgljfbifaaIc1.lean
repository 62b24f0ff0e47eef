/-
  The program's instructions: upTo, greatest, Valid, Branch: the same as the document's.
-/
import Derived.Test.YthajndgljfbifaaIns2
namespace Go.Proofs.Ythajndgljfbifaa
open Go.RowKit
set_option maxRecDepth 100000

/-- A field lies from 0 to its greatest value. -/
def upV (v m : Int) : Bool := decide (0 ≤ v ∧ v ≤ m)

theorem instr_upTo (v m : Int) (w : World) :
    Calls Try.prog 84 #[.int .i64 v, .int .i64 m] w fun e w' => e = .returned (.bool (upV v m)) ∧ w = w' := by
  by_cases h1 : 0 ≤ v
  · by_cases h2 : v ≤ m
    · have hv : Hid (upV v m = true) := Lib.hid (decide_eq_true ⟨h1, h2⟩)
      go_enter Try.func84, Try.ntmps84
      go_wp2
      go_ret
      exact ⟨ret_bool hv.out.symm, rfl⟩
    · have hv : Hid (upV v m = false) := Lib.hid (decide_eq_false (fun h => h2 h.2))
      go_enter Try.func84, Try.ntmps84
      go_wp2
      go_ret
      exact ⟨ret_bool hv.out.symm, rfl⟩
  · have hv : Hid (upV v m = false) := Lib.hid (decide_eq_false (fun h => h1 h.1))
    go_enter Try.func84, Try.ntmps84
    go_wp2
    go_ret
    exact ⟨ret_bool hv.out.symm, rfl⟩

/-- The instruction with the greatest values that an operation permits. -/
def mostI (op : Int) : Ins :=
  ⟨op, if usA op = true then 7 else 0, if usB op = true then 7 else 0, if usC op = true then 7 else 0,
    if jumpB op = true then 63 else if op = 15 then 3 else if op = 23 then 15 else if usI op = true then 65535 else 0⟩

set_option maxHeartbeats 4000000 in
theorem instr_greatest (op : Int) (w : World) (h0 : 0 ≤ op) (h1 : op ≤ 24) :
    Calls Try.prog 83 #[.int .i64 op] w fun e w' => e = .returned (.tuple #[insV (mostI op), .bool true]) ∧ Below w.heap.size w w' := by
  rcases ops_of h0 h1 with rfl | rfl | rfl | rfl | rfl | rfl | rfl | rfl | rfl | rfl | rfl | rfl | rfl | rfl | rfl | rfl | rfl | rfl | rfl | rfl | rfl | rfl | rfl | rfl | rfl
  all_goals
    go_enter Try.func83, Try.ntmps83
    go_wp2
    refine bodyPost_ret (by simp [results, Try.results83, go_sem]; rfl) rfl ⟨rfl, ?_⟩
    exact (Below.alloc (Below.refl w.heap.size w) (Nat.le_refl _) _).alloc (by simp) _

theorem g_all {op : Int} (h : op < 0 ∨ 24 < op) (k : Int) (h0 : 0 ≤ k) (h1 : k ≤ 24) : (op == k) = false := by rw [beq_eq_false_iff_ne]; omega

set_option maxHeartbeats 4000000 in
theorem instr_greatest_none (op : Int) (w : World) (h : op < 0 ∨ 24 < op) :
    Calls Try.prog 83 #[.int .i64 op] w fun e w' => e = .returned (.tuple #[insV ⟨0, 0, 0, 0, 0⟩, .bool false]) ∧ Below w.heap.size w w' := by
  have g0 := g_all h 0 (by omega) (by omega)
  have g1 := g_all h 1 (by omega) (by omega)
  have g2 := g_all h 2 (by omega) (by omega)
  have g3 := g_all h 3 (by omega) (by omega)
  have g4 := g_all h 4 (by omega) (by omega)
  have g5 := g_all h 5 (by omega) (by omega)
  have g6 := g_all h 6 (by omega) (by omega)
  have g7 := g_all h 7 (by omega) (by omega)
  have g8 := g_all h 8 (by omega) (by omega)
  have g9 := g_all h 9 (by omega) (by omega)
  have g10 := g_all h 10 (by omega) (by omega)
  have g11 := g_all h 11 (by omega) (by omega)
  have g12 := g_all h 12 (by omega) (by omega)
  have g13 := g_all h 13 (by omega) (by omega)
  have g14 := g_all h 14 (by omega) (by omega)
  have g15 := g_all h 15 (by omega) (by omega)
  have g16 := g_all h 16 (by omega) (by omega)
  have g17 := g_all h 17 (by omega) (by omega)
  have g18 := g_all h 18 (by omega) (by omega)
  have g19 := g_all h 19 (by omega) (by omega)
  have g20 := g_all h 20 (by omega) (by omega)
  have g21 := g_all h 21 (by omega) (by omega)
  have g22 := g_all h 22 (by omega) (by omega)
  have g23 := g_all h 23 (by omega) (by omega)
  have g24 := g_all h 24 (by omega) (by omega)
  clear h
  go_enter Try.func83, Try.ntmps83
  go_wp2
  refine bodyPost_ret (v := .tuple #[insV ⟨0, 0, 0, 0, 0⟩, .bool false]) (by simp [results, Try.results83, go_sem, insV]) rfl ⟨rfl, ?_⟩
  exact (Below.alloc (Below.refl w.heap.size w) (Nat.le_refl _) _).alloc (by simp) _

theorem vin_most (x : Ins) (h0 : 0 ≤ x.op) (h1 : x.op ≤ 24) :
    vinB x = (upV x.a (mostI x.op).a && (upV x.b (mostI x.op).b && (upV x.c (mostI x.op).c && upV x.imm (mostI x.op).imm))) := by
  rw [Bool.eq_iff_iff, vinB_iff]
  obtain ⟨op, a, b, c, imm⟩ := x
  simp only at h0 h1
  rcases ops_of h0 h1 with rfl | rfl | rfl | rfl | rfl | rfl | rfl | rfl | rfl | rfl | rfl | rfl | rfl | rfl | rfl | rfl | rfl | rfl | rfl | rfl | rfl | rfl | rfl | rfl | rfl
  all_goals
    simp [InsIn, upV, mostI, usA, usB, usC, usI, jumpB]
    omega

theorem vin_none (x : Ins) (h : x.op < 0 ∨ 24 < x.op) : vinB x = false := by
  unfold vinB opB
  rw [decide_eq_false (by omega), Bool.false_and]

end Go.Proofs.Ythajndgljfbifaa
