/-
  Contract: awake of the law of layouts.
-/
import Derived.Test.YtpjaflcljnfjmaaLay4
import Derived.Deep.DeepCutAuto
namespace Go.Proofs.Ytpjaflcljnfjmaa
open Go.RowKit

theorem make42 (W : World) (q : Int) :
    Calls Try.prog 13 #[.slice (some ⟨W.heap.size, 0, none⟩) 2 2, .int .i64 q] (W.alloc (.cells #[.int .i64 4, .int .i64 2] 3)) (GivesLayout [4, 2] q (W.alloc (.cells #[.int .i64 4, .int .i64 2] 3))) := by
  refine layout_Make (some ⟨W.heap.size, 0, none⟩) [4, 2] 2 q _ (by simp) (.inr ⟨_, _, rfl, fun i hi => ?_⟩)
  have h2 : i = 0 ∨ i = 1 := by simp at hi; omega
  rcases h2 with rfl | rfl
  · rw [World.cell?_alloc_at _ _ _ _ rfl]; rfl
  · rw [World.cell?_alloc_at _ _ _ _ rfl]; rfl

theorem pair_at {B : Nat} {w : World} {a : Option Addr} {x y : Nat} (h : NatsFrom B .i64 w a [x, y]) :
    ∃ b off, a = some ⟨b, off, none⟩ ∧ w.cell? ⟨b, off, none⟩ = some (.int .i64 (x : Int)) ∧ w.cell? ⟨b, off + 1, none⟩ = some (.int .i64 (y : Int)) := by
  rcases h with h | ⟨b, off, ha, _, h⟩
  · cases h
  · exact ⟨b, off, ha, h 0 (by simp), h 1 (by simp)⟩

theorem con0 : mkL [4, 2] 0 = [1, 6] ∧ mkK [4, 2] 0 = 0 ∧ mkE [4, 2] 0 = 0 := by decide +kernel
theorem con1 : mkL [4, 2] 1 = [4, 1] ∧ mkK [4, 2] 1 = 40503 ∧ mkE [4, 2] 1 = 0 := by decide +kernel

/-- What Make answers for these sizes and seed 0. -/
theorem make0 (W : World) (B : Nat) (hB : W.heap.size = B) :
    Calls Try.prog 13 #[.slice (some ⟨B, 0, none⟩) 2 2, .int .i64 0] (W.alloc (.cells #[.int .i64 4, .int .i64 2] 3)) fun e w' =>
      ∃ b off cap, e = .returned (.tuple #[.agg #[.slice (some ⟨b, off, none⟩) 2 cap, .int .u16 0], .int .i64 0]) ∧ w'.cell? ⟨b, off, none⟩ = some (.int .i64 1) ∧ w'.cell? ⟨b, off + 1, none⟩ = some (.int .i64 6) ∧ Below W.heap.size W w' := by
  subst hB
  refine (make42 W 0).mono ?_
  rintro e w1 ⟨a, ca, rfl, ha, _, hb1⟩
  rw [con0.1] at ha ⊢
  rw [con0.2.1, con0.2.2]
  obtain ⟨b1, o1, rfl, c0, c1⟩ := pair_at ha
  exact ⟨b1, o1, ca, rfl, c0, c1, (Below.alloc (Below.refl W.heap.size W) (Nat.le_refl _) _).trans (hb1.mono (by simp))⟩

/-- What Make answers for these sizes and seed 1. -/
theorem make1 (W : World) (B : Nat) (hB : W.heap.size = B) :
    Calls Try.prog 13 #[.slice (some ⟨B, 0, none⟩) 2 2, .int .i64 1] (W.alloc (.cells #[.int .i64 4, .int .i64 2] 3)) fun e w' =>
      ∃ b off cap, e = .returned (.tuple #[.agg #[.slice (some ⟨b, off, none⟩) 2 cap, .int .u16 40503], .int .i64 0]) ∧ w'.cell? ⟨b, off, none⟩ = some (.int .i64 4) ∧ w'.cell? ⟨b, off + 1, none⟩ = some (.int .i64 1) ∧ Below W.heap.size W w' := by
  subst hB
  refine (make42 W 1).mono ?_
  rintro e w1 ⟨a, ca, rfl, ha, _, hb1⟩
  rw [con1.1] at ha ⊢
  rw [con1.2.1, con1.2.2]
  obtain ⟨b1, o1, rfl, c0, c1⟩ := pair_at ha
  exact ⟨b1, o1, ca, rfl, c0, c1, (Below.alloc (Below.refl W.heap.size W) (Nat.le_refl _) _).trans (hb1.mono (by simp))⟩

set_option maxHeartbeats 1000000 in
theorem law03_awake (w : World) :
    Calls Try.prog 6 #[] w fun e w' => e = .returned (.bool true) ∧ Below w.heap.size w w' := by
  have K0 := Lib.hid make0
  have K1 := Lib.hid make1
  go_enter Try.func6, Try.ntmps6
  go_wp2_with fail
  with_reducible refine (K0.out w w.heap.size rfl).mono ?_
  rintro e w1 ⟨b1, o1, ca, rfl, c0, c1, hb1⟩
  have hW := hb1.alloc hb1.size (.cells #[.slice (some ⟨b1, o1, none⟩) 2 ca, .int .u16 0] 25)
  have d0 := cell_later ((Below.refl _ _).alloc (Nat.le_refl _) (.cells #[.slice (some ⟨b1, o1, none⟩) 2 ca, .int .u16 0] 25)) c0
  have d1 := cell_later ((Below.refl _ _).alloc (Nat.le_refl _) (.cells #[.slice (some ⟨b1, o1, none⟩) 2 ca, .int .u16 0] 25)) c1
  have x0 : (w1.alloc (.cells #[.slice (some ⟨b1, o1, none⟩) 2 ca, .int .u16 0] 25)).cell? ⟨w1.heap.size, 0, none⟩ = some (.slice (some ⟨b1, o1, none⟩) 2 ca) := by rw [World.cell?_alloc_at _ _ _ _ rfl]; rfl
  have x1 : (w1.alloc (.cells #[.slice (some ⟨b1, o1, none⟩) 2 ca, .int .u16 0] 25)).cell? ⟨w1.heap.size, 1, none⟩ = some (.int .u16 0) := by rw [World.cell?_alloc_at _ _ _ _ rfl]; rfl
  have HX := Lib.hid (And.intro d0 (And.intro d1 (And.intro x0 x1)))
  have HW := Lib.hid hW
  clear d0 d1 x0 x1 hW hb1 c0 c1
  go_wp2_with fail
  with_reducible refine (K1.out (w1.alloc (.cells #[.slice (some ⟨b1, o1, none⟩) 2 ca, .int .u16 0] 25)) (w1.heap.size + 1) (by simp)).mono ?_
  rintro e w2 ⟨b2, o2, cb, rfl, c0, c1, hb3⟩
  obtain ⟨d0, d1, x0, x1⟩ := HX.out
  have hb4 := hb3.alloc hb3.size (.cells #[.slice (some ⟨b2, o2, none⟩) 2 cb, .int .u16 40503] 25)
  have D0 := cell_later hb4 d0
  have D1 := cell_later hb4 d1
  have X0 := cell_later hb4 x0
  have X1 := cell_later hb4 x1
  have C0 := cell_later ((Below.refl _ _).alloc (Nat.le_refl _) (.cells #[.slice (some ⟨b2, o2, none⟩) 2 cb, .int .u16 40503] 25)) c0
  have C1 := cell_later ((Below.refl _ _).alloc (Nat.le_refl _) (.cells #[.slice (some ⟨b2, o2, none⟩) 2 cb, .int .u16 40503] 25)) c1
  have Y0 : (w2.alloc (.cells #[.slice (some ⟨b2, o2, none⟩) 2 cb, .int .u16 40503] 25)).cell? ⟨w2.heap.size, 0, none⟩ = some (.slice (some ⟨b2, o2, none⟩) 2 cb) := by rw [World.cell?_alloc_at _ _ _ _ rfl]; rfl
  have Y1 : (w2.alloc (.cells #[.slice (some ⟨b2, o2, none⟩) 2 cb, .int .u16 40503] 25)).cell? ⟨w2.heap.size, 1, none⟩ = some (.int .u16 40503) := by rw [World.cell?_alloc_at _ _ _ _ rfl]; rfl
  have HW2 := HW.out.trans (hb4.mono HW.out.size)
  clear HX d0 d1 x0 x1 hb3 hb4 HW c0 c1
  go_upto_region 3 with fail
  generalize w2.alloc (.cells #[.slice (some ⟨b2, o2, none⟩) 2 cb, .int .u16 40503] 25) = W3 at *
  generalize w1.heap.size = B1 at *
  generalize w2.heap.size = B2 at *
  have HW3 := Lib.hid HW2
  clear HW2
  go_wp2
  go_ret
  exact ⟨rfl, HW3.out⟩
end Go.Proofs.Ytpjaflcljnfjmaa
