/-
  A slice of cells that came in, opened to a list.
-/
import Derived.Test.YtejbmidgnagcdaaGreatDoorOpen
namespace Go.Proofs.YtejbmidgnagcdaaGreatDoor
open Go.RowKit Go.ChangeShapes Go.WideShapes Go.ChangeAt Go.Deep
set_option maxRecDepth 100000

theorem add_plain (b off n : Nat) : (⟨b, off, none⟩ : Addr).add n = ⟨b, off + n, none⟩ := by unfold Addr.add; split <;> simp_all

theorem cellsOf_u8 : Tryz.prog.cellsOf 5 = 1 := by kernel_rfl
theorem cellsOf_u16 : Tryz.prog.cellsOf 71 = 1 := by kernel_rfl

/-- A function of an index, as a list. -/
theorem list_of (n : Nat) (P : Nat → Nat × Nat → Prop) (h : ∀ i, i < n → ∃ x, P i x) : ∃ xs : List (Nat × Nat), xs.length = n ∧ ∀ i (hi : i < xs.length), P i xs[i] := by
  induction n with
  | zero => exact ⟨[], rfl, fun i hi => by simp at hi⟩
  | succ n ih =>
    obtain ⟨xs, hl, hx⟩ := ih (fun i hi => h i (by omega))
    obtain ⟨x, hxn⟩ := h n (by omega)
    refine ⟨xs ++ [x], by simp [hl], fun i hi => ?_⟩
    by_cases e : i < xs.length
    · rw [List.getElem_append_left e]; exact hx i e
    · have e2 : i = n := by simp at hi; omega
      subst e2
      rw [List.getElem_append_right (by omega)]
      simpa using hxn

end Go.Proofs.YtejbmidgnagcdaaGreatDoor
