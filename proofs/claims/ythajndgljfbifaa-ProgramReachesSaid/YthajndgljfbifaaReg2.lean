/-
  Contracts: Inside, Index and the document's own Inside, Index.
-/
import Derived.Test.YthajndgljfbifaaReg1
namespace Go.Proofs.Ythajndgljfbifaa
open Go.RowKit

/-- Region r and offset o are a place. -/
def insB (s : List Nat) (r o : Int) : Bool := decide (0 ≤ r ∧ r < (s.length : Int) ∧ 0 ≤ o ∧ o < ((s.getD r.toNat 0 : Nat) : Int))

/-- The number of a place, or 0. -/
def idx (s : List Nat) (r o : Int) : Int := if insB s r o then (((s.take r.toNat).sum : Nat) : Int) + o else 0

/-- The error of a place: 0, or 6 if it is none. -/
def idxE (s : List Nat) (r o : Int) : Int := if insB s r o then 0 else 6

theorem ins_in (s : List Nat) (r o : Nat) (hr : r < s.length) (ho : o < s[r]) : insB s (r : Int) (o : Int) = true := by
  unfold insB
  rw [decide_eq_true_eq]
  refine ⟨by omega, by omega, by omega, ?_⟩
  rw [Int.toNat_natCast, List.getD_eq_getElem?_getD, List.getElem?_eq_getElem hr]
  simpa using ho

theorem ins_cases (s : List Nat) (r o : Int) :
    (r < 0 ∧ insB s r o = false) ∨ (0 ≤ r ∧ (s.length : Int) ≤ r ∧ insB s r o = false) ∨ (∃ k : Nat, r = (k : Int) ∧ k < s.length ∧ o < 0 ∧ insB s r o = false) ∨
    (∃ k j : Nat, ∃ h : k < s.length, r = (k : Int) ∧ o = (j : Int) ∧ ¬ j < s[k] ∧ insB s r o = false) ∨ (∃ k j : Nat, ∃ h : k < s.length, r = (k : Int) ∧ o = (j : Int) ∧ j < s[k] ∧ insB s r o = true) := by
  by_cases h1 : r < 0
  · exact .inl ⟨h1, by unfold insB; exact decide_eq_false (fun h => by omega)⟩
  · by_cases h2 : (s.length : Int) ≤ r
    · exact .inr (.inl ⟨by omega, h2, by unfold insB; exact decide_eq_false (fun h => by omega)⟩)
    · obtain ⟨k, rfl⟩ : ∃ k : Nat, r = (k : Int) := ⟨r.toNat, by omega⟩
      have hk : k < s.length := by omega
      by_cases h3 : o < 0
      · exact .inr (.inr (.inl ⟨k, rfl, hk, h3, by unfold insB; exact decide_eq_false (fun h => by omega)⟩))
      · obtain ⟨j, rfl⟩ : ∃ j : Nat, o = (j : Int) := ⟨o.toNat, by omega⟩
        by_cases h4 : j < s[k]
        · exact .inr (.inr (.inr (.inr ⟨k, j, hk, rfl, rfl, h4, ins_in s k j hk h4⟩)))
        · refine .inr (.inr (.inr (.inl ⟨k, j, hk, rfl, rfl, h4, ?_⟩)))
          unfold insB
          refine decide_eq_false (fun h => ?_)
          have h5 := h.2.2.2
          rw [Int.toNat_natCast, List.getD_eq_getElem?_getD, List.getElem?_eq_getElem hk] at h5
          simp at h5
          omega

set_option maxHeartbeats 1000000 in
theorem ref02_Inside (a : Option Addr) (s : List Nat) (cap : Nat) (r o : Int) (w : World) (hs : Sz s) (ha : NatsAt .i64 w a s) :
    Calls Try.prog 117 #[.slice a s.length cap, .agg #[.int .i64 r, .int .i64 o]] w fun e w' => e = .returned (.bool (insB s r o)) ∧ Below w.heap.size w w' := by
  have hB := Below.alloc (Below.refl w.heap.size w) (Nat.le_refl _) (.cells #[.int .i64 r, .int .i64 o] 162)
  have hl4 := hs.2.1
  have HI := Lib.hid hs
  clear hs
  rcases ins_cases s r o with ⟨h1, hv⟩ | ⟨h1, h2, hv⟩ | ⟨k, rfl, hk, h3, hv⟩ | ⟨k, j, hk, rfl, rfl, h4, hv⟩ | ⟨k, j, hk, rfl, rfl, h4, hv⟩
  all_goals have HW := Lib.hid hv; clear hv
  · have g1 : decide (0 ≤ r) = false := by simp; omega
    go_enter Try.func117, Try.ntmps117
    go_wp2
    go_quiet (fail)
    go_wp2
    go_ret
    exact ⟨ret_bool HW.out.symm, below_drewN hB _⟩
  · have g1 : decide (r < (s.length : Int)) = false := by simp; omega
    go_enter Try.func117, Try.ntmps117
    go_wp2
    go_quiet (fail)
    go_wp2
    go_ret
    exact ⟨ret_bool HW.out.symm, below_drewN hB _⟩
  · have i1 : (k : Int) < (s.length : Int) := by omega
    have i2 : 0 ≤ (k : Int) := by omega
    have g1 : decide (0 ≤ o) = false := by simp; omega
    go_enter Try.func117, Try.ntmps117
    go_wp2
    go_quiet (fail)
    go_wp2
    go_ret
    exact ⟨ret_bool HW.out.symm, below_drewN hB _⟩
  · have i1 : (k : Int) < (s.length : Int) := by omega
    have i2 : 0 ≤ (k : Int) := by omega
    obtain ⟨b, off, rfl, hc⟩ := ha.some hk
    have c1 := cell_later hB (hc k hk)
    clear hc
    generalize s[k] = x at *
    go_enter Try.func117, Try.ntmps117
    go_wp2
    go_quiet (fail)
    go_wp2
    go_ret
    exact ⟨ret_bool HW.out.symm, below_drewN hB _⟩
  · have i1 : (k : Int) < (s.length : Int) := by omega
    have i2 : 0 ≤ (k : Int) := by omega
    obtain ⟨b, off, rfl, hc⟩ := ha.some hk
    have c1 := cell_later hB (hc k hk)
    clear hc
    generalize s[k] = x at *
    go_enter Try.func117, Try.ntmps117
    go_wp2
    go_quiet (fail)
    go_wp2
    go_ret
    exact ⟨ret_bool HW.out.symm, below_drewN hB _⟩

/-- A block of two cells that the call has made, later on. -/
theorem boxed {w w1 : World} {B : Nat} {x y : Value} {T : TypeId} (h : Below B (w.alloc (.cells #[x, y] T)) w1) (hB : w.heap.size < B) :
    w1.cell? ⟨w.heap.size, 0, none⟩ = some x ∧ w1.cell? ⟨w.heap.size, 1, none⟩ = some y := by
  have h0 : (w.alloc (.cells #[x, y] T)).cell? ⟨w.heap.size, 0, none⟩ = some x := by rw [World.cell?_alloc_at _ _ _ _ rfl]; rfl
  have h1 : (w.alloc (.cells #[x, y] T)).cell? ⟨w.heap.size, 1, none⟩ = some y := by rw [World.cell?_alloc_at _ _ _ _ rfl]; rfl
  exact ⟨(h.cell (p := ⟨w.heap.size, 0, none⟩) hB).trans h0, (h.cell (p := ⟨w.heap.size, 1, none⟩) hB).trans h1⟩

theorem idx_in {s : List Nat} {r o : Int} (h : insB s r o = true) : idx s r o = (((s.take r.toNat).sum : Nat) : Int) + o ∧ idxE s r o = 0 := by
  unfold idx idxE; rw [h]; simp

theorem idx_out {s : List Nat} {r o : Int} (h : insB s r o = false) : idx s r o = 0 ∧ idxE s r o = 6 := by
  unfold idx idxE; rw [h]; simp

theorem ins_split (s : List Nat) (r o : Int) : (insB s r o = false) ∨ (∃ k j : Nat, ∃ h : k < s.length, r = (k : Int) ∧ o = (j : Int) ∧ j < s[k] ∧ insB s r o = true) := by
  rcases ins_cases s r o with ⟨h1, hv⟩ | ⟨h1, h2, hv⟩ | ⟨k, rfl, hk, h3, hv⟩ | ⟨k, j, hk, rfl, rfl, h4, hv⟩ | ⟨k, j, hk, rfl, rfl, h4, hv⟩
  · exact .inl hv
  · exact .inl hv
  · exact .inl hv
  · exact .inl hv
  · exact .inr ⟨k, j, hk, rfl, rfl, h4, hv⟩

theorem NatsAt.take {k : IntKind} {w : World} {a : Option Addr} {xs : List Nat} (h : NatsAt k w a xs) (n : Nat) : NatsAt k w a (xs.take n) := by
  rcases h with rfl | ⟨b, off, ha, h⟩
  · exact .inl (by simp)
  · exact .inr ⟨b, off, ha, fun i hi => by rw [h i (by simp at hi; omega), List.getElem_take]⟩

end Go.Proofs.Ythajndgljfbifaa
