/-
  The law's own same of two equal lists of places; what the laws ask of places and pages.
-/
import Derived.Test.YtpjaflcljnfjmaaReg2
import Derived.Test.YtpjaflcljnfjmaaReg3
import Derived.Test.YtpjaflcljnfjmaaReg5
namespace Go.Proofs.Ytpjaflcljnfjmaa
open Go.RowKit
theorem sum_split (s : List Nat) (k : Nat) : s.sum = (s.take k).sum + (s.drop k).sum := by
  rw [← List.sum_append, List.take_append_drop]

theorem take_lt {s : List Nat} {k j : Nat} (hk : k < s.length) (hj : j < s[k]) : (s.take k).sum + j < s.sum := by
  have h1 := sum_split s k
  rw [List.drop_eq_getElem_cons hk, List.sum_cons] at h1
  omega

/-- The number of a place is one. -/
theorem idx_bound {s : List Nat} {r o : Int} (h : insB s r o = true) : 0 ≤ idx s r o ∧ idx s r o < ((s.sum : Nat) : Int) := by
  rcases ins_split s r o with hv | ⟨k, j, hk, rfl, rfl, h4, hv⟩
  · rw [hv] at h; cases h
  · obtain ⟨e1, _⟩ := idx_in hv
    have := take_lt hk h4
    rw [e1, Int.toNat_natCast]
    omega

theorem idxE_zero (s : List Nat) (r o : Int) : (idxE s r o = 0 ∧ insB s r o = true) ∨ (idxE s r o = 6 ∧ insB s r o = false) := by
  unfold idxE
  by_cases h : insB s r o = true
  · left; rw [h]; simp
  · right; simp at h; rw [h]; simp

/-- There is a place exactly with the numbers from 0 on, below the sum. -/
theorem atE_zero (s : List Nat) (i : Int) : (atE s i = 0 ∧ 0 ≤ i ∧ i < ((s.sum : Nat) : Int)) ∨ (atE s i = 6 ∧ ¬ (0 ≤ i ∧ i < ((s.sum : Nat) : Int))) := by
  by_cases h0 : 0 ≤ i
  · obtain ⟨n, rfl⟩ : ∃ n : Nat, i = (n : Int) := ⟨i.toNat, by omega⟩
    have h1 := atF_none s 0 n
    have h2 := atO_nat s n
    by_cases hn : s.sum ≤ n
    · right
      rw [h1.2 hn] at h2
      exact ⟨(at_none h2).2.2, by omega⟩
    · left
      cases h3 : atF 0 s n with
      | none => exact absurd (h1.1 h3) hn
      | some p => rw [h3] at h2; exact ⟨(at_some (r := p.1) (o := p.2) h2).2.2, by omega, by omega⟩
  · right
    exact ⟨(at_none (atO_neg (by omega))).2.2, fun h => h0 h.1⟩

/-- The place with a number lies inside, and has that number. -/
theorem atF_inside (s : List Nat) : ∀ (q : Nat) (i r o : Nat), atF q (s.drop q) i = some (r, o) → q ≤ r ∧ ∃ h : r < s.length, o < s[r] ∧ (s.take r).sum + o = (s.take q).sum + i := by
  intro q
  induction hn : s.length - q generalizing q with
  | zero =>
    intro i r o h
    rw [atF_end s q i (by omega)] at h; cases h
  | succ n ih =>
    intro i r o h
    have hq : q < s.length := by omega
    by_cases hj : i < s[q]
    · rw [atF_here s q i hq hj] at h
      obtain ⟨rfl, rfl⟩ := Prod.mk.inj (Option.some.inj h)
      exact ⟨Nat.le_refl _, hq, hj, rfl⟩
    · rw [atF_next s q i hq hj] at h
      obtain ⟨h1, h2, h3, h4⟩ := ih (q + 1) (by omega) _ _ _ h
      refine ⟨by omega, h2, h3, ?_⟩
      rw [h4, sum_take_succ s q hq]; omega

theorem at_there {s : List Nat} {i : Nat} (h : i < s.sum) : ∃ r o : Nat, ∃ hr : r < s.length, atO s (i : Int) = some (r, o) ∧ o < s[r] ∧ (s.take r).sum + o = i := by
  cases h3 : atF 0 s i with
  | none => exact absurd ((atF_none s 0 i).1 h3) (by omega)
  | some p =>
    obtain ⟨r, o⟩ := p
    obtain ⟨_, hr, ho, he⟩ := atF_inside s 0 i r o (by simpa using h3)
    exact ⟨r, o, hr, by rw [atO_nat]; exact h3, ho, by simpa using he⟩

theorem take_mono (s : List Nat) {a b : Nat} (h : a ≤ b) : (s.take a).sum ≤ (s.take b).sum := by
  have h1 : s.take a = (s.take b).take a := by rw [List.take_take, Nat.min_eq_left h]
  have h2 := sum_split (s.take b) a
  rw [h1]; omega

/-- Two places with neighbouring numbers: in one region side by side, or in another one behind it. -/
theorem at_order {s : List Nat} {r o r' o' : Nat} (hr : r < s.length) (_hr' : r' < s.length) (ho : o < s[r]) (ho' : o' < s[r']) (h : (s.take r').sum + o' = (s.take r).sum + o + 1) : r ≤ r' ∧ (r' = r → o' = o + 1) := by
  refine ⟨?_, fun e => by subst e; omega⟩
  by_cases hlt : r ≤ r'
  · exact hlt
  · have h1 := take_mono s (show r' + 1 ≤ r by omega)
    rw [sum_take_succ s r' _hr'] at h1
    omega
/-- Three places, one behind the other in block Q. -/
def Three (w : World) (Q : Nat) : Prop :=
  ∀ k : Nat, k < 3 → ∃ r o : Int, w.cell? ⟨Q, k * 2, none⟩ = some (.int .i64 r) ∧ w.cell? ⟨Q, k * 2 + 1, none⟩ = some (.int .i64 o)

theorem three_new (w : World) (a b c d e f : Int) (T : TypeId) : Three (w.alloc (.cells #[.int .i64 a, .int .i64 b, .int .i64 c, .int .i64 d, .int .i64 e, .int .i64 f] T)) w.heap.size := by
  intro k hk
  have h3 : k = 0 ∨ k = 1 ∨ k = 2 := by omega
  rcases h3 with rfl | rfl | rfl
  · exact ⟨a, b, by rw [World.cell?_alloc_at _ _ _ _ rfl]; rfl, by rw [World.cell?_alloc_at _ _ _ _ rfl]; rfl⟩
  · exact ⟨c, d, by rw [World.cell?_alloc_at _ _ _ _ rfl]; rfl, by rw [World.cell?_alloc_at _ _ _ _ rfl]; rfl⟩
  · exact ⟨e, f, by rw [World.cell?_alloc_at _ _ _ _ rfl]; rfl, by rw [World.cell?_alloc_at _ _ _ _ rfl]; rfl⟩


theorem page_len {s : List Nat} (_h : Sz s) (i : Int) : (pagePl s i).length ≤ 1000000 := by
  unfold pagePl
  cases pageO s i with
  | none => simp
  | some x => simp only [placesOf, List.length_map, List.length_range]; omega
end Go.Proofs.Ytpjaflcljnfjmaa
