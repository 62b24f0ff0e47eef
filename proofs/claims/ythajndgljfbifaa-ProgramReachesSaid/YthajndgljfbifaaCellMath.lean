/-
  Plain mathematics of lists of cells (a tag and a value each): the distance. No program is imported.
-/
import Derived.Test.YthajndgljfbifaaMath
namespace Go.Proofs.Ythajndgljfbifaa

/-- The distance of two cells. -/
def cellD (x y : Nat × Nat) : Nat := ones (x.2 ^^^ y.2) + if x.1 = y.1 then 0 else 1

theorem cellD_le (x y : Nat × Nat) : cellD x y ≤ 17 := by
  unfold cellD
  have := ones_le (x.2 ^^^ y.2)
  split <;> omega

/-- What place i contributes. -/
def placeD (xs ys : List (Nat × Nat)) (i : Nat) : Nat :=
  match xs[i]?, ys[i]? with
  | some x, some y => cellD x y
  | none, none => 0
  | _, _ => 17

def distTo (xs ys : List (Nat × Nat)) : Nat → Nat
  | 0 => 0
  | n + 1 => distTo xs ys n + placeD xs ys n

def dist (xs ys : List (Nat × Nat)) : Nat := distTo xs ys (max xs.length ys.length)

theorem placeD_le (xs ys : List (Nat × Nat)) (i : Nat) : placeD xs ys i ≤ 17 := by
  unfold placeD
  split
  · exact cellD_le _ _
  · omega
  · omega

theorem distTo_le (xs ys : List (Nat × Nat)) (n : Nat) : distTo xs ys n ≤ 17 * n := by
  induction n with
  | zero => exact Nat.le_refl _
  | succ n ih => have := placeD_le xs ys n; simp only [distTo]; omega

theorem placeD_both (xs ys : List (Nat × Nat)) (i : Nat) (h1 : i < xs.length) (h2 : i < ys.length) : placeD xs ys i = cellD xs[i] ys[i] := by
  unfold placeD
  rw [List.getElem?_eq_getElem h1, List.getElem?_eq_getElem h2]

theorem placeD_left (xs ys : List (Nat × Nat)) (i : Nat) (h1 : i < xs.length) (h2 : ys.length ≤ i) : placeD xs ys i = 17 := by
  unfold placeD
  rw [List.getElem?_eq_getElem h1, List.getElem?_eq_none h2]

theorem placeD_right (xs ys : List (Nat × Nat)) (i : Nat) (h1 : xs.length ≤ i) (h2 : i < ys.length) : placeD xs ys i = 17 := by
  unfold placeD
  rw [List.getElem?_eq_getElem h2, List.getElem?_eq_none h1]

theorem placeD_none (xs ys : List (Nat × Nat)) (i : Nat) (h1 : xs.length ≤ i) (h2 : ys.length ≤ i) : placeD xs ys i = 0 := by
  unfold placeD
  rw [List.getElem?_eq_none h1, List.getElem?_eq_none h2]

/-- Behind the shorter one each place counts 17. -/
theorem distTo_tail (xs ys : List (Nat × Nat)) (n : Nat) : min xs.length ys.length + n ≤ max xs.length ys.length →
    distTo xs ys (min xs.length ys.length + n) = distTo xs ys (min xs.length ys.length) + 17 * n := by
  induction n with
  | zero => intro _; rfl
  | succ n ih =>
    intro h
    rw [← Nat.add_assoc, distTo, ih (by omega)]
    by_cases hl : xs.length ≤ ys.length
    · rw [placeD_right xs ys _ (by omega) (by omega)]; omega
    · rw [placeD_left xs ys _ (by omega) (by omega)]; omega

theorem dist_eq (xs ys : List (Nat × Nat)) : 17 * (max xs.length ys.length - min xs.length ys.length) + distTo xs ys (min xs.length ys.length) = dist xs ys := by
  have h := distTo_tail xs ys (max xs.length ys.length - min xs.length ys.length) (by omega)
  rw [show min xs.length ys.length + (max xs.length ys.length - min xs.length ys.length) = max xs.length ys.length by omega] at h
  unfold dist
  omega

theorem dist_le (xs ys : List (Nat × Nat)) : dist xs ys ≤ 17 * max xs.length ys.length := distTo_le _ _ _

/-- Places that neither has count nothing. -/
theorem distTo_more (xs ys : List (Nat × Nat)) (n : Nat) : distTo xs ys (max xs.length ys.length + n) = dist xs ys := by
  induction n with
  | zero => rfl
  | succ n ih => rw [← Nat.add_assoc, distTo, ih, placeD_none xs ys _ (by omega) (by omega)]; rfl

theorem distTo_all (xs ys : List (Nat × Nat)) (n : Nat) (h : max xs.length ys.length ≤ n) : distTo xs ys n = dist xs ys := by
  have := distTo_more xs ys (n - max xs.length ys.length)
  rw [show max xs.length ys.length + (n - max xs.length ys.length) = n by omega] at this
  exact this

/-! ### It is a metric -/

theorem onesTo_tri (a b c n : Nat) : onesTo (a ^^^ c) n ≤ onesTo (a ^^^ b) n + onesTo (b ^^^ c) n := by
  induction n with
  | zero => simp [onesTo]
  | succ n ih =>
    simp only [onesTo, bit_xor] at *
    generalize onesTo (a ^^^ c) n = p at *
    generalize onesTo (a ^^^ b) n = q at *
    generalize onesTo (b ^^^ c) n = r at *
    have h1 := Nat.mod_two_eq_zero_or_one (a / 2 ^ n)
    have h2 := Nat.mod_two_eq_zero_or_one (b / 2 ^ n)
    have h3 := Nat.mod_two_eq_zero_or_one (c / 2 ^ n)
    rcases h1 with h1 | h1 <;> rcases h2 with h2 | h2 <;> rcases h3 with h3 | h3 <;> simp only [h1, h2, h3] <;> omega

theorem cellD_tri (x y z : Nat × Nat) : cellD x z ≤ cellD x y + cellD y z := by
  unfold cellD
  have := onesTo_tri x.2 y.2 z.2 16
  unfold ones
  by_cases a : x.1 = y.1 <;> by_cases b : y.1 = z.1 <;> by_cases c : x.1 = z.1 <;> simp only [a, b, c, if_true, if_false] <;> first | omega | (exfalso; omega)

theorem placeD_tri (xs ys zs : List (Nat × Nat)) (i : Nat) : placeD xs zs i ≤ placeD xs ys i + placeD ys zs i := by
  unfold placeD
  cases xs[i]? with
  | none => cases ys[i]? with
    | none => cases zs[i]? <;> simp
    | some y => cases zs[i]? <;> simp
  | some x => cases ys[i]? with
    | none => cases zs[i]? with
      | none => simp
      | some z => simp only; have := cellD_le x z; omega
    | some y => cases zs[i]? with
      | none => simp
      | some z => exact cellD_tri x y z

theorem distTo_tri (xs ys zs : List (Nat × Nat)) (n : Nat) : distTo xs zs n ≤ distTo xs ys n + distTo ys zs n := by
  induction n with
  | zero => simp [distTo]
  | succ n ih => have := placeD_tri xs ys zs n; simp only [distTo]; omega

theorem dist_tri (xs ys zs : List (Nat × Nat)) : dist xs zs ≤ dist xs ys + dist ys zs := by
  have h := distTo_tri xs ys zs (max xs.length (max ys.length zs.length))
  rw [distTo_all _ _ _ (by omega), distTo_all _ _ _ (by omega), distTo_all _ _ _ (by omega)] at h
  exact h

theorem cellD_comm (x y : Nat × Nat) : cellD x y = cellD y x := by
  unfold cellD
  rw [Nat.xor_comm]
  by_cases h : x.1 = y.1
  · rw [if_pos h, if_pos h.symm]
  · rw [if_neg h, if_neg (fun e => h e.symm)]

theorem placeD_comm (xs ys : List (Nat × Nat)) (i : Nat) : placeD xs ys i = placeD ys xs i := by
  unfold placeD
  cases xs[i]? <;> cases ys[i]? <;> simp [cellD_comm]

theorem distTo_comm (xs ys : List (Nat × Nat)) (n : Nat) : distTo xs ys n = distTo ys xs n := by
  induction n with
  | zero => rfl
  | succ n ih => simp only [distTo, ih, placeD_comm xs ys]

theorem dist_comm (xs ys : List (Nat × Nat)) : dist xs ys = dist ys xs := by
  unfold dist
  rw [distTo_comm, Nat.max_comm]

theorem onesTo_none (v n : Nat) (h : onesTo v n = 0) : v % 2 ^ n = 0 := by
  induction n generalizing v with
  | zero => simp [Nat.mod_one]
  | succ n ih =>
    rw [onesTo_half] at h
    have h2 := ih (v / 2) (by omega)
    have h1 : v % 2 = 0 := by omega
    rw [Nat.pow_succ, Nat.mul_comm, Nat.mod_mul]
    omega

theorem ones_none (v : Nat) (hv : v < 65536) (h : ones v = 0) : v = 0 := by
  have := onesTo_none v 16 h
  rw [Nat.mod_eq_of_lt hv] at this
  exact this

theorem xor_none (a b : Nat) (h : a ^^^ b = 0) : a = b := by
  have h2 : a ^^^ (a ^^^ b) = a ^^^ 0 := by rw [h]
  rw [← Nat.xor_assoc, Nat.xor_self, Nat.zero_xor, Nat.xor_zero] at h2
  exact h2.symm

/-- Cells as they can be in memory. -/
def OkCells (xs : List (Nat × Nat)) : Prop := ∀ x ∈ xs, x.1 < 256 ∧ x.2 < 65536

theorem cellD_zero (x y : Nat × Nat) (hx : x.2 < 65536) (hy : y.2 < 65536) : cellD x y = 0 ↔ x = y := by
  unfold cellD
  constructor
  · intro h
    have h1 : x.1 = y.1 := by
      by_cases e : x.1 = y.1
      · exact e
      · rw [if_neg e] at h; omega
    have h2 := xor_none _ _ (ones_none _ (xor_lt _ _ hx hy) (by omega))
    exact Prod.ext h1 h2
  · rintro rfl
    rw [if_pos rfl, Nat.xor_self, ones_zero]

theorem placeD_same (xs : List (Nat × Nat)) (i : Nat) : placeD xs xs i = 0 := by
  unfold placeD
  cases xs[i]? with
  | none => rfl
  | some x => simp [cellD, ones_zero]

theorem distTo_same (xs : List (Nat × Nat)) (n : Nat) : distTo xs xs n = 0 := by
  induction n with
  | zero => rfl
  | succ n ih => rw [distTo, ih, placeD_same]

theorem dist_same (xs : List (Nat × Nat)) : dist xs xs = 0 := distTo_same _ _

theorem distTo_part (xs ys : List (Nat × Nat)) (n : Nat) (h : distTo xs ys n = 0) : ∀ i, i < n → placeD xs ys i = 0 := by
  induction n with
  | zero => intro i hi; omega
  | succ n ih =>
    rw [distTo] at h
    intro i hi
    by_cases e : i = n
    · subst e; omega
    · exact ih (by omega) i (by omega)

theorem dist_zero (xs ys : List (Nat × Nat)) (hx : OkCells xs) (hy : OkCells ys) : dist xs ys = 0 ↔ xs = ys := by
  constructor
  · intro h
    have hp := distTo_part xs ys _ h
    apply List.ext_getElem?
    intro i
    by_cases hi : i < max xs.length ys.length
    · have := hp i hi
      by_cases h1 : i < xs.length
      · by_cases h2 : i < ys.length
        · rw [placeD_both _ _ _ h1 h2, cellD_zero _ _ (hx _ (List.getElem_mem h1)).2 (hy _ (List.getElem_mem h2)).2] at this
          rw [List.getElem?_eq_getElem h1, List.getElem?_eq_getElem h2, this]
        · rw [placeD_left _ _ _ h1 (by omega)] at this; omega
      · rw [placeD_right _ _ _ (by omega) (by omega)] at this; omega
    · rw [List.getElem?_eq_none (by omega), List.getElem?_eq_none (by omega)]
  · rintro rfl
    exact dist_same xs

end Go.Proofs.Ythajndgljfbifaa
