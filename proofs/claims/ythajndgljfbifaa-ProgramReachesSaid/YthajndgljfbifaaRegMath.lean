/-
  Regions: valid sizes, places and pages, as lists of natural numbers.
-/
import Derived.Test.YthajndgljfbifaaProg
namespace Go.Proofs.Ythajndgljfbifaa

/-- Valid sizes: from 1 to 4 regions of 1 to 32 words. -/
def Sz (s : List Nat) : Prop := 1 ≤ s.length ∧ s.length ≤ 4 ∧ ∀ x ∈ s, 1 ≤ x ∧ x ≤ 32

/-- The same asked of any ints. -/
def validB (xs : List Int) : Bool := decide (1 ≤ xs.length ∧ xs.length ≤ 4 ∧ ∀ x ∈ xs, 1 ≤ x ∧ x ≤ 32)

/-- The pages of a region of n words. -/
def pg (n : Nat) : Nat := (n + 7) / 8

/-- The pages of all regions. -/
def pagesN (s : List Nat) : Nat := (s.map pg).sum

/-- The place with number i, where regions are counted from r on. -/
def atF : Nat → List Nat → Nat → Option (Nat × Nat)
  | _, [], _ => none
  | r, n :: t, i => if i < n then some (r, i) else atF (r + 1) t (i - n)

/-- Page i: its region, the size of that, and its number within it. -/
def pageF : Nat → List Nat → Nat → Option (Nat × Nat × Nat)
  | _, [], _ => none
  | r, n :: t, i => if i < pg n then some (r, n, i) else pageF (r + 1) t (i - pg n)

/-- The places of a page. -/
def placesOf (x : Nat × Nat × Nat) : List (Nat × Nat) := (List.range (min 8 (x.2.1 - 8 * x.2.2))).map fun j => (x.1, 8 * x.2.2 + j)

theorem sum_take_succ (s : List Nat) (k : Nat) (h : k < s.length) : (s.take (k + 1)).sum = (s.take k).sum + s[k] := by
  rw [List.take_succ_eq_append_getElem h, List.sum_append]; simp

theorem sum_le (s : List Nat) (h : ∀ x ∈ s, x ≤ 32) : s.sum ≤ 32 * s.length := by
  induction s with
  | nil => simp
  | cons x t ih =>
    have h1 := h x (by simp)
    have h2 := ih (fun y hy => h y (by simp [hy]))
    simp only [List.sum_cons, List.length_cons]; omega

theorem Sz.take_le {s : List Nat} (h : Sz s) (k : Nat) : (s.take k).sum ≤ 128 := by
  have h1 := sum_le (s.take k) (fun x hx => (h.2.2 x (List.mem_of_mem_take hx)).2)
  have h2 : (s.take k).length ≤ 4 := by rw [List.length_take]; have := h.2.1; omega
  omega

theorem Sz.sum_le {s : List Nat} (h : Sz s) : s.sum ≤ 128 := by
  have := h.take_le s.length
  rwa [List.take_length] at this

theorem Sz.sum_pos {s : List Nat} (h : Sz s) : 1 ≤ s.sum := by
  obtain ⟨h1, _, h2⟩ := h
  cases s with
  | nil => simp at h1
  | cons x t => have := h2 x (by simp); simp only [List.sum_cons]; omega

theorem pg_le {n : Nat} (h : n ≤ 32) : pg n ≤ 4 := by unfold pg; omega

theorem pages_take_succ (s : List Nat) (k : Nat) (h : k < s.length) : pagesN (s.take (k + 1)) = pagesN (s.take k) + pg s[k] := by
  unfold pagesN
  rw [List.take_succ_eq_append_getElem h, List.map_append, List.sum_append]; simp

theorem pagesN_le (s : List Nat) (h : ∀ x ∈ s, x ≤ 32) : pagesN s ≤ 4 * s.length := by
  induction s with
  | nil => simp [pagesN]
  | cons x t ih =>
    have h1 := pg_le (h x (by simp))
    have h2 := ih (fun y hy => h y (by simp [hy]))
    simp only [pagesN, List.map_cons, List.sum_cons, List.length_cons] at *; omega

theorem Sz.pages_take_le {s : List Nat} (h : Sz s) (k : Nat) : pagesN (s.take k) ≤ 16 := by
  have h1 := pagesN_le (s.take k) (fun x hx => (h.2.2 x (List.mem_of_mem_take hx)).2)
  have h2 : (s.take k).length ≤ 4 := by rw [List.length_take]; have := h.2.1; omega
  omega

theorem Sz.pages_le {s : List Nat} (h : Sz s) : pagesN s ≤ 16 := by
  have := h.pages_take_le s.length
  rwa [List.take_length] at this

theorem validB_nat (s : List Nat) : validB (s.map fun x : Nat => (x : Int)) = true ↔ Sz s := by
  unfold validB Sz
  simp only [List.length_map, List.mem_map, decide_eq_true_eq]
  constructor
  · rintro ⟨h1, h2, h3⟩
    exact ⟨h1, h2, fun x hx => by have := h3 x ⟨x, hx, rfl⟩; omega⟩
  · rintro ⟨h1, h2, h3⟩
    refine ⟨h1, h2, ?_⟩
    rintro x ⟨y, hy, rfl⟩
    have := h3 y hy; omega

theorem validB_some {xs : List Int} (h : validB xs = true) : ∃ s : List Nat, Sz s ∧ xs = s.map fun x : Nat => (x : Int) := by
  have h0 := h
  unfold validB at h0
  rw [decide_eq_true_eq] at h0
  have e : xs = (xs.map Int.toNat).map fun x : Nat => (x : Int) := by
    rw [List.map_map]
    conv => lhs; rw [← List.map_id xs]
    apply List.map_congr_left
    intro x hx
    have := h0.2.2 x hx
    simp only [id, Function.comp]; omega
  refine ⟨xs.map Int.toNat, ?_, e⟩
  rw [← validB_nat, ← e]
  exact h

theorem validB_take (xs : List Int) (k : Nat) (h : k < xs.length) (h1 : ∀ x ∈ xs.take k, 1 ≤ x ∧ x ≤ 32) (h2 : 1 ≤ xs[k] ∧ xs[k] ≤ 32) : ∀ x ∈ xs.take (k + 1), 1 ≤ x ∧ x ≤ 32 := by
  rw [List.take_succ_eq_append_getElem h]
  intro x hx
  rcases List.mem_append.1 hx with hx | hx
  · exact h1 x hx
  · simp at hx; subst hx; exact h2

theorem validB_bad (xs : List Int) (k : Nat) (h : k < xs.length) (h2 : ¬ (1 ≤ xs[k] ∧ xs[k] ≤ 32)) : validB xs = false := by
  unfold validB
  rw [decide_eq_false_iff_not]
  rintro ⟨_, _, h3⟩
  exact h2 (h3 _ (List.getElem_mem h))

theorem validB_all (xs : List Int) (h : ∀ x ∈ xs.take xs.length, 1 ≤ x ∧ x ≤ 32) : validB xs = decide (1 ≤ xs.length ∧ xs.length ≤ 4) := by
  rw [List.take_length] at h
  unfold validB
  by_cases h1 : 1 ≤ xs.length ∧ xs.length ≤ 4
  · rw [decide_eq_true (show _ ∧ _ ∧ _ from ⟨h1.1, h1.2, h⟩), decide_eq_true h1]
  · rw [decide_eq_false h1, decide_eq_false]
    rintro ⟨a, b, _⟩
    exact h1 ⟨a, b⟩

theorem drop_cons (s : List Nat) (k : Nat) (h : k < s.length) : s.drop k = s[k] :: s.drop (k + 1) := List.drop_eq_getElem_cons h

/-- One step of the search for a place: it is in region k, or behind it. -/
theorem atF_here (s : List Nat) (k j : Nat) (h : k < s.length) (hj : j < s[k]) : atF k (s.drop k) j = some (k, j) := by
  rw [drop_cons s k h]; simp [atF, hj]

theorem atF_next (s : List Nat) (k j : Nat) (h : k < s.length) (hj : ¬ j < s[k]) : atF k (s.drop k) j = atF (k + 1) (s.drop (k + 1)) (j - s[k]) := by
  rw [drop_cons s k h]; simp [atF, hj]

theorem atF_end (s : List Nat) (k j : Nat) (h : s.length ≤ k) : atF k (s.drop k) j = none := by
  rw [List.drop_eq_nil_of_le h]; rfl

theorem pageF_here (s : List Nat) (k j : Nat) (h : k < s.length) (hj : j < pg s[k]) : pageF k (s.drop k) j = some (k, s[k], j) := by
  rw [drop_cons s k h]; simp [pageF, hj]

theorem pageF_next (s : List Nat) (k j : Nat) (h : k < s.length) (hj : ¬ j < pg s[k]) : pageF k (s.drop k) j = pageF (k + 1) (s.drop (k + 1)) (j - pg s[k]) := by
  rw [drop_cons s k h]; simp [pageF, hj]

theorem pageF_end (s : List Nat) (k j : Nat) (h : s.length ≤ k) : pageF k (s.drop k) j = none := by
  rw [List.drop_eq_nil_of_le h]; rfl

/-- There is a page exactly below their number. -/
theorem pageF_none (s : List Nat) : ∀ r i, pageF r s i = none ↔ pagesN s ≤ i := by
  induction s with
  | nil => intro r i; simp [pageF, pagesN]
  | cons n t ih =>
    intro r i
    simp only [pageF, pagesN, List.map_cons, List.sum_cons]
    have := ih (r + 1) (i - pg n)
    unfold pagesN at this
    by_cases h : i < pg n
    · simp [h]; omega
    · simp only [h, if_false, this]; omega

theorem atF_none (s : List Nat) : ∀ r i, atF r s i = none ↔ s.sum ≤ i := by
  induction s with
  | nil => intro r i; simp [atF]
  | cons n t ih =>
    intro r i
    simp only [atF, List.sum_cons]
    have := ih (r + 1) (i - n)
    by_cases h : i < n
    · simp [h]; omega
    · simp only [h, if_false, this]; omega
end Go.Proofs.Ythajndgljfbifaa
