/-
  Plain mathematics of words and bytes. No program is imported.
-/
import Derived.Test.YthajndgljfbifaaMath
namespace Go.Proofs.Ythajndgljfbifaa

/-- Word i of a list of bytes. -/
def wordAt (xs : List Nat) (i : Nat) : Nat := xs.getD (2 * i) 0 * 256 + xs.getD (2 * i + 1) 0

def wordsTo (xs : List Nat) (k : Nat) : List Nat := (List.range k).map (wordAt xs)

def wordsOf (xs : List Nat) : List Nat := wordsTo xs (xs.length / 2)

theorem length_wordsTo (xs : List Nat) (k : Nat) : (wordsTo xs k).length = k := by simp [wordsTo]
theorem length_wordsOf (xs : List Nat) : (wordsOf xs).length = xs.length / 2 := length_wordsTo _ _

theorem wordsTo_succ (xs : List Nat) (k : Nat) : wordsTo xs (k + 1) = wordsTo xs k ++ [wordAt xs k] := by simp [wordsTo, List.range_succ]

theorem wordAt_lt (xs : List Nat) (h : ∀ x ∈ xs, x < 256) (i : Nat) : wordAt xs i < 65536 := by
  have hb : ∀ j, xs.getD j 0 < 256 := by
    intro j
    by_cases hj : j < xs.length
    · rw [List.getD_eq_getElem?_getD, List.getElem?_eq_getElem hj]; exact h _ (List.getElem_mem hj)
    · rw [List.getD_eq_getElem?_getD, List.getElem?_eq_none (by omega)]; decide
  have h1 := hb (2 * i)
  have h2 := hb (2 * i + 1)
  unfold wordAt
  omega

theorem wordsOf_lt (xs : List Nat) (h : ∀ x ∈ xs, x < 256) : ∀ x ∈ wordsOf xs, x < 65536 := by
  intro x hx
  simp only [wordsOf, wordsTo, List.mem_map] at hx
  obtain ⟨i, _, rfl⟩ := hx
  exact wordAt_lt xs h i

/-- The bytes of words. -/
def bytesOf : List Nat → List Nat
  | [] => []
  | v :: r => (v / 256) :: (v % 256) :: bytesOf r

theorem length_bytesOf : ∀ l : List Nat, (bytesOf l).length = 2 * l.length
  | [] => rfl
  | v :: r => by simp [bytesOf, length_bytesOf r]; omega

theorem bytesOf_append : ∀ a b : List Nat, bytesOf (a ++ b) = bytesOf a ++ bytesOf b
  | [], b => rfl
  | v :: r, b => by simp [bytesOf, bytesOf_append r b]

theorem bytesOf_lt : ∀ l : List Nat, (∀ x ∈ l, x < 65536) → ∀ y ∈ bytesOf l, y < 256
  | [], _ => by intro y hy; simp [bytesOf] at hy
  | v :: r, h => by
    intro y hy
    simp only [bytesOf, List.mem_cons] at hy
    have := h v (by simp)
    rcases hy with rfl | rfl | hy
    · omega
    · omega
    · exact bytesOf_lt r (fun x hx => h x (List.mem_cons_of_mem _ hx)) y hy

theorem take_succ_bytes (l : List Nat) (k : Nat) (h : k < l.length) : bytesOf (l.take (k + 1)) = bytesOf (l.take k) ++ [l[k] / 256, l[k] % 256] := by
  rw [List.take_succ_eq_append_getElem h, bytesOf_append]
  rfl

theorem getD_bytesOf : ∀ (l : List Nat) (i : Nat), (bytesOf l).getD (2 * i) 0 = l.getD i 0 / 256 ∧ (bytesOf l).getD (2 * i + 1) 0 = l.getD i 0 % 256
  | [], i => by simp [bytesOf]
  | v :: r, 0 => by simp [bytesOf]
  | v :: r, i + 1 => by
    have := getD_bytesOf r i
    rw [show 2 * (i + 1) = 2 * i + 2 by omega]
    simpa [bytesOf] using this

theorem wordAt_bytesOf (l : List Nat) (i : Nat) : wordAt (bytesOf l) i = l.getD i 0 := by
  have h := getD_bytesOf l i
  unfold wordAt
  rw [h.1, h.2]
  omega

theorem words_bytes (l : List Nat) : wordsOf (bytesOf l) = l := by
  apply List.ext_getElem
  · rw [length_wordsOf, length_bytesOf]; omega
  · intro i h1 h2
    simp only [wordsOf, wordsTo, List.getElem_map, List.getElem_range]
    rw [wordAt_bytesOf, List.getD_eq_getElem?_getD, List.getElem?_eq_getElem h2]
    rfl

theorem bytes_wordsTo (xs : List Nat) (h : ∀ x ∈ xs, x < 256) : ∀ k, 2 * k ≤ xs.length → bytesOf (wordsTo xs k) = xs.take (2 * k)
  | 0, _ => by simp [wordsTo, bytesOf]
  | k + 1, hk => by
    have h1 : 2 * k < xs.length := by omega
    have h2 : 2 * k + 1 < xs.length := by omega
    rw [wordsTo_succ, bytesOf_append, bytes_wordsTo xs h k (by omega), show 2 * (k + 1) = 2 * k + 1 + 1 by omega, List.take_succ_eq_append_getElem h2, List.take_succ_eq_append_getElem h1]
    have b2 := h _ (List.getElem_mem h2)
    have e : wordAt xs k = xs[2 * k] * 256 + xs[2 * k + 1] := by
      unfold wordAt
      rw [List.getD_eq_getElem?_getD, List.getElem?_eq_getElem h1, List.getD_eq_getElem?_getD, List.getElem?_eq_getElem h2]
      rfl
    simp only [bytesOf, List.append_assoc, List.cons_append, List.nil_append]
    rw [e, show (xs[2 * k] * 256 + xs[2 * k + 1]) / 256 = xs[2 * k] by omega, show (xs[2 * k] * 256 + xs[2 * k + 1]) % 256 = xs[2 * k + 1] by omega]

theorem bytes_words (xs : List Nat) (h : ∀ x ∈ xs, x < 256) (he : xs.length % 2 = 0) : bytesOf (wordsOf xs) = xs := by
  unfold wordsOf
  rw [bytes_wordsTo xs h _ (by omega), List.take_of_length_le (by omega)]

end Go.Proofs.Ythajndgljfbifaa
