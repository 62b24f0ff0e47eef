/-
  Lists of structs in memory: rows of k cells each, whatever is in them.
-/
import Derived.Test.YthajndgljfbifaaNats
import Derived.OwnWalk
namespace Go.Proofs.Ythajndgljfbifaa
open Go.RowKit

/-- All rows have k cells. -/
def Wide (k : Nat) (rows : List (List Value)) : Prop := ∀ r ∈ rows, r.length = k

theorem Wide.cons {k : Nat} {r : List Value} {rows : List (List Value)} (h : Wide k (r :: rows)) : r.length = k ∧ Wide k rows := ⟨h r (by simp), fun x hx => h x (by simp [hx])⟩

theorem length_flatten {k : Nat} : ∀ {rows : List (List Value)}, Wide k rows → rows.flatten.length = rows.length * k
  | [], _ => by simp
  | r :: rows, h => by
    obtain ⟨h1, h2⟩ := h.cons
    rw [List.flatten_cons, List.length_append, h1, length_flatten h2, List.length_cons, Nat.add_mul]; omega

theorem flatten_at {k : Nat} : ∀ {rows : List (List Value)}, Wide k rows → ∀ (i j : Nat) (hi : i < rows.length) (_hj : j < k), rows.flatten[i * k + j]? = rows[i][j]?
  | r :: rows, h, 0, j, _, hj => by
    obtain ⟨h1, h2⟩ := h.cons
    rw [List.flatten_cons, List.getElem?_append_left (by omega)]; simp
  | r :: rows, h, i + 1, j, hi, hj => by
    obtain ⟨h1, h2⟩ := h.cons
    rw [List.flatten_cons, List.getElem?_append_right (by rw [h1, Nat.add_mul]; omega), h1, show (i + 1) * k + j - k = i * k + j by rw [Nat.add_mul]; omega]
    exact flatten_at h2 i j (by simpa using hi) hj

theorem flatten_set {k : Nat} : ∀ {rows : List (List Value)}, Wide k rows → ∀ (i j : Nat) (v : Value) (hi : i < rows.length) (_hj : j < k), rows.flatten.set (i * k + j) v = (rows.set i (rows[i].set j v)).flatten
  | r :: rows, h, 0, j, v, _, hj => by
    obtain ⟨h1, h2⟩ := h.cons
    rw [List.flatten_cons, List.set_append_left _ _ (by omega)]; simp
  | r :: rows, h, i + 1, j, v, hi, hj => by
    obtain ⟨h1, h2⟩ := h.cons
    rw [List.flatten_cons, List.set_append_right _ _ (by rw [h1, Nat.add_mul]; omega), h1, show (i + 1) * k + j - k = i * k + j by rw [Nat.add_mul]; omega]
    rw [flatten_set h2 i j v (by simpa using hi) hj]; simp

theorem Wide.set {k : Nat} {rows : List (List Value)} (h : Wide k rows) {r : List Value} (hr : r.length = k) (i : Nat) : Wide k (rows.set i r) := fun x hx => by
  rcases List.mem_or_eq_of_mem_set hx with hx | rfl
  · exact h x hx
  · exact hr

theorem Wide.append {k : Nat} {a b : List (List Value)} (ha : Wide k a) (hb : Wide k b) : Wide k (a ++ b) := fun x hx => by
  rcases List.mem_append.1 hx with hx | hx
  · exact ha x hx
  · exact hb x hx

theorem Wide.map {α : Type} {k : Nat} (f : α → List Value) (hf : ∀ x, (f x).length = k) (l : List α) : Wide k (l.map f) := fun r hr => by
  obtain ⟨x, _, rfl⟩ := List.mem_map.1 hr
  exact hf x

/-- The rows lie in memory from address a on (a slice of them), in a block from B on; where there are none nothing is asked. -/
def RowsAt (B : Nat) (w : World) (a : Option Addr) (k : Nat) (rows : List (List Value)) : Prop :=
  rows = [] ∨ ∃ b off, a = some ⟨b, off, none⟩ ∧ B ≤ b ∧ ∀ i (hi : i < rows.length) j, j < k → w.cell? ⟨b, off + i * k + j, none⟩ = rows[i][j]?

theorem RowsAt.later {B k : Nat} {w w' : World} {a : Option Addr} {rows : List (List Value)} (h : RowsAt B w a k rows) (hw : Wide k rows) (hb : Below w.heap.size w w') : RowsAt B w' a k rows := by
  rcases h with h | ⟨b, off, ha, hB, h⟩
  · exact .inl h
  · refine .inr ⟨b, off, ha, hB, fun i hi j hj => ?_⟩
    have h1 := h i hi j hj
    rw [List.getElem?_eq_getElem (by rw [hw _ (List.getElem_mem hi)]; exact hj)] at h1 ⊢
    exact cell_later hb h1

theorem RowsAt.kept {B k : Nat} {w w' : World} {a : Option Addr} {rows : List (List Value)} {r : Option Nat} (h : RowsAt B w a k rows) (hw : Wide k rows) (hg : w.grownBy w' r) (hr : ∀ d, r = some d → d < B) : RowsAt B w' a k rows := by
  rcases h with h | ⟨b, off, ha, hB, h⟩
  · exact .inl h
  · refine .inr ⟨b, off, ha, hB, fun i hi j hj => ?_⟩
    have h1 := h i hi j hj
    rw [List.getElem?_eq_getElem (by rw [hw _ (List.getElem_mem hi)]; exact hj)] at h1 ⊢
    exact hg.cell h1 (fun e => by have := hr b e.symm; omega)

theorem RowsAt.mono {B B' k : Nat} {w : World} {a : Option Addr} {rows : List (List Value)} (h : RowsAt B w a k rows) (hB : B' ≤ B) : RowsAt B' w a k rows := by
  rcases h with h | ⟨b, off, ha, hb, h⟩
  · exact .inl h
  · exact .inr ⟨b, off, ha, by omega, h⟩

theorem RowsAt.some {B k : Nat} {w : World} {a : Option Addr} {rows : List (List Value)} (h : RowsAt B w a k rows) {i : Nat} (hi : i < rows.length) :
    ∃ b off, a = some ⟨b, off, none⟩ ∧ B ≤ b ∧ ∀ i (hi : i < rows.length) j, j < k → w.cell? ⟨b, off + i * k + j, none⟩ = rows[i][j]? := by
  rcases h with rfl | h
  · simp at hi
  · exact h

/-- What the call owns reads as rows. -/
theorem RowsAt.of_row {k : Nat} {w : World} {base : Nat} {e : TypeId} {v : Value} {n : Nat} {rows : List (List Value)} (hk : 0 < k) (hw : Wide k rows) (h : w.ownsRow base e k v n rows.flatten) :
    n = rows.length ∧ ∃ a cap, v = .slice a rows.length cap ∧ RowsAt base w a k rows ∧ rows.length ≤ cap := by
  have hn : n = rows.length := by
    have := h.1
    rw [length_flatten hw] at this
    exact (Nat.eq_of_mul_eq_mul_right hk this).symm
  subst hn
  refine ⟨rfl, ?_⟩
  rcases h.2 with ⟨hv, h0⟩ | ⟨g, cap, cur, hv, hb, _, hnc, _⟩
  · have hx : rows = [] := by cases rows with | nil => rfl | cons x r => simp at h0
    subst hx
    exact ⟨none, 0, hv, Or.inl rfl, by simp⟩
  · refine ⟨Option.some ⟨g, 0, none⟩, cap, hv, Or.inr ⟨g, 0, rfl, hb, fun i hi j hj => ?_⟩, hnc⟩
    subst hv
    have hm : i * k + k ≤ rows.length * k := by rw [← Nat.succ_mul]; exact Nat.mul_le_mul_right k hi
    have := h.cellAt (i * k + j) (by omega)
    rw [Nat.zero_add, this, flatten_at hw i j hi hj]

/-- What make gives reads as rows of zeros. -/
theorem made_rows (z : List Value) (n : Nat) : (madeCells z.toArray (n * z.length)).toList = (List.replicate n z).flatten := by
  have hW : Wide z.length (List.replicate n z) := fun r hr => by rw [(List.mem_replicate.1 hr).2]
  apply List.ext_getElem?
  intro j
  by_cases h0 : z.length = 0
  · have l1 : (madeCells z.toArray (n * z.length)).toList.length ≤ j := by rw [Array.length_toList, size_madeCells, h0]; omega
    have l2 : (List.replicate n z).flatten.length ≤ j := by rw [length_flatten hW, h0]; omega
    rw [List.getElem?_eq_none l1, List.getElem?_eq_none l2]
  · by_cases hj : j < n * z.length
    · have hm : j % z.length < z.length := Nat.mod_lt _ (by omega)
      have hd : j / z.length < n := Nat.div_lt_of_lt_mul (by rw [Nat.mul_comm]; exact hj)
      have e : j / z.length * z.length + j % z.length = j := by rw [Nat.mul_comm]; exact Nat.div_add_mod _ _
      have h := flatten_at hW (j / z.length) (j % z.length) (by simpa using hd) hm
      rw [e] at h
      rw [h]
      simp [madeCells, hj, hm]
    · have l1 : (madeCells z.toArray (n * z.length)).toList.length ≤ j := by rw [Array.length_toList, size_madeCells]; omega
      have l2 : (List.replicate n z).flatten.length ≤ j := by rw [length_flatten hW, List.length_replicate]; omega
      rw [List.getElem?_eq_none l1, List.getElem?_eq_none l2]
end Go.Proofs.Ythajndgljfbifaa
