/-
  Lists of pairs of ints in memory: places.
-/
import Derived.Test.YtpjaflcljnfjmaaNats
import Derived.OwnWalk
namespace Go.Proofs.Ytpjaflcljnfjmaa
open Go.RowKit

/-- The places xs lie in memory from address a on (a slice of them); where there are none nothing is asked. -/
def PlacesAt (w : World) (a : Option Addr) (xs : List (Nat × Nat)) : Prop :=
  xs = [] ∨ ∃ b off, a = some ⟨b, off, none⟩ ∧ ∀ i (h : i < xs.length), w.cell? ⟨b, off + i * 2, none⟩ = some (.int .i64 (xs[i].1 : Int)) ∧ w.cell? ⟨b, off + i * 2 + 1, none⟩ = some (.int .i64 (xs[i].2 : Int))

theorem PlacesAt.later {w w' : World} {a : Option Addr} {xs : List (Nat × Nat)} (h : PlacesAt w a xs) (hb : Below w.heap.size w w') : PlacesAt w' a xs := by
  rcases h with h | ⟨b, off, ha, h⟩
  · exact .inl h
  · exact .inr ⟨b, off, ha, fun i hi => ⟨cell_later hb (h i hi).1, cell_later hb (h i hi).2⟩⟩

theorem PlacesAt.some {w : World} {a : Option Addr} {xs : List (Nat × Nat)} (h : PlacesAt w a xs) {k : Nat} (hk : k < xs.length) :
    ∃ b off, a = some ⟨b, off, none⟩ ∧ ∀ i (h : i < xs.length), w.cell? ⟨b, off + i * 2, none⟩ = some (.int .i64 (xs[i].1 : Int)) ∧ w.cell? ⟨b, off + i * 2 + 1, none⟩ = some (.int .i64 (xs[i].2 : Int)) := by
  rcases h with rfl | h
  · simp at hk
  · exact h

/-- The cells of a list of places, one after the other. -/
def flatP : List (Nat × Nat) → List Value
  | [] => []
  | x :: r => .int .i64 (x.1 : Int) :: .int .i64 (x.2 : Int) :: flatP r

theorem length_flatP : ∀ l : List (Nat × Nat), (flatP l).length = l.length * 2
  | [] => rfl
  | x :: r => by simp [flatP, length_flatP r]; omega

theorem flatP_append : ∀ a b : List (Nat × Nat), flatP (a ++ b) = flatP a ++ flatP b
  | [], b => rfl
  | x :: r, b => by simp [flatP, flatP_append r b]

theorem flatP_at : ∀ (l : List (Nat × Nat)) (i : Nat) (h : i < l.length), (flatP l)[i * 2]? = some (.int .i64 (l[i].1 : Int)) ∧ (flatP l)[i * 2 + 1]? = some (.int .i64 (l[i].2 : Int))
  | x :: r, 0, _ => by simp [flatP]
  | x :: r, i + 1, h => by
    have := flatP_at r i (by simpa using h)
    rw [show (i + 1) * 2 = i * 2 + 2 by omega]
    simpa [flatP] using this

theorem PlacesAt.of_row {w : World} {base : Nat} {e : TypeId} {v : Value} {n : Nat} {xs : List (Nat × Nat)} (h : w.ownsRow base e 2 v n (flatP xs)) :
    n = xs.length ∧ ∃ a cap, v = .slice a xs.length cap ∧ PlacesAt w a xs := by
  have hn : n = xs.length := by have := h.1; rw [length_flatP] at this; omega
  subst hn
  refine ⟨rfl, ?_⟩
  rcases h.2 with ⟨hv, h0⟩ | ⟨g, cap, cur, hv, hrest⟩
  · have hx : xs = [] := by cases xs with | nil => rfl | cons x r => simp at h0
    subst hx
    exact ⟨none, 0, hv, Or.inl rfl⟩
  · refine ⟨Option.some ⟨g, 0, none⟩, cap, hv, Or.inr ⟨g, 0, rfl, fun i hi => ?_⟩⟩
    subst hv
    have h1 := h.cellAt (i * 2) (by omega)
    have h2 := h.cellAt (i * 2 + 1) (by omega)
    rw [(flatP_at xs i hi).1] at h1
    rw [(flatP_at xs i hi).2] at h2
    rw [Nat.zero_add]
    exact ⟨h1, h2⟩

theorem flatP_set : ∀ (l : List (Nat × Nat)) (i t v : Nat), ((flatP l).set (i * 2) (.int .i64 (t : Int))).set (i * 2 + 1) (.int .i64 (v : Int)) = flatP (l.set i (t, v))
  | [], i, t, v => by simp [flatP]
  | x :: r, 0, t, v => by simp [flatP]
  | x :: r, i + 1, t, v => by
    have := flatP_set r i t v
    rw [show (i + 1) * 2 = i * 2 + 2 by omega]
    simpa [flatP] using this

theorem madeCells_place (n : Nat) : (madeCells #[Value.int .i64 0, Value.int .i64 0] (n * 2)).toList = flatP (List.replicate n (0, 0)) := by
  apply List.ext_getElem?
  intro j
  by_cases hj : j < n * 2
  · have h := flatP_at (List.replicate n (0, 0)) (j / 2) (by simp; omega)
    rcases Nat.mod_two_eq_zero_or_one j with h2 | h2
    · have e : j / 2 * 2 = j := by omega
      rw [e] at h
      rw [h.1]
      simp [madeCells, hj, h2]
    · have e : j / 2 * 2 + 1 = j := by omega
      rw [e] at h
      rw [h.2]
      simp [madeCells, hj, h2]
  · have l1 : (madeCells #[Value.int .i64 0, Value.int .i64 0] (n * 2)).toList.length ≤ j := by rw [Array.length_toList, size_madeCells]; omega
    have l2 : (flatP (List.replicate n (0, 0))).length ≤ j := by rw [length_flatP]; simp; omega
    rw [List.getElem?_eq_none l1, List.getElem?_eq_none l2]

/-- The first k places of region r from offset f on, behind them zeros up to n. -/
def rowsTo (r f n k : Nat) : List (Nat × Nat) := (List.range k).map (fun j => (r, f + j)) ++ List.replicate (n - k) (0, 0)

theorem rowsTo_set (r f n k : Nat) (h : k < n) : (rowsTo r f n k).set k (r, f + k) = rowsTo r f n (k + 1) := by
  unfold rowsTo
  rw [List.set_append_right _ _ (by simp), List.length_map, List.length_range, Nat.sub_self, show n - k = n - (k + 1) + 1 by omega, List.replicate_succ, List.range_succ, List.map_append, List.append_assoc]
  rfl

theorem rowsTo_at (r f n k : Nat) (h : k < n) : (flatP (rowsTo r f n k))[k * 2]? = some (.int .i64 0) ∧ (flatP (rowsTo r f n k))[k * 2 + 1]? = some (.int .i64 0) := by
  have hL : k < (rowsTo r f n k).length := by simp [rowsTo]; omega
  have hx : (rowsTo r f n k)[k] = (0, 0) := by
    have hq : (rowsTo r f n k)[k]? = some (0, 0) := by
      unfold rowsTo
      rw [List.getElem?_append_right (by simp), List.length_map, List.length_range, Nat.sub_self, List.getElem?_replicate, if_pos (by omega)]
    rw [List.getElem?_eq_getElem hL] at hq
    exact Option.some.inj hq
  have := flatP_at (rowsTo r f n k) k hL
  rw [hx] at this
  exact this

theorem rowsTo_full (r f n : Nat) : rowsTo r f n n = (List.range n).map (fun j => (r, f + j)) := by simp [rowsTo]

/-- The call returns a new list of places. -/
def GivesPlaces (xs : List (Nat × Nat)) (w : World) (e : Ending) (w' : World) : Prop :=
  ∃ a cap, e = .returned (.slice a xs.length cap) ∧ PlacesAt w' a xs ∧ Below w.heap.size w w'

theorem info_place : (Try.prog.info? 39).map (fun i => (i.zero, i.size, i.bytes)) = some (some (.agg #[.int .i64 0, .int .i64 0]), 2, 16) := by kernel_rfl
end Go.Proofs.Ytpjaflcljnfjmaa
