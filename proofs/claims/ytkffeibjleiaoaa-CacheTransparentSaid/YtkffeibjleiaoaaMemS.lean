/-
  The words of a replica and the lines of a cache: as lists, and as they lie in memory.
-/
import Derived.Test.YtkffeibjleiaoaaCells
import Derived.Test.YtkffeibjleiaoaaTab
import Derived.Test.YtkffeibjleiaoaaLayRes
namespace Go.Proofs.Ytkffeibjleiaoaa
open Go.RowKit

/-- A line of a cache. -/
structure MLine where
  tag : Int
  dirty : Bool
  cells : List (Nat × Nat)

/-- The words of a replica. -/
structure Mem where
  cells : List (Nat × Nat)
  lines : List MLine

/-- A line lies in memory at a place. -/
def LineAt (w : World) (b o : Nat) (x : MLine) : Prop :=
  w.cell? ⟨b, o, none⟩ = some (.int .i64 x.tag) ∧ w.cell? ⟨b, o + 1, none⟩ = some (.bool x.dirty) ∧ ∃ a c, w.cell? ⟨b, o + 2, none⟩ = some (.slice a x.cells.length c) ∧ CellsAt w a x.cells

theorem LineAt.later {w w' : World} {b o : Nat} {x : MLine} (h : LineAt w b o x) (hb : Below w.heap.size w w') : LineAt w' b o x := by
  obtain ⟨h0, h1, a, c, h2, h3⟩ := h
  exact ⟨cell_later hb h0, cell_later hb h1, a, c, cell_later hb h2, h3.later hb⟩

/-- The lines lie in memory from an address on. -/
def LinesAt (w : World) (a : Option Addr) (ls : List MLine) : Prop :=
  ls = [] ∨ ∃ b off, a = some ⟨b, off, none⟩ ∧ ∀ i (h : i < ls.length), LineAt w b (off + i * 3) ls[i]

theorem LinesAt.later {w w' : World} {a : Option Addr} {ls : List MLine} (h : LinesAt w a ls) (hb : Below w.heap.size w w') : LinesAt w' a ls := by
  rcases h with h | ⟨b, off, ha, h⟩
  · exact .inl h
  · exact .inr ⟨b, off, ha, fun i hi => (h i hi).later hb⟩

theorem LinesAt.some {w : World} {a : Option Addr} {ls : List MLine} (h : LinesAt w a ls) {k : Nat} (hk : k < ls.length) :
    ∃ b off, a = some ⟨b, off, none⟩ ∧ ∀ i (h : i < ls.length), LineAt w b (off + i * 3) ls[i] := by
  rcases h with rfl | h
  · simp at hk
  · exact h

/-- A cell is valid. -/
def okW (c : Nat × Nat) : Bool := decide (c.1 ≤ 2)

/-- A line is valid at its place. -/
def lineOk (i : Nat) (x : MLine) : Bool :=
  if x.tag = -1 then !x.dirty && decide (x.cells.length = 0) else decide (0 ≤ x.tag ∧ x.tag < 128 ∧ x.tag % 4 = (i : Int) ∧ x.cells.length = 4) && x.cells.all okW

/-- All lines are, from place i on. -/
def linesOk : Nat → List MLine → Bool
  | _, [] => true
  | i, x :: l => lineOk i x && linesOk (i + 1) l

/-- The words are valid. -/
def memOk (m : Mem) : Bool := decide (m.cells.length = 512 ∧ m.lines.length = 4) && (m.cells.all okW && linesOk 0 m.lines)

/-- All numbers fit their types. -/
def OkMem (m : Mem) : Prop := OkCells m.cells ∧ ∀ x ∈ m.lines, OkCells x.cells

theorem all_here (xs : List (Nat × Nat)) (k : Nat) (h : k < xs.length) : (xs.drop k).all okW = (okW xs[k] && (xs.drop (k + 1)).all okW) := by
  rw [List.drop_eq_getElem_cons h, List.all_cons]

theorem lines_here (ls : List MLine) (k : Nat) (h : k < ls.length) : linesOk k (ls.drop k) = (lineOk k ls[k] && linesOk (k + 1) (ls.drop (k + 1))) := by
  rw [List.drop_eq_getElem_cons h, linesOk]

theorem lines_end (ls : List MLine) (k : Nat) (h : ls.length ≤ k) : linesOk k (ls.drop k) = true := by
  rw [List.drop_eq_nil_of_le h, linesOk]

/-- The cells of a list, as memory has them. -/
def cellRow (c : Nat × Nat) : List Value := [.int .u8 (c.1 : Int), .int .u16 (c.2 : Int)]
def cellRows (xs : List (Nat × Nat)) : List (List Value) := xs.map cellRow

theorem wide_cells (xs : List (Nat × Nat)) : Wide 2 (cellRows xs) := Wide.map (k := 2) cellRow (fun _ => rfl) xs

theorem length_cellRows (xs : List (Nat × Nat)) : (cellRows xs).length = xs.length := by simp [cellRows]

theorem CellsAt.of_rows {B : Nat} {w : World} {a : Option Addr} {xs : List (Nat × Nat)} (h : RowsAt B w a 2 (cellRows xs)) : CellsAt w a xs := by
  rcases h with h | ⟨b, off, ha, _, h⟩
  · exact .inl (by simpa [cellRows] using h)
  · refine .inr ⟨b, off, ha, fun i hi => ⟨?_, ?_⟩⟩
    · have := h i (by rw [length_cellRows]; exact hi) 0 (by omega)
      simpa [cellRows, cellRow] using this
    · have := h i (by rw [length_cellRows]; exact hi) 1 (by omega)
      simpa [cellRows, cellRow] using this

/-- What the call owns reads as cells. -/
theorem CellsAt.of_own {w : World} {base n : Nat} {e : TypeId} {v : Value} {xs : List (Nat × Nat)} (h : w.ownsRow base e 2 v n (cellRows xs).flatten) :
    n = xs.length ∧ ∃ a cap, v = .slice a xs.length cap ∧ CellsAt w a xs ∧ xs.length ≤ cap := by
  obtain ⟨hn, a, cap, hv, hr, hc⟩ := RowsAt.of_row (by omega) (wide_cells xs) h
  rw [length_cellRows] at hn hv hc
  exact ⟨hn, a, cap, hv, .of_rows hr, hc⟩

theorem cellRows_set (xs : List (Nat × Nat)) (i : Nat) (hi : i < xs.length) (v : Nat) : (cellRows xs).flatten.set (i * 2 + 1) (.int .u16 (v : Int)) = (cellRows (xs.set i (xs[i].1, v))).flatten := by
  rw [flatten_set (wide_cells xs) i 1 _ (by rw [length_cellRows]; exact hi) (by omega)]
  simp [cellRows, cellRow, List.map_set]

theorem cellRows_at (xs : List (Nat × Nat)) (i j : Nat) (hi : i < xs.length) (hj : j < 2) : (cellRows xs).flatten[i * 2 + j]? = (cellRow xs[i])[j]? := by
  rw [flatten_at (wide_cells xs) i j (by rw [length_cellRows]; exact hi) hj]
  simp [cellRows]

/-! What a program's data are in memory. -/

/-- The word at an address after r regions and i words of the next one. -/
def loadAt (bs : List Int) (s : List Nat) (L : List (List Nat)) (r i : Nat) (a : Nat) : Nat :=
  match resO bs s (a : Int) with
  | some (q, o) => if q < r ∨ (q = r ∧ o < i) then (L.getD q []).getD o 0 else 0
  | none => 0

/-- All words then. -/
def loadTo (bs : List Int) (s : List Nat) (L : List (List Nat)) (r i : Nat) : List (Nat × Nat) := (List.range 512).map fun a => (0, loadAt bs s L r i a)

theorem length_loadTo (bs : List Int) (s : List Nat) (L : List (List Nat)) (r i : Nat) : (loadTo bs s L r i).length = 512 := by simp [loadTo]

theorem loadTo_at (bs : List Int) (s : List Nat) (L : List (List Nat)) (r i : Nat) (a : Nat) (ha : a < 512) : (loadTo bs s L r i)[a]'(by rw [length_loadTo]; exact ha) = (0, loadAt bs s L r i a) := by simp [loadTo]

theorem loadTo_start (bs : List Int) (s : List Nat) (L : List (List Nat)) : loadTo bs s L 0 0 = List.replicate 512 (0, 0) := by
  apply List.ext_getElem
  · rw [length_loadTo, List.length_replicate]
  · intro a h1 h2
    rw [length_loadTo] at h1
    rw [loadTo_at _ _ _ _ _ _ h1, List.getElem_replicate]
    congr 1
    unfold loadAt
    split
    · rw [if_neg (by omega)]
    · rfl

theorem loadTo_row (bs : List Int) (s : List Nat) (L : List (List Nat)) (r : Nat) (hr : r < L.length) : loadTo bs s L r (L[r]).length = loadTo bs s L (r + 1) 0 := by
  unfold loadTo
  congr 1
  funext a
  congr 1
  unfold loadAt
  split
  · rename_i q o _
    by_cases h : q = r
    · subst h
      rw [if_pos (show q < q + 1 ∨ _ by left; omega), getD_at L [] hr]
      by_cases h2 : o < L[q].length
      · rw [if_pos (.inr ⟨rfl, h2⟩)]
      · rw [if_neg (by omega), List.getD_eq_getElem?_getD, List.getElem?_eq_none (by omega)]; rfl
    · by_cases h2 : q < r
      · rw [if_pos (.inl h2), if_pos (.inl (by omega))]
      · rw [if_neg (by omega), if_neg (by omega)]
  · rfl

theorem loadTo_step (bs : List Int) (s : List Nat) (L : List (List Nat)) (hv : LV bs s) (r i : Nat) (hr : r < L.length) (hs : r < s.length) (hi : i < L[r].length) (hf : L[r].length ≤ s[r]) :
    ∃ a : Nat, bs.getD r 0 + (i : Int) = (a : Int) ∧ a < 512 ∧ loadTo bs s L r (i + 1) = (loadTo bs s L r i).set a (0, L[r][i]) := by
  have hH := ins_holds hv.1 (bs := bs) (k := r) (j := i) hs (by omega)
  obtain ⟨h0, h1⟩ := holds_range hv hH
  obtain ⟨a, ha⟩ : ∃ a : Nat, bs.getD r 0 + (i : Int) = (a : Int) := ⟨(bs.getD r 0 + (i : Int)).toNat, by omega⟩
  rw [ha] at hH h0 h1
  have hR := res_at hv hH
  rw [show ((a : Int) - bs.getD r 0).toNat = i by omega] at hR
  refine ⟨a, ha, by omega, ?_⟩
  apply List.ext_getElem
  · rw [List.length_set, length_loadTo, length_loadTo]
  · intro c h2 h3
    rw [length_loadTo] at h2
    rw [loadTo_at _ _ _ _ _ _ h2, List.getElem_set]
    by_cases e : a = c
    · subst e
      rw [if_pos rfl]
      congr 1
      unfold loadAt
      rw [hR]
      show (if r < r ∨ (r = r ∧ i < i + 1) then (L.getD r []).getD i 0 else 0) = _
      rw [if_pos (.inr ⟨rfl, by omega⟩), getD_at L [] hr, getD_at L[r] 0 hi]
    · rw [if_neg e, loadTo_at _ _ _ _ _ _ h2]
      congr 1
      unfold loadAt
      split
      · rename_i q o hq
        obtain ⟨_, h5⟩ := res_holds hv.1 hq
        have hne : ¬ (q = r ∧ o = i) := fun ⟨h6, h7⟩ => e (by rw [h6, h7] at h5; omega)
        by_cases h6 : q < r ∨ (q = r ∧ o < i)
        · rw [if_pos h6, if_pos (by omega)]
        · rw [if_neg h6, if_neg (by omega)]
      · rfl

theorem ok_loadTo (bs : List Int) (s : List Nat) (L : List (List Nat)) (hL : ∀ l ∈ L, ∀ x ∈ l, x < 65536) (r i : Nat) : OkCells (loadTo bs s L r i) := by
  intro c hc
  obtain ⟨a, ha, rfl⟩ := List.mem_map.1 hc
  refine ⟨by simp, ?_⟩
  show loadAt bs s L r i a < 65536
  unfold loadAt
  split
  · rename_i q o _
    split
    · by_cases h1 : q < L.length
      · rw [getD_at L [] h1]
        by_cases h2 : o < L[q].length
        · rw [getD_at L[q] 0 h2]; exact hL _ (List.getElem_mem h1) _ (List.getElem_mem h2)
        · rw [List.getD_eq_getElem?_getD, List.getElem?_eq_none (by omega)]; simp
      · rw [List.getD_eq_getElem?_getD (l := L), List.getElem?_eq_none (by omega)]; simp
    · simp
  · simp

theorem all_loadTo (bs : List Int) (s : List Nat) (L : List (List Nat)) (r i : Nat) : (loadTo bs s L r i).all okW = true := by
  rw [List.all_eq_true]
  intro c hc
  obtain ⟨a, ha, rfl⟩ := List.mem_map.1 hc
  rfl
end Go.Proofs.Ytkffeibjleiaoaa
