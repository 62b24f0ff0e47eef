/-
  The words and lines of a replica in memory of the call's own: which blocks they are, and what stores into them do.
-/
import Derived.Test.YtkffeibjleiaoaaCaMath
import Derived.Test.YtkffeibjleiaoaaMemCopy
import Derived.Laws.OwnMore
import Derived.Deep.Onto
import Derived.Deep.AppendLies
namespace Go.Proofs.Ytkffeibjleiaoaa
open Go.RowKit

/-- The words and lines lie in memory. -/
def MemAt (w : World) (a al : Option Addr) (m : Mem) : Prop := CellsAt w a m.cells ∧ LinesAt w al m.lines

theorem MemAt.later {w w' : World} {a al : Option Addr} {m : Mem} (h : MemAt w a al m) (hb : Below w.heap.size w w') : MemAt w' a al m := ⟨h.1.later hb, h.2.later hb⟩

theorem _root_.Go.World.ownsRow.late {w w' : World} {base : Nat} {e : TypeId} {k : Nat} {v : Value} {n : Nat} {xs : List Value} (h : w.ownsRow base e k v n xs) (hb : Below w.heap.size w w') : w'.ownsRow base e k v n xs :=
  h.kept (grownBy_below hb rfl none) (by
    by_cases hn : v.ownBlock = none
    · exact .inl hn
    · exact .inr hn)

def lineRow (x : MLine) (v : Value) : List Value := [.int .i64 x.tag, .bool x.dirty, v]
def lineRows (ls : List MLine) (vs : List Value) : List (List Value) := List.zipWith lineRow ls vs

theorem wide_lines (ls : List MLine) (vs : List Value) : Wide 3 (lineRows ls vs) := by
  intro r hr
  unfold lineRows at hr
  obtain ⟨i, hi, rfl⟩ := List.getElem_of_mem hr
  simp [lineRow]

theorem length_lineRows (ls : List MLine) (vs : List Value) (h : vs.length = ls.length) : (lineRows ls vs).length = ls.length := by simp [lineRows, h]

theorem lineRows_get (ls : List MLine) (vs : List Value) (i j : Nat) (h1 : i < ls.length) (h2 : i < vs.length) (hj : j < 3) : (lineRows ls vs).flatten[i * 3 + j]? = (lineRow ls[i] vs[i])[j]? := by
  rw [flatten_at (wide_lines ls vs) i j (by simp [lineRows]; omega) hj]
  simp [lineRows]

theorem lineRows_set (ls : List MLine) (vs : List Value) (i : Nat) (x : MLine) (v : Value) : (lineRows ls vs).set i (lineRow x v) = lineRows (ls.set i x) (vs.set i v) := by
  unfold lineRows
  apply List.ext_getElem
  · simp
  · intro k h3 h4
    simp only [List.getElem_set, List.getElem_zipWith]
    split <;> rfl

theorem list_of {α : Type} {P : Nat → α → Prop} : ∀ n, (∀ i, i < n → ∃ v, P i v) → ∃ l : List α, l.length = n ∧ ∀ i (h : i < l.length), P i l[i]
  | 0, _ => ⟨[], rfl, fun i h => by simp at h⟩
  | n + 1, h => by
    obtain ⟨l, hl, hp⟩ := list_of n (fun i hi => h i (by omega))
    obtain ⟨v, hv⟩ := h n (by omega)
    refine ⟨l ++ [v], by simp [hl], fun i hi => ?_⟩
    by_cases hi2 : i < l.length
    · rw [List.getElem_append_left hi2]; exact hp i hi2
    · have : i = n := by simp at hi; omega
      subst this
      rw [List.getElem_append_right (by omega)]
      simpa [hl] using hv

/-- The lines in memory, their slices as values. -/
theorem lines_values {w : World} {a : Option Addr} {ls : List MLine} (h : LinesAt w a ls) :
    ∃ vs : List Value, vs.length = ls.length ∧ RowsAt 0 w a 3 (lineRows ls vs) ∧ ∀ i (h1 : i < ls.length) (h2 : i < vs.length), ∃ a c, vs[i] = .slice a ls[i].cells.length c ∧ CellsAt w a ls[i].cells := by
  rcases h with rfl | ⟨b, off, rfl, h⟩
  · exact ⟨[], rfl, .inl rfl, fun i hi => by simp at hi⟩
  · obtain ⟨vs, hl, hp⟩ := list_of (P := fun i v => ∃ h : i < ls.length, w.cell? ⟨b, off + i * 3, none⟩ = some (.int .i64 ls[i].tag) ∧ w.cell? ⟨b, off + i * 3 + 1, none⟩ = some (.bool ls[i].dirty) ∧ w.cell? ⟨b, off + i * 3 + 2, none⟩ = some v ∧ ∃ a c, v = .slice a ls[i].cells.length c ∧ CellsAt w a ls[i].cells) ls.length (fun i hi => by
      obtain ⟨h0, h1, a, c, h2, h3⟩ := h i hi
      exact ⟨_, hi, h0, h1, h2, a, c, rfl, h3⟩)
    refine ⟨vs, hl, .inr ⟨b, off, rfl, Nat.zero_le _, fun i hi j hj => ?_⟩, fun i h1 h2 => ?_⟩
    · have hi2 : i < ls.length := by rw [length_lineRows _ _ hl] at hi; exact hi
      obtain ⟨_, h0, h1, h2, _⟩ := hp i (by omega)
      have hj3 : j = 0 ∨ j = 1 ∨ j = 2 := by omega
      rcases hj3 with rfl | rfl | rfl
      · rw [Nat.add_zero, h0]; simp [lineRows, lineRow]
      · rw [h1]; simp [lineRows, lineRow]
      · rw [h2]; simp [lineRows, lineRow]
    · obtain ⟨_, _, _, _, h5⟩ := hp i h2
      exact h5

/-- What lies in memory as rows, as what an append or a copy reads. -/
theorem rows_src {B k : Nat} {w : World} {ad : Addr} {rows : List (List Value)} (hk : 0 < k) (hw : Wide k rows) (h : RowsAt B w (some ad) k rows) : ∀ j u, rows.flatten[j]? = some u → w.cell? (ad.add j) = some u := by
  intro j u hj
  obtain ⟨h1, _⟩ := List.getElem?_eq_some_iff.1 hj
  rw [length_flatten hw] at h1
  have hd : j / k < rows.length := by rw [Nat.div_lt_iff_lt_mul hk]; exact h1
  have hm : j % k < k := Nat.mod_lt _ hk
  have e : j / k * k + j % k = j := Nat.div_add_mod' j k
  rcases h with h9 | ⟨b', off', ha, _, h⟩
  · rw [h9] at hd; simp at hd
  · cases ha
    have ea : (⟨b', off', none⟩ : Addr).add j = ⟨b', off' + j, none⟩ := by unfold Addr.add; split <;> simp_all
    have h2 := h (j / k) hd (j % k) hm
    rw [Nat.add_assoc, e] at h2
    rw [ea, h2, ← flatten_at hw (j / k) (j % k) hd hm, e, hj]

theorem lines_one (ls : List MLine) (vs : List Value) (h : ∀ v ∈ vs, v.oneCell' = true) : ∀ v ∈ (lineRows ls vs).flatten, v.oneCell' = true := by
  intro v hv
  obtain ⟨r, hr, hv⟩ := List.mem_flatten.1 hv
  unfold lineRows at hr
  obtain ⟨i, hi, rfl⟩ := List.getElem_of_mem hr
  simp [lineRow] at hv
  rcases hv with rfl | rfl | rfl
  · rfl
  · rfl
  · exact h _ (List.getElem_mem _)

/-- Words and lines of the call's own. -/
structure OwnM (B : Nat) (w : World) (g cg h ch : Nat) (vs : List Value) (m : Mem) : Prop where
  cells : w.ownsRow B 25 2 (.slice (some ⟨g, 0, none⟩) 512 cg) 512 (cellRows m.cells).flatten
  lines : w.ownsRow B 53 3 (.slice (some ⟨h, 0, none⟩) 4 ch) 4 (lineRows m.lines vs).flatten
  four : m.lines.length = 4 ∧ vs.length = 4
  ne : g ≠ h
  each : ∀ i (h1 : i < m.lines.length) (h2 : i < vs.length), w.ownsRow B 25 2 vs[i] m.lines[i].cells.length (cellRows m.lines[i].cells).flatten ∧ vs[i].ownBlock ≠ some g ∧ vs[i].ownBlock ≠ some h
  apart : ∀ i j (h1 : i < vs.length) (h2 : j < vs.length), i ≠ j → vs[i].ownBlock = none ∨ vs[i].ownBlock ≠ vs[j].ownBlock

section own
variable {B g cg h ch : Nat} {w w' : World} {vs : List Value} {m : Mem}

theorem OwnM.later (H : OwnM B w g cg h ch vs m) (hb : Below w.heap.size w w') : OwnM B w' g cg h ch vs m :=
  ⟨H.cells.late hb, H.lines.late hb, H.four, H.ne, fun i h1 h2 => ⟨(H.each i h1 h2).1.late hb, (H.each i h1 h2).2⟩, H.apart⟩

theorem OwnM.mono (H : OwnM B w g cg h ch vs m) {B' : Nat} (hB : B' ≤ B) : OwnM B' w g cg h ch vs m :=
  ⟨H.cells.mono hB, H.lines.mono hB, H.four, H.ne, fun i h1 h2 => ⟨(H.each i h1 h2).1.mono hB, (H.each i h1 h2).2⟩, H.apart⟩

/-- A write into another block. -/
theorem OwnM.far (H : OwnM B w g cg h ch vs m) {r : Nat} (hg : w.grownBy w' (some r)) (hr : r < B) : OwnM B w' g cg h ch vs m := by
  have h1 := (H.cells.lt g rfl).1
  have h2 := (H.lines.lt h rfl).1
  refine ⟨H.cells.kept hg (.inr (fun e => by have e2 : g = r := Option.some.inj e; omega)), H.lines.kept hg (.inr (fun e => by have e2 : h = r := Option.some.inj e; omega)), H.four, H.ne, fun i h1 h2 => ⟨(H.each i h1 h2).1.kept hg (.inr (fun e => ?_)), (H.each i h1 h2).2⟩, H.apart⟩
  have := ((H.each i h1 h2).1.lt r e).1
  omega

theorem OwnM.bounds (H : OwnM B w g cg h ch vs m) : B ≤ g ∧ g < w.heap.size ∧ B ≤ h ∧ h < w.heap.size := ⟨(H.cells.lt g rfl).1, (H.cells.lt g rfl).2, (H.lines.lt h rfl).1, (H.lines.lt h rfl).2⟩

theorem OwnM.len (H : OwnM B w g cg h ch vs m) : m.cells.length = 512 := by
  have := H.cells.1
  rw [length_flatten (wide_cells _), length_cellRows] at this
  omega

/-- The cells of a line, as a value. -/
theorem OwnM.val (H : OwnM B w g cg h ch vs m) (i : Nat) (h1 : i < m.lines.length) (h2 : i < vs.length) : ∃ a c, vs[i] = .slice a m.lines[i].cells.length c ∧ CellsAt w a m.lines[i].cells := by
  obtain ⟨_, a, c, hv, hc, _⟩ := CellsAt.of_own (H.each i h1 h2).1
  exact ⟨a, c, hv, hc⟩

theorem OwnM.one (H : OwnM B w g cg h ch vs m) : ∀ v ∈ vs, v.oneCell' = true := by
  intro v hv
  obtain ⟨i, hi, rfl⟩ := List.getElem_of_mem hv
  obtain ⟨a, c, he, _⟩ := H.val i (by have := H.four; omega) hi
  rw [he]; rfl

/-- What they are in memory. -/
theorem OwnM.at (H : OwnM B w g cg h ch vs m) : MemAt w (some ⟨g, 0, none⟩) (some ⟨h, 0, none⟩) m := by
  obtain ⟨_, a, c, hv, hc, _⟩ := CellsAt.of_own H.cells
  rw [H.len] at hv
  simp only [Value.slice.injEq] at hv
  obtain ⟨rfl, _, rfl⟩ := hv
  refine ⟨hc, .inr ⟨h, 0, rfl, fun i hi => ?_⟩⟩
  have h4 := H.four
  have hi2 : i < vs.length := by omega
  have k0 := H.lines.cellAt (i * 3 + 0) (by omega)
  have k1 := H.lines.cellAt (i * 3 + 1) (by omega)
  have k2 := H.lines.cellAt (i * 3 + 2) (by omega)
  rw [lineRows_get _ _ i _ hi hi2 (by omega)] at k0 k1 k2
  obtain ⟨a, c, he, hca⟩ := H.val i hi hi2
  rw [Nat.zero_add]
  refine ⟨k0, k1, a, c, ?_, hca⟩
  rw [k2, ← he]; rfl

/-- The cells of line i, in memory. -/
theorem OwnM.head (H : OwnM B w g cg h ch vs m) (i : Nat) (h1 : i < m.lines.length) (h2 : i < vs.length) :
    w.cell? ⟨h, i * 3, none⟩ = some (.int .i64 m.lines[i].tag) ∧ w.cell? ⟨h, i * 3 + 1, none⟩ = some (.bool m.lines[i].dirty) ∧ w.cell? ⟨h, i * 3 + 2, none⟩ = some vs[i] ∧ ∀ j, w.frozen? ⟨h, j, none⟩ = false := by
  have h4 := H.four
  have k0 := H.lines.cellAt (i * 3 + 0) (by omega)
  have k1 := H.lines.cellAt (i * 3 + 1) (by omega)
  have k2 := H.lines.cellAt (i * 3 + 2) (by omega)
  rw [lineRows_get _ _ i _ h1 h2 (by omega)] at k0 k1 k2
  exact ⟨k0, k1, k2, fun j => H.lines.frozenAt j⟩

/-- The words turn. -/
theorem OwnM.cells_set (H : OwnM B w g cg h ch vs m) {cs : List (Nat × Nat)} (hg : w.grownBy w' (some g)) (ho : w'.ownsRow B 25 2 (.slice (some ⟨g, 0, none⟩) 512 cg) 512 (cellRows cs).flatten) : OwnM B w' g cg h ch vs ⟨cs, m.lines⟩ :=
  ⟨ho, H.lines.kept hg (.inr (fun e => H.ne (Option.some.inj e).symm)), H.four, H.ne, fun i h1 h2 => ⟨(H.each i h1 h2).1.kept hg (.inr (H.each i h1 h2).2.1), (H.each i h1 h2).2⟩, H.apart⟩

theorem line_cell (ls : List MLine) (vs : List Value) (i j : Nat) (u : Value) (h1 : i < ls.length) (h2 : i < vs.length) (hj : j < 3) : (lineRows ls vs).flatten.set (i * 3 + j) u = ((lineRows ls vs).set i ((lineRow ls[i] vs[i]).set j u)).flatten := by
  rw [flatten_set (wide_lines ls vs) i j u (by simp [lineRows]; omega) hj]
  simp [lineRows]

/-- A line's tag turns. -/
theorem OwnM.tag_set (H : OwnM B w g cg h ch vs m) (i : Nat) (hi : i < m.lines.length) (t : Int) : OwnM B (w.setCell ⟨h, i * 3, none⟩ (.int .i64 t)) g cg h ch vs ⟨m.cells, m.lines.set i ⟨t, m.lines[i].dirty, m.lines[i].cells⟩⟩ := by
  have h4 := H.four
  have hi2 : i < vs.length := by omega
  have hg := grownBy_cell w h (i * 3) (.int .i64 t)
  have hs := (H.lines.stored (i * 3) (.int .i64 t)).1
  have e := line_cell m.lines vs i 0 (.int .i64 t) hi hi2 (by omega)
  rw [Nat.add_zero] at e
  rw [e, show (lineRow m.lines[i] vs[i]).set 0 (.int .i64 t) = lineRow ⟨t, m.lines[i].dirty, m.lines[i].cells⟩ vs[i] from rfl, lineRows_set _ _ _ _ _, List.set_getElem_self] at hs
  refine ⟨H.cells.kept hg (.inr (fun e => H.ne (Option.some.inj e))), hs, by simpa using h4, H.ne, fun k h1 h2 => ?_, H.apart⟩
  have hk := H.each k (by simpa using h1) h2
  simp only [List.getElem_set]
  by_cases e : i = k
  · subst e
    rw [if_pos rfl]
    exact ⟨hk.1.kept hg (.inr hk.2.2), hk.2⟩
  · rw [if_neg e]
    exact ⟨hk.1.kept hg (.inr hk.2.2), hk.2⟩

/-- A line turns dirty, or clean. -/
theorem OwnM.dirty_set (H : OwnM B w g cg h ch vs m) (i : Nat) (hi : i < m.lines.length) (d : Bool) : OwnM B (w.setCell ⟨h, i * 3 + 1, none⟩ (.bool d)) g cg h ch vs ⟨m.cells, m.lines.set i ⟨m.lines[i].tag, d, m.lines[i].cells⟩⟩ := by
  have h4 := H.four
  have hi2 : i < vs.length := by omega
  have hg := grownBy_cell w h (i * 3 + 1) (.bool d)
  have hs := (H.lines.stored (i * 3 + 1) (.bool d)).1
  rw [line_cell m.lines vs i 1 (.bool d) hi hi2 (by omega), show (lineRow m.lines[i] vs[i]).set 1 (.bool d) = lineRow ⟨m.lines[i].tag, d, m.lines[i].cells⟩ vs[i] from rfl, lineRows_set _ _ _ _ _, List.set_getElem_self] at hs
  refine ⟨H.cells.kept hg (.inr (fun e => H.ne (Option.some.inj e))), hs, by simpa using h4, H.ne, fun k h1 h2 => ?_, H.apart⟩
  have hk := H.each k (by simpa using h1) h2
  simp only [List.getElem_set]
  by_cases e : i = k
  · subst e
    rw [if_pos rfl]
    exact ⟨hk.1.kept hg (.inr hk.2.2), hk.2⟩
  · rw [if_neg e]
    exact ⟨hk.1.kept hg (.inr hk.2.2), hk.2⟩

/-- A line gets other cells, of the call's own. -/
theorem OwnM.slice_set (H : OwnM B w g cg h ch vs m) (i : Nat) (hi : i < m.lines.length) {v : Value} {xs : List (Nat × Nat)} (hv : w.ownsRow B 25 2 v xs.length (cellRows xs).flatten) (h1 : v.ownBlock ≠ some g) (h2 : v.ownBlock ≠ some h)
    (h3 : ∀ j (hj : j < vs.length), j ≠ i → vs[j].ownBlock = none ∨ vs[j].ownBlock ≠ v.ownBlock) : OwnM B (w.setCell ⟨h, i * 3 + 2, none⟩ v) g cg h ch (vs.set i v) ⟨m.cells, m.lines.set i ⟨m.lines[i].tag, m.lines[i].dirty, xs⟩⟩ := by
  have h4 := H.four
  have hi2 : i < vs.length := by omega
  have hg := grownBy_cell w h (i * 3 + 2) v
  have hs := (H.lines.stored (i * 3 + 2) v).1
  rw [line_cell m.lines vs i 2 v hi hi2 (by omega), show (lineRow m.lines[i] vs[i]).set 2 v = lineRow ⟨m.lines[i].tag, m.lines[i].dirty, xs⟩ v from rfl, lineRows_set _ _ _ _ _] at hs
  refine ⟨H.cells.kept hg (.inr (fun e => H.ne (Option.some.inj e))), hs, by simpa using h4, H.ne, fun k h5 h6 => ?_, fun k j h5 h6 hkj => ?_⟩
  · have hk := H.each k (by simpa using h5) (by simpa using h6)
    simp only [List.getElem_set]
    by_cases e : i = k
    · subst e
      rw [if_pos rfl, if_pos rfl]
      exact ⟨hv.kept hg (.inr h2), h1, h2⟩
    · rw [if_neg e, if_neg e]
      exact ⟨hk.1.kept hg (.inr hk.2.2), hk.2⟩
  · simp only [List.getElem_set]
    by_cases e : i = k
    · rw [if_pos e, if_neg (by omega)]
      rcases h3 j (by simpa using h6) (by omega) with h7 | h7
      · by_cases h8 : v.ownBlock = none
        · exact .inl h8
        · exact .inr (fun h9 => h8 (by rw [h9, h7]))
      · exact .inr (fun h9 => h7 h9.symm)
    · rw [if_neg e]
      by_cases e2 : i = j
      · rw [if_pos e2]; exact h3 k (by simpa using h5) (by omega)
      · rw [if_neg e2]; exact H.apart k j (by simpa using h5) (by simpa using h6) hkj

theorem cellRows_put (xs : List (Nat × Nat)) (i t v : Nat) (hi : i < xs.length) : ((cellRows xs).flatten.set (i * 2) (.int .u8 (t : Int))).set (i * 2 + 1) (.int .u16 (v : Int)) = (cellRows (xs.set i (t, v))).flatten := by
  have e := flatten_set (wide_cells xs) i 0 (.int .u8 (t : Int)) (by rw [length_cellRows]; exact hi) (by omega)
  rw [Nat.add_zero] at e
  rw [e, flatten_set ((wide_cells xs).set (by simp [cellRows, cellRow]) i) i 1 _ (by rw [List.length_set, length_cellRows]; exact hi) (by omega)]
  simp [cellRows, cellRow, List.map_set]

/-- Two cells of a row are written. -/
theorem own_put {b n c : Nat} {xs : List (Nat × Nat)} (ho : w.ownsRow B 25 2 (.slice (some ⟨b, 0, none⟩) n c) n (cellRows xs).flatten) (i t v : Nat) (hi : i < xs.length) :
    ((w.setCell ⟨b, i * 2, none⟩ (.int .u8 (t : Int))).setCell ⟨b, i * 2 + 1, none⟩ (.int .u16 (v : Int))).ownsRow B 25 2 (.slice (some ⟨b, 0, none⟩) n c) n (cellRows (xs.set i (t, v))).flatten ∧
      w.grownBy ((w.setCell ⟨b, i * 2, none⟩ (.int .u8 (t : Int))).setCell ⟨b, i * 2 + 1, none⟩ (.int .u16 (v : Int))) (some b) := by
  have h1 := ho.stored (i * 2) (.int .u8 (t : Int))
  have h2 := h1.1.stored (i * 2 + 1) (.int .u16 (v : Int))
  rw [cellRows_put _ _ _ _ hi] at h2
  exact ⟨h2.1, grownBy_trans h1.2 h2.2⟩

/-- A cell of a line is written. -/
theorem OwnM.cell_set (H : OwnM B w g cg h ch vs m) (i : Nat) (hi : i < m.lines.length) (hi2 : i < vs.length) {b c : Nat} (hv : vs[i] = .slice (some ⟨b, 0, none⟩) m.lines[i].cells.length c) (k t v : Nat) (hk : k < m.lines[i].cells.length) :
    OwnM B ((w.setCell ⟨b, k * 2, none⟩ (.int .u8 (t : Int))).setCell ⟨b, k * 2 + 1, none⟩ (.int .u16 (v : Int))) g cg h ch vs ⟨m.cells, m.lines.set i ⟨m.lines[i].tag, m.lines[i].dirty, m.lines[i].cells.set k (t, v)⟩⟩ := by
  have h4 := H.four
  obtain ⟨e1, e2, e3⟩ := H.each i hi hi2
  rw [hv] at e1 e2 e3
  obtain ⟨o1, hg⟩ := own_put e1 k t v hk
  have hr : lineRows (m.lines.set i ⟨m.lines[i].tag, m.lines[i].dirty, m.lines[i].cells.set k (t, v)⟩) vs = lineRows m.lines vs := by
    apply List.ext_getElem
    · simp [lineRows]
    · intro q h5 h6
      simp only [lineRows, List.getElem_zipWith, List.getElem_set]
      split
      · rename_i e; subst e; rfl
      · rfl
  refine ⟨H.cells.kept hg (.inr (fun e => e2 e.symm)), ?_, by simpa using h4, H.ne, fun q h5 h6 => ?_, H.apart⟩
  · rw [hr]; exact H.lines.kept hg (.inr (fun e => e3 e.symm))
  · have hq := H.each q (by simpa using h5) h6
    simp only [List.getElem_set]
    by_cases e : i = q
    · subst e
      rw [if_pos rfl]
      refine ⟨?_, hq.2⟩
      rw [hv, List.length_set]
      exact o1
    · rw [if_neg e]
      refine ⟨hq.1.kept hg ?_, hq.2⟩
      rcases H.apart q i h6 hi2 (fun e9 => e e9.symm) with h7 | h7
      · exact .inl h7
      · rw [hv] at h7; exact .inr h7
end own
end Go.Proofs.Ytkffeibjleiaoaa
