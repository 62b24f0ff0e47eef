/-
  A slice of cells that came in, opened to a list.
-/
import Derived.Test.YtbeielaapnncgaaOpen
namespace Go.Proofs.Ytbeielaapnncgaa
open Go.RowKit Go.ChangeShapes Go.WideShapes Go.ChangeAt Go.Deep

theorem add_plain (b off n : Nat) : (⟨b, off, none⟩ : Addr).add n = ⟨b, off + n, none⟩ := by unfold Addr.add; split <;> simp_all

theorem cellsOf_cell : Try.prog.cellsOf 24 = 2 := by kernel_rfl
theorem cellsOf_u8 : Try.prog.cellsOf 5 = 1 := by kernel_rfl
theorem cellsOf_u16 : Try.prog.cellsOf 22 = 1 := by kernel_rfl

/-- Two cells in memory that read as a struct of a tag and a value. -/
theorem open_cell {H : Type} {enc : TypeId × Value → H} {W : World} {n : Nat} {cs : List Value} {x : DataW H × List MemPlace} (h : DataW.trod enc Try.prog W 0 (fun _ => true) true n 24 cs = some x) :
    ∃ t v : Nat, t < 256 ∧ v < 65536 ∧ cs = [.int .u8 (t : Int), .int .u16 (v : Int)] := by
  obtain ⟨y0, y1, m, _, hl, h0, h1⟩ := trod_struct2 Try.underlying24 h
  rw [cellsOf_cell] at hl
  match cs, hl with
  | [c0, c1], _ =>
    simp [cellsOf_u8, cellsOf_u16] at h0 h1
    obtain ⟨a, e0, _, wa⟩ := DataW.trod_int Try.underlying5 h0
    obtain ⟨b, e1, _, wb⟩ := DataW.trod_int Try.underlying22 h1
    simp at e0 e1
    subst e0 e1
    obtain ⟨t, ht, rfl⟩ := byte_of wa
    obtain ⟨v, hv, rfl⟩ := word_of wb
    exact ⟨t, v, ht, hv, rfl⟩

/-- A function of an index, as a list. -/
theorem list_of (n : Nat) (P : Nat → Nat × Nat → Prop) (h : ∀ i, i < n → ∃ x, P i x) : ∃ xs : List (Nat × Nat), xs.length = n ∧ ∀ i (hi : i < xs.length), P i xs[i] := by
  induction n with
  | zero => exact ⟨[], rfl, fun i hi => by simp at hi⟩
  | succ n ih =>
    obtain ⟨xs, hl, hx⟩ := ih (fun i hi => h i (by omega))
    obtain ⟨x, hxn⟩ := h n (by omega)
    refine ⟨xs ++ [x], by simp [hl], fun i hi => ?_⟩
    by_cases e : i < xs.length
    · rw [List.getElem_append_left e]; exact hx i e
    · have e2 : i = n := by simp at hi; omega
      subst e2
      rw [List.getElem_append_right (by omega)]
      simpa using hxn

theorem open_cells {H : Type} {enc : TypeId × Value → H} {W : World} {base : Nat} {v : Value} {d : DataW H} {p : List MemPlace}
    (o : Value.okWide Try.prog W .any base 32 v) (h : DataW.Trod enc Try.prog W 0 (fun _ => true) true 32 v d p) :
    ∃ a xs cap, v = .slice a xs.length cap ∧ CellsAt W a xs ∧ OkCells xs ∧ xs.length ≤ maxLen := by
  obtain ⟨a0, len, cap, rfl⟩ := okWide_slice Try.underlying32 o
  obtain ⟨fuel, hf⟩ := h
  rcases open_slice Try.underlying32 hf with ⟨hcs, _⟩ | ⟨x, l, c, m, n, D, Pl, hcs, _, hl, hm, hmm, _, hc⟩
  · simp [Value.cells] at hcs
    obtain ⟨rfl, rfl, rfl⟩ := hcs
    exact ⟨none, [], 0, rfl, .inl rfl, (by intro x hx; simp at hx), (by unfold maxLen; simp)⟩
  · simp [Value.cells] at hcs
    obtain ⟨rfl, rfl, rfl⟩ := hcs
    have hmc : m = cap := by simpa using hmm
    obtain ⟨xs, hlen, hxs⟩ := list_of len (fun i y => y.1 < 256 ∧ y.2 < 65536 ∧ W.cell? (x.add (i * 2)) = some (.int .u8 (y.1 : Int)) ∧ W.cell? ((x.add (i * 2)).add 1) = some (.int .u16 (y.2 : Int))) (fun i hi => by
      obtain ⟨cs', h1, h2⟩ := hc i (by omega)
      obtain ⟨t, v, ht, hv, rfl⟩ := open_cell h2
      rw [cellsOf_cell] at h1
      obtain ⟨_, _, h3⟩ := World.cells?_some h1
      have e0 := h3 0 (by omega)
      have e1 := h3 1 (by omega)
      exact ⟨(t, v), ht, hv, by simpa [Addr.add] using e0, by simpa using e1⟩)
    refine ⟨some x, xs, cap, by rw [hlen], ?_, fun y hy => ?_, by omega⟩
    · by_cases h0 : xs = []
      · exact .inl h0
      · have hpos : 0 < xs.length := by cases xs with | nil => exact absurd rfl h0 | cons y r => simp
        obtain ⟨b, off, spot⟩ := x
        have hspot : spot = none := by
          have := (hxs 0 hpos).2.2.1
          simpa [Addr.add] using World.cell?_spot this
        subst hspot
        refine .inr ⟨b, off, rfl, fun i hi => ?_⟩
        have := (hxs i hi).2.2
        rw [add_plain, add_plain] at this
        exact this
    · obtain ⟨i, hi, rfl⟩ := List.getElem_of_mem hy
      exact ⟨(hxs i hi).1, (hxs i hi).2.1⟩
end Go.Proofs.Ytbeielaapnncgaa
