/-
  A cell that turns: in a line, or behind it; what is seen of it later.
-/
import Derived.Test.YtkffeibjleiaoaaCaAwake
namespace Go.Proofs.Ytkffeibjleiaoaa
open Go.RowKit

/-- A cell of a line turns; the line is as dirty as it was. -/
def turnM (m : Mem) (a : Nat) (c : Nat × Nat) : Mem := ⟨m.cells, m.lines.set (a / 4 % 4) ⟨(lineM m (a / 4)).tag, (lineM m (a / 4)).dirty, (lineM m (a / 4)).cells.set (a % 4) c⟩⟩

section turn
variable {m : Mem} {a : Nat} {c : Nat × Nat}

theorem line_turn (h : MV m) (q : Nat) : lineM (turnM m a c) q = if q % 4 = a / 4 % 4 then ⟨(lineM m (a / 4)).tag, (lineM m (a / 4)).dirty, (lineM m (a / 4)).cells.set (a % 4) c⟩ else lineM m q := lines_set h _ q

theorem MV.turn (h : MV m) (ht : (lineM m (a / 4)).tag = ((a / 4 : Nat) : Int)) (hc : VC c) : MV (turnM m a c) := by
  have h4 := h.lines
  refine ⟨h.len, by simpa [turnM] using h4, h.ok, fun i hi => ?_⟩
  have hi4 : i < m.lines.length := by simpa [turnM] using hi
  simp only [turnM, List.getElem_set]
  by_cases e : a / 4 % 4 = i
  · rw [if_pos e]
    rcases (h.line (a / 4)).tag with ⟨h1, _⟩ | ⟨k, h1, h2, h3, h4⟩
    · rw [ht] at h1; omega
    · refine .inr ⟨k, h1, h2, by omega, by rw [List.length_set]; exact h4, fun x hx => ?_⟩
      rcases List.mem_or_eq_of_mem_set hx with hx | rfl
      · exact (h.line (a / 4)).cell x hx
      · exact hc
  · rw [if_neg e]; exact h.each i hi4

/-- Another line takes its place. -/
theorem turn_back (h : MV m) (ht : (lineM m (a / 4)).tag = ((a / 4 : Nat) : Int)) (hc : VC c) (ha : a < 496) :
    (fetchM (turnM m a c) (a / 4 + 4)).cells.getD a (0, 0) = if (lineM m (a / 4)).dirty = true then c else m.cells.getD a (0, 0) := by
  have hT := h.turn ht hc
  have hl : lineM (turnM m a c) (a / 4 + 4) = ⟨(lineM m (a / 4)).tag, (lineM m (a / 4)).dirty, (lineM m (a / 4)).cells.set (a % 4) c⟩ := by rw [line_turn h, if_pos (by omega)]
  rw [fetch_new (by rw [hl]; simp only; rw [ht]; omega)]
  show (backL (turnM m a c).cells (lineM (turnM m a c) (a / 4 + 4))).getD a (0, 0) = _
  rw [back_get hT.len (hT.line (a / 4 + 4)) a (by omega), hl]
  simp only
  rcases (h.line (a / 4)).tag with ⟨h1, _⟩ | ⟨k, h1, h2, h3, h5⟩
  · rw [ht] at h1; omega
  · by_cases hd : (lineM m (a / 4)).dirty = true
    · rw [if_pos ⟨hd, ht⟩, if_pos hd, getD_in _ _ (by rw [List.length_set]; omega), List.getElem_set, if_pos rfl]
    · rw [if_neg (fun g => hd g.1), if_neg hd]
      rfl

theorem look_back (h : MV m) (b : Nat) : lookM (fetchM m (b / 4 + 4)) b = (fetchM m (b / 4 + 4)).cells.getD b (0, 0) := by
  have hl : lineM (fetchM m (b / 4 + 4)) (b / 4) = lineM (fetchM m (b / 4 + 4)) (b / 4 + 4) := by unfold lineM; rw [show b / 4 % 4 = (b / 4 + 4) % 4 by omega]
  unfold lookM
  rw [hl, fetch_tag h, if_neg (by omega)]

/-- What is seen of a word that was changed behind its line. -/
theorem look_poke (m : Mem) (a : Nat) (c : Nat × Nat) (ht : (lineM m (a / 4)).tag = ((a / 4 : Nat) : Int)) : lookM (pokeM m a c) a = lookM m a := by
  have hl : lineM (pokeM m a c) (a / 4) = lineM m (a / 4) := rfl
  unfold lookM
  rw [hl, if_pos ht, if_pos ht]

theorem cells_poke (m : Mem) (a : Nat) (c : Nat × Nat) (ha : a < m.cells.length) : (pokeM m a c).cells.getD a (0, 0) = c := by
  rw [getD_in _ _ (by simpa [pokeM] using ha)]
  simp [pokeM]

theorem flush_poke (h : MV m) (ht : (lineM m (a / 4)).tag = ((a / 4 : Nat) : Int)) (hc : VC c) (ha : a < 512) :
    lookM (flushM (pokeM m a c)) a = if (lineM m (a / 4)).dirty = true then lookM m a else c := by
  have hP := h.poke (a := a) hc
  rw [show lookM (flushM (pokeM m a c)) a = (flushM (pokeM m a c)).cells.getD a (0, 0) from look_empty _ _, flush_get hP a ha, cells_poke _ _ _ (by rw [h.len]; exact ha)]
  have hl : lineM (pokeM m a c) (a / 4) = lineM m (a / 4) := rfl
  rw [hl]
  by_cases hd : (lineM m (a / 4)).dirty = true
  · rw [if_pos ⟨hd, ht⟩, if_pos hd]
    unfold lookM
    rw [if_pos ht]
  · rw [if_neg (fun g => hd g.1), if_neg hd]
end turn

section own
variable {B g cg h ch : Nat} {w w' : World} {vs : List Value} {m : Mem}

/-- A line's cells turn, where they lie. -/
theorem OwnM.row_set (H : OwnM B w g cg h ch vs m) (i : Nat) (hi : i < m.lines.length) (hi2 : i < vs.length) {b c : Nat} (hv : vs[i] = .slice (some ⟨b, 0, none⟩) m.lines[i].cells.length c) {ys : List (Nat × Nat)} (hl : ys.length = m.lines[i].cells.length) (hg : w.grownBy w' (some b))
    (ho : w'.ownsRow B 25 2 (.slice (some ⟨b, 0, none⟩) m.lines[i].cells.length c) m.lines[i].cells.length (cellRows ys).flatten) : OwnM B w' g cg h ch vs ⟨m.cells, m.lines.set i ⟨m.lines[i].tag, m.lines[i].dirty, ys⟩⟩ := by
  have h4 := H.four
  obtain ⟨e1, e2, e3⟩ := H.each i hi hi2
  rw [hv] at e1 e2 e3
  have hr : lineRows (m.lines.set i ⟨m.lines[i].tag, m.lines[i].dirty, ys⟩) vs = lineRows m.lines vs := by
    apply List.ext_getElem
    · simp [lineRows]
    · intro q h5 h6
      simp only [lineRows, List.getElem_zipWith, List.getElem_set]
      split
      · rename_i e; subst e; rfl
      · rfl
  refine ⟨H.cells.kept hg (.inr (fun e => e2 e.symm)), ?_, by simpa using h4, H.ne, fun q h5 h6 => ?_, H.apart⟩
  · rw [hr]; exact H.lines.kept hg (.inr (fun e => e3 e.symm))
  · have hq := H.each q (by simpa using h5) h6
    simp only [List.getElem_set]
    by_cases e : i = q
    · subst e
      rw [if_pos rfl]
      refine ⟨?_, hq.2⟩
      rw [hv, hl]
      exact ho
    · rw [if_neg e]
      refine ⟨hq.1.kept hg ?_, hq.2⟩
      rcases H.apart q i h6 hi2 (fun e9 => e e9.symm) with h7 | h7
      · exact .inl h7
      · rw [hv] at h7; exact .inr h7

theorem own_val {b c n : Nat} {xs : List (Nat × Nat)} (ho : w.ownsRow B 25 2 (.slice (some ⟨b, 0, none⟩) n c) n (cellRows xs).flatten) (j : Nat) (hj : j < xs.length) (t v v' : Nat) (hy : xs.getD j (0, 0) = (t, v)) :
    (w.setCell ⟨b, j * 2 + 1, none⟩ (.int .u16 (v' : Int))).cell? ⟨b, j * 2, none⟩ = some (.int .u8 (t : Int)) ∧ (w.setCell ⟨b, j * 2 + 1, none⟩ (.int .u16 (v' : Int))).cell? ⟨b, j * 2 + 1, none⟩ = some (.int .u16 (v' : Int)) := by
  have hs := ho.stored (j * 2 + 1) (.int .u16 (v' : Int))
  rw [cellRows_set _ _ hj] at hs
  rw [getD_in _ _ hj] at hy
  rw [hy] at hs
  have h := own_cell hs.1 j (by simpa using hj)
  simpa using h

/-- A word of a line turns. -/
theorem OwnM.turn (H : OwnM B w g cg h ch vs m) (x n k j : Nat) (hn : x / 4 = n) (hk : n % 4 = k) (hj : x % 4 = j) (hkl : k < m.lines.length) (hkv : k < vs.length) (h4 : m.lines[k].cells.length = 4) {b c : Nat}
    (hv : vs[k] = .slice (some ⟨b, 0, none⟩) 4 c) (t v v' : Nat) (hy : m.lines[k].cells.getD j (0, 0) = (t, v)) : OwnM B (w.setCell ⟨b, j * 2 + 1, none⟩ (.int .u16 (v' : Int))) g cg h ch vs (turnM m x (t, v')) := by
  have e : lineM m n = m.lines[k] := by unfold lineM; rw [hk, getD_in _ _ hkl]
  have hjl : j < m.lines[k].cells.length := by omega
  have e1 := (H.each k hkl hkv).1
  rw [hv, h4] at e1
  have hs := e1.stored (j * 2 + 1) (.int .u16 (v' : Int))
  rw [cellRows_set _ _ hjl] at hs
  rw [getD_in _ _ hjl] at hy
  rw [hy] at hs
  unfold turnM
  rw [hn, hk, hj, e]
  exact H.row_set k hkl hkv (by rw [h4]; exact hv) (by simp) hs.2 (by rw [h4]; exact hs.1)

/-- A word behind the lines turns. -/
theorem OwnM.bit (H : OwnM B w g cg h ch vs m) (x : Nat) (hx : x < 512) (t v v' : Nat) (hy : m.cells.getD x (0, 0) = (t, v)) : OwnM B (w.setCell ⟨g, x * 2 + 1, none⟩ (.int .u16 (v' : Int))) g cg h ch vs (pokeM m x (t, v')) := by
  have hl : x < m.cells.length := by rw [H.len]; exact hx
  have hs := H.cells.stored (x * 2 + 1) (.int .u16 (v' : Int))
  rw [cellRows_set _ _ hl] at hs
  rw [getD_in _ _ hl] at hy
  rw [hy] at hs
  exact H.cells_set hs.2 hs.1
end own
end Go.Proofs.Ytkffeibjleiaoaa
