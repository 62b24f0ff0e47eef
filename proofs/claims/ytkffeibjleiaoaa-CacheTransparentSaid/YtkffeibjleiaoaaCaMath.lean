/-
  The lines in front of the words: fetching, looking, writing and flushing as plain functions of lists, and what they keep.
-/
import Derived.Test.YtkffeibjleiaoaaRM2
import Derived.Laws.CopyOwn
namespace Go.Proofs.Ytkffeibjleiaoaa
open Go.RowKit

def emptyL : MLine := ⟨-1, false, []⟩

/-- The words behind a line that is written back if it is dirty. -/
def backL (cs : List (Nat × Nat)) (x : MLine) : List (Nat × Nat) := if x.dirty = true then splice cs (x.tag.toNat * 4) x.cells else cs

/-- The line at the place of a line of memory. -/
def lineM (m : Mem) (n : Nat) : MLine := m.lines.getD (n % 4) emptyL

/-- The words when the line of memory n takes its place. -/
def fetchC (m : Mem) (n : Nat) : List (Nat × Nat) := backL m.cells (lineM m n)

/-- The line n is fetched. -/
def fetchM (m : Mem) (n : Nat) : Mem :=
  if (lineM m n).tag = (n : Int) then m else ⟨fetchC m n, m.lines.set (n % 4) ⟨(n : Int), false, ((fetchC m n).drop (n * 4)).take 4⟩⟩

/-- What is seen at an address. -/
def lookM (m : Mem) (a : Nat) : Nat × Nat := if (lineM m (a / 4)).tag = ((a / 4 : Nat) : Int) then (lineM m (a / 4)).cells.getD (a % 4) (0, 0) else m.cells.getD a (0, 0)

/-- A cell is put into its line. -/
def putM (m : Mem) (a : Nat) (c : Nat × Nat) : Mem := ⟨m.cells, m.lines.set (a / 4 % 4) ⟨(lineM m (a / 4)).tag, true, (lineM m (a / 4)).cells.set (a % 4) c⟩⟩

def writeM (m : Mem) (a : Nat) (c : Nat × Nat) : Mem := putM (fetchM m (a / 4)) a c

def flushM (m : Mem) : Mem := ⟨m.lines.foldl backL m.cells, emptyM⟩

def dropM (m : Mem) : Mem := ⟨m.cells, emptyM⟩

def pokeM (m : Mem) (a : Nat) (c : Nat × Nat) : Mem := ⟨m.cells.set a c, m.lines⟩

/-- A valid cell. -/
def VC (c : Nat × Nat) : Prop := c.1 ≤ 2 ∧ c.2 < 65536

/-- A valid line at place i. -/
def VL (i : Nat) (x : MLine) : Prop := x = emptyL ∨ ∃ n : Nat, x.tag = (n : Int) ∧ n < 128 ∧ n % 4 = i ∧ x.cells.length = 4 ∧ ∀ c ∈ x.cells, VC c

/-- Valid words and lines. -/
structure MV (m : Mem) : Prop where
  len : m.cells.length = 512
  lines : m.lines.length = 4
  ok : ∀ c ∈ m.cells, VC c
  each : ∀ i (h : i < m.lines.length), VL i m.lines[i]

/-- A line that is not dirty is what is behind it. -/
def Coh (m : Mem) : Prop := ∀ a, a < 512 → (lineM m (a / 4)).tag = ((a / 4 : Nat) : Int) → (lineM m (a / 4)).dirty = false → (lineM m (a / 4)).cells.getD (a % 4) (0, 0) = m.cells.getD a (0, 0)

theorem getD_in {α : Type} (l : List α) (d : α) {i : Nat} (h : i < l.length) : l.getD i d = l[i] := getD_at l d h

theorem MV.line {m : Mem} (h : MV m) (n : Nat) : VL (n % 4) (lineM m n) := by
  have h4 := h.lines
  unfold lineM
  rw [getD_in _ _ (by omega)]
  exact h.each _ _

theorem VL.tag {i : Nat} {x : MLine} (h : VL i x) : x.tag = -1 ∧ x.dirty = false ∧ x.cells = [] ∨ ∃ n : Nat, x.tag = (n : Int) ∧ n < 128 ∧ n % 4 = i ∧ x.cells.length = 4 := by
  rcases h with rfl | ⟨n, h1, h2, h3, h4, _⟩
  · exact .inl ⟨rfl, rfl, rfl⟩
  · exact .inr ⟨n, h1, h2, h3, h4⟩

theorem VL.cell {i : Nat} {x : MLine} (h : VL i x) : ∀ c ∈ x.cells, VC c := by
  rcases h with rfl | ⟨n, h1, h2, h3, h4, h5⟩
  · intro c hc; simp [emptyL] at hc
  · exact h5

theorem splice_get (cs xs : List (Nat × Nat)) (o b : Nat) (h : o + xs.length ≤ cs.length) (hb : b < cs.length) : (splice cs o xs).getD b (0, 0) = if o ≤ b ∧ b < o + xs.length then xs.getD (b - o) (0, 0) else cs.getD b (0, 0) := by
  unfold splice
  simp only [List.getD_eq_getElem?_getD]
  by_cases h1 : b < o
  · rw [if_neg (by omega), List.getElem?_append_left (by rw [List.length_take]; omega), List.getElem?_take, if_pos h1]
  · rw [List.getElem?_append_right (by rw [List.length_take]; omega), List.length_take, show min o cs.length = o by omega]
    by_cases h2 : b < o + xs.length
    · rw [if_pos (by omega), List.getElem?_append_left (by omega)]
    · rw [if_neg (by omega), List.getElem?_append_right (by omega), List.getElem?_drop, show o + xs.length + (b - o - xs.length) = b by omega]

theorem mem_splice {cs xs : List (Nat × Nat)} {o : Nat} {c : Nat × Nat} (h : c ∈ splice cs o xs) : c ∈ cs ∨ c ∈ xs := by
  unfold splice at h
  rw [List.mem_append, List.mem_append] at h
  rcases h with h | h | h
  · exact .inl (List.mem_of_mem_take h)
  · exact .inr h
  · exact .inl (List.mem_of_mem_drop h)

theorem back_length {cs : List (Nat × Nat)} {i : Nat} {x : MLine} (hc : cs.length = 512) (hx : VL i x) : (backL cs x).length = 512 := by
  unfold backL
  split
  · rcases hx.tag with ⟨_, h, _⟩ | ⟨n, h1, h2, _, h4⟩
    · simp_all
    · rw [length_splice _ _ _ (by rw [h1, h4]; omega), hc]
  · exact hc

theorem back_ok {cs : List (Nat × Nat)} {i : Nat} {x : MLine} (hc : ∀ c ∈ cs, VC c) (hx : VL i x) : ∀ c ∈ backL cs x, VC c := by
  intro c h
  unfold backL at h
  split at h
  · rcases mem_splice h with h | h
    · exact hc c h
    · exact hx.cell c h
  · exact hc c h

theorem back_get {cs : List (Nat × Nat)} {i : Nat} {x : MLine} (hc : cs.length = 512) (hx : VL i x) (b : Nat) (hb : b < 512) :
    (backL cs x).getD b (0, 0) = if x.dirty = true ∧ x.tag = ((b / 4 : Nat) : Int) then x.cells.getD (b % 4) (0, 0) else cs.getD b (0, 0) := by
  unfold backL
  by_cases hd : x.dirty = true
  · rw [if_pos hd]
    rcases hx.tag with ⟨_, h, _⟩ | ⟨n, h1, h2, _, h4⟩
    · rw [h] at hd; cases hd
    · rw [splice_get _ _ _ _ (by rw [h1, h4]; omega) (by omega), h1, h4]
      by_cases hn : n = b / 4
      · rw [if_pos (by omega), if_pos ⟨hd, by omega⟩, show b - (n : Int).toNat * 4 = b % 4 by omega]
      · rw [if_neg (by omega), if_neg (fun g => by have := g.2; omega)]
  · rw [if_neg hd, if_neg (by simp [hd])]

theorem back_miss {cs : List (Nat × Nat)} {i : Nat} {x : MLine} (hc : cs.length = 512) (hx : VL i x) (b : Nat) (hb : b < 512) (hi : i ≠ b / 4 % 4) : (backL cs x).getD b (0, 0) = cs.getD b (0, 0) := by
  rw [back_get hc hx b hb]
  rcases hx.tag with ⟨_, h, _⟩ | ⟨n, h1, h2, h3, h4⟩
  · rw [if_neg (by simp [h])]
  · rw [if_neg (by rintro ⟨_, g⟩; rw [h1] at g; omega)]

section fetch
variable {m : Mem} {n : Nat}

theorem fetch_length (h : MV m) : (fetchC m n).length = 512 := back_length h.len (h.line n)

theorem lines_set (h : MV m) (x : MLine) (q : Nat) : (m.lines.set (n % 4) x).getD (q % 4) emptyL = if q % 4 = n % 4 then x else lineM m q := by
  have h4 := h.lines
  rw [getD_in _ _ (by rw [List.length_set]; omega), List.getElem_set]
  by_cases e : n % 4 = q % 4
  · rw [if_pos e, if_pos e.symm]
  · rw [if_neg e, if_neg (fun g => e g.symm)]
    unfold lineM
    rw [getD_in _ _ (by omega)]

theorem fetch_held (h : (lineM m n).tag = (n : Int)) : fetchM m n = m := by unfold fetchM; rw [if_pos h]

theorem fetch_new (h : ¬ (lineM m n).tag = (n : Int)) : fetchM m n = ⟨fetchC m n, m.lines.set (n % 4) ⟨(n : Int), false, ((fetchC m n).drop (n * 4)).take 4⟩⟩ := by unfold fetchM; rw [if_neg h]

theorem new_get (j : Nat) (hj : j < 4) : (((fetchC m n).drop (n * 4)).take 4).getD j (0, 0) = (fetchC m n).getD (n * 4 + j) (0, 0) := by
  simp only [List.getD_eq_getElem?_getD, List.getElem?_take, if_pos hj, List.getElem?_drop]

theorem MV.fetch (h : MV m) (hn : n < 128) : MV (fetchM m n) := by
  by_cases ht : (lineM m n).tag = (n : Int)
  · rw [fetch_held ht]; exact h
  · have h4 := h.lines
    have h5 := fetch_length (n := n) h
    rw [fetch_new ht]
    refine ⟨h5, by simpa using h4, back_ok h.ok (h.line n), fun i hi => ?_⟩
    have hi4 : i < m.lines.length := by simpa using hi
    simp only [List.getElem_set]
    by_cases e : n % 4 = i
    · rw [if_pos e]
      refine .inr ⟨n, rfl, hn, e, by simp [h5]; omega, fun c hc => back_ok h.ok (h.line n) c (List.mem_of_mem_drop (List.mem_of_mem_take hc))⟩
    · rw [if_neg e]; exact h.each i hi4

/-- The line that was fetched. -/
theorem fetch_tag (h : MV m) : (lineM (fetchM m n) n).tag = (n : Int) := by
  by_cases ht : (lineM m n).tag = (n : Int)
  · rw [fetch_held ht]; exact ht
  · rw [fetch_new ht]
    show ((m.lines.set (n % 4) _).getD (n % 4) emptyL).tag = _
    rw [lines_set h, if_pos rfl]

theorem fetch_four (h : MV m) (hn : n < 128) : (lineM (fetchM m n) n).cells.length = 4 := by
  rcases ((h.fetch hn).line n).tag with ⟨h1, _⟩ | ⟨k, _, _, _, h4⟩
  · rw [fetch_tag h] at h1; omega
  · exact h4

theorem fetch_read {a : Nat} (h : MV m) (ha : a < 512) : (lineM (fetchM m (a / 4)) (a / 4)).cells.getD (a % 4) (0, 0) = lookM m a := by
  unfold lookM
  by_cases ht : (lineM m (a / 4)).tag = ((a / 4 : Nat) : Int)
  · rw [fetch_held ht, if_pos ht]
  · rw [fetch_new ht, if_neg ht]
    show ((m.lines.set (a / 4 % 4) _).getD (a / 4 % 4) emptyL).cells.getD (a % 4) (0, 0) = _
    rw [lines_set h, if_pos rfl]
    show (List.take 4 (List.drop (a / 4 * 4) (fetchC m (a / 4)))).getD (a % 4) (0, 0) = _
    rw [new_get _ (by omega), show a / 4 * 4 + a % 4 = a by omega]
    unfold fetchC
    rw [back_get h.len (h.line _) a ha, if_neg (fun g => ht g.2)]

theorem line_far (h : MV m) {q : Nat} (hq : q % 4 ≠ n % 4) : lineM (fetchM m n) q = lineM m q := by
  by_cases ht : (lineM m n).tag = (n : Int)
  · rw [fetch_held ht]
  · rw [fetch_new ht]
    show (m.lines.set (n % 4) _).getD (q % 4) emptyL = _
    rw [lines_set h, if_neg hq]

theorem cells_far (h : MV m) {b : Nat} (hb : b < 512) (hq : b / 4 % 4 ≠ n % 4) : (fetchM m n).cells.getD b (0, 0) = m.cells.getD b (0, 0) := by
  by_cases ht : (lineM m n).tag = (n : Int)
  · rw [fetch_held ht]
  · rw [fetch_new ht]
    exact back_miss h.len (h.line n) b hb (fun e => hq e.symm)

theorem cells_own {b : Nat} (h : MV m) (hb : b < 512) (hq : b / 4 = n) : (fetchM m n).cells.getD b (0, 0) = m.cells.getD b (0, 0) := by
  subst hq
  by_cases ht : (lineM m (b / 4)).tag = ((b / 4 : Nat) : Int)
  · rw [fetch_held ht]
  · rw [fetch_new ht]
    show (backL m.cells (lineM m (b / 4))).getD b (0, 0) = _
    rw [back_get h.len (h.line _) b hb, if_neg (fun g => ht g.2)]

theorem look_fetch (h : MV m) (hc : Coh m) (b : Nat) (hb : b < 512) : lookM (fetchM m n) b = lookM m b := by
  by_cases ht : (lineM m n).tag = (n : Int)
  · rw [fetch_held ht]
  · by_cases e : b / 4 = n
    · subst e
      rw [← fetch_read h hb]
      unfold lookM
      rw [if_pos (fetch_tag h)]
    · by_cases e4 : b / 4 % 4 = n % 4
      · have hl : lineM m (b / 4) = lineM m n := by unfold lineM; rw [e4]
        have hl2 : (lineM (fetchM m n) (b / 4)).tag = (n : Int) := by
          have : lineM (fetchM m n) (b / 4) = lineM (fetchM m n) n := by unfold lineM; rw [e4]
          rw [this]; exact fetch_tag h
        have hcb := hc b hb
        unfold lookM
        rw [hl2, if_neg (by omega)]
        rw [hl] at hcb ⊢
        have hg : (fetchM m n).cells.getD b (0, 0) = (backL m.cells (lineM m n)).getD b (0, 0) := by rw [fetch_new ht]; rfl
        rw [hg, back_get h.len (h.line n) b hb]
        by_cases e5 : (lineM m n).tag = ((b / 4 : Nat) : Int)
        · rw [if_pos e5]
          cases hd : (lineM m n).dirty with
          | true => rw [if_pos ⟨rfl, e5⟩]
          | false => rw [if_neg (by simp), hcb e5 hd]
        · rw [if_neg e5, if_neg (fun g => e5 g.2)]
      · unfold lookM
        rw [line_far h e4, cells_far h hb e4]

theorem Coh.fetch (h : MV m) (hc : Coh m) (hn : n < 128) : Coh (fetchM m n) := by
  by_cases ht : (lineM m n).tag = (n : Int)
  · rw [fetch_held ht]; exact hc
  · intro b hb h1 h2
    by_cases e4 : b / 4 % 4 = n % 4
    · have hl : lineM (fetchM m n) (b / 4) = lineM (fetchM m n) n := by unfold lineM; rw [e4]
      rw [hl] at h1 ⊢
      rw [fetch_tag h] at h1
      obtain rfl : n = b / 4 := by omega
      rw [fetch_new ht]
      show ((m.lines.set (b / 4 % 4) _).getD (b / 4 % 4) emptyL).cells.getD (b % 4) (0, 0) = (fetchC m (b / 4)).getD b (0, 0)
      rw [lines_set h, if_pos rfl]
      show (List.take 4 (List.drop (b / 4 * 4) (fetchC m (b / 4)))).getD (b % 4) (0, 0) = _
      rw [new_get _ (by omega), show b / 4 * 4 + b % 4 = b by omega]
    · rw [line_far h e4] at h1 h2 ⊢
      rw [cells_far h hb e4]
      exact hc b hb h1 h2
end fetch

section put
variable {m : Mem} {a : Nat} {c : Nat × Nat}

theorem line_put (h : MV m) (q : Nat) : lineM (putM m a c) q = if q % 4 = a / 4 % 4 then ⟨(lineM m (a / 4)).tag, true, (lineM m (a / 4)).cells.set (a % 4) c⟩ else lineM m q := lines_set h _ q

theorem MV.put (h : MV m) (ht : (lineM m (a / 4)).tag = ((a / 4 : Nat) : Int)) (hc : VC c) : MV (putM m a c) := by
  have h4 := h.lines
  refine ⟨h.len, by simpa [putM] using h4, h.ok, fun i hi => ?_⟩
  have hi4 : i < m.lines.length := by simpa [putM] using hi
  simp only [putM, List.getElem_set]
  by_cases e : a / 4 % 4 = i
  · rw [if_pos e]
    rcases (h.line (a / 4)).tag with ⟨h1, _⟩ | ⟨k, h1, h2, h3, h4⟩
    · rw [ht] at h1; omega
    · refine .inr ⟨k, h1, h2, by omega, by rw [List.length_set]; exact h4, fun x hx => ?_⟩
      rcases List.mem_or_eq_of_mem_set hx with hx | rfl
      · exact (h.line (a / 4)).cell x hx
      · exact hc
  · rw [if_neg e]; exact h.each i hi4

theorem look_put (h : MV m) (ht : (lineM m (a / 4)).tag = ((a / 4 : Nat) : Int)) (b : Nat) : lookM (putM m a c) b = if b = a then c else lookM m b := by
  unfold lookM
  rw [line_put h]
  by_cases e4 : b / 4 % 4 = a / 4 % 4
  · rw [if_pos e4]
    have hl : lineM m (b / 4) = lineM m (a / 4) := by unfold lineM; rw [e4]
    rw [hl]
    simp only [ht]
    by_cases e : a / 4 = b / 4
    · have hab : ((a / 4 : Nat) : Int) = ((b / 4 : Nat) : Int) := by rw [e]
      rw [if_pos hab, if_pos hab]
      rcases (h.line (a / 4)).tag with ⟨h1, _⟩ | ⟨k, h1, h2, h3, h5⟩
      · rw [ht] at h1; omega
      · rw [getD_in _ _ (by rw [List.length_set]; omega), List.getElem_set, getD_in _ _ (by omega)]
        by_cases e5 : b = a
        · subst e5; rw [if_pos rfl, if_pos rfl]
        · rw [if_neg (show ¬ a % 4 = b % 4 by omega), if_neg e5]
    · have hab : ¬ ((a / 4 : Nat) : Int) = ((b / 4 : Nat) : Int) := by omega
      rw [if_neg hab, if_neg hab, if_neg (show ¬ b = a from fun g => e (by rw [g]))]
      rfl
  · rw [if_neg e4, if_neg (show ¬ b = a from fun g => e4 (by rw [g]))]
    rfl

theorem Coh.put (h : MV m) (hk : Coh m) : Coh (putM m a c) := by
  intro b hb h1 h2
  rw [line_put h] at h1 h2 ⊢
  by_cases e4 : b / 4 % 4 = a / 4 % 4
  · rw [if_pos e4] at h2; cases h2
  · rw [if_neg e4] at h1 h2 ⊢
    exact hk b hb h1 h2

theorem MV.write (h : MV m) (ha : a < 512) (hc : VC c) : MV (writeM m a c) := (h.fetch (by omega)).put (fetch_tag h) hc

theorem look_write (h : MV m) (hk : Coh m) (ha : a < 512) (b : Nat) (hb : b < 512) : lookM (writeM m a c) b = if b = a then c else lookM m b := by
  unfold writeM
  rw [look_put (h.fetch (by omega)) (fetch_tag h), look_fetch h hk b hb]

theorem Coh.write (h : MV m) (hk : Coh m) (ha : a < 512) : Coh (writeM m a c) := Coh.put (h.fetch (by omega)) (Coh.fetch h hk (by omega))

theorem MV.poke (h : MV m) (hc : VC c) : MV (pokeM m a c) := by
  refine ⟨by simpa [pokeM] using h.len, h.lines, fun x hx => ?_, h.each⟩
  rcases List.mem_or_eq_of_mem_set hx with hx | rfl
  · exact h.ok x hx
  · exact hc
end put

theorem four {m : Mem} (h : m.lines.length = 4) : ∃ x0 x1 x2 x3, m.lines = [x0, x1, x2, x3] := by
  match hm : m.lines, h with
  | [a, b, c, d], _ => exact ⟨a, b, c, d, rfl⟩

theorem flush_len {m : Mem} (h : MV m) : (m.lines.foldl backL m.cells).length = 512 ∧ ∀ c ∈ m.lines.foldl backL m.cells, VC c := by
  have key : ∀ (ls : List MLine) (cs : List (Nat × Nat)), (∀ x ∈ ls, ∃ i, VL i x) → cs.length = 512 → (∀ c ∈ cs, VC c) → (ls.foldl backL cs).length = 512 ∧ ∀ c ∈ ls.foldl backL cs, VC c := by
    intro ls
    induction ls with
    | nil => exact fun cs _ h1 h2 => ⟨h1, h2⟩
    | cons x l ih =>
      intro cs hx h1 h2
      obtain ⟨i, hi⟩ := hx x (by simp)
      exact ih _ (fun y hy => hx y (by simp [hy])) (back_length h1 hi) (back_ok h2 hi)
  exact key _ _ (fun x hx => by obtain ⟨i, hi, rfl⟩ := List.getElem_of_mem hx; exact ⟨i, h.each i hi⟩) h.len h.ok

theorem line_empty (cs : List (Nat × Nat)) (n : Nat) : lineM ⟨cs, emptyM⟩ n = emptyL := by
  unfold lineM
  rw [getD_in _ _ (by simp [emptyM]; omega)]
  exact List.getElem_replicate (a := emptyL) (n := 4) _

theorem MV.empty {cs : List (Nat × Nat)} (h1 : cs.length = 512) (h2 : ∀ c ∈ cs, VC c) : MV ⟨cs, emptyM⟩ :=
  ⟨h1, rfl, h2, fun _ hi => .inl (List.getElem_replicate (a := emptyL) (n := 4) hi)⟩

theorem look_empty (cs : List (Nat × Nat)) (a : Nat) : lookM ⟨cs, emptyM⟩ a = cs.getD a (0, 0) := by
  unfold lookM
  rw [line_empty, if_neg (by simp [emptyL]; omega)]

theorem Coh.empty (cs : List (Nat × Nat)) : Coh ⟨cs, emptyM⟩ := by
  intro a ha h
  rw [line_empty] at h
  simp [emptyL] at h
  omega

theorem MV.flush {m : Mem} (h : MV m) : MV (flushM m) := .empty (flush_len h).1 (flush_len h).2

theorem flush_get {m : Mem} (h : MV m) (a : Nat) (ha : a < 512) :
    (flushM m).cells.getD a (0, 0) = if (lineM m (a / 4)).dirty = true ∧ (lineM m (a / 4)).tag = ((a / 4 : Nat) : Int) then (lineM m (a / 4)).cells.getD (a % 4) (0, 0) else m.cells.getD a (0, 0) := by
  obtain ⟨x0, x1, x2, x3, hx⟩ := four h.lines
  have e0 : VL 0 x0 := by have := h.each 0 (by rw [hx]; simp); simpa [hx] using this
  have e1 : VL 1 x1 := by have := h.each 1 (by rw [hx]; simp); simpa [hx] using this
  have e2 : VL 2 x2 := by have := h.each 2 (by rw [hx]; simp); simpa [hx] using this
  have e3 : VL 3 x3 := by have := h.each 3 (by rw [hx]; simp); simpa [hx] using this
  have l0 := back_length h.len e0
  have l1 := back_length l0 e1
  have l2 := back_length l1 e2
  have hf : (flushM m).cells = backL (backL (backL (backL m.cells x0) x1) x2) x3 := by unfold flushM; rw [hx]; rfl
  rw [hf]
  have hc : a / 4 % 4 = 0 ∨ a / 4 % 4 = 1 ∨ a / 4 % 4 = 2 ∨ a / 4 % 4 = 3 := by omega
  unfold lineM
  rw [hx]
  rcases hc with hc | hc | hc | hc <;> rw [hc]
  · rw [back_miss l2 e3 a ha (by omega), back_miss l1 e2 a ha (by omega), back_miss l0 e1 a ha (by omega), back_get h.len e0 a ha]; rfl
  · rw [back_miss l2 e3 a ha (by omega), back_miss l1 e2 a ha (by omega), back_get l0 e1 a ha, back_miss h.len e0 a ha (by omega)]; rfl
  · rw [back_miss l2 e3 a ha (by omega), back_get l1 e2 a ha, back_miss l0 e1 a ha (by omega), back_miss h.len e0 a ha (by omega)]; rfl
  · rw [back_get l2 e3 a ha, back_miss l1 e2 a ha (by omega), back_miss l0 e1 a ha (by omega), back_miss h.len e0 a ha (by omega)]; rfl

theorem flush_look {m : Mem} (h : MV m) (hc : Coh m) (a : Nat) (ha : a < 512) : (flushM m).cells.getD a (0, 0) = lookM m a := by
  rw [flush_get h a ha]
  unfold lookM
  by_cases e : (lineM m (a / 4)).tag = ((a / 4 : Nat) : Int)
  · rw [if_pos e]
    cases hd : (lineM m (a / 4)).dirty with
    | true => rw [if_pos ⟨rfl, e⟩]
    | false => rw [if_neg (by simp), hc a ha e hd]
  · rw [if_neg e, if_neg (fun g => e g.2)]

theorem linesOk_all : ∀ (ls : List MLine) (k : Nat), (∀ i (h : i < ls.length), lineOk (k + i) ls[i] = true) → linesOk k ls = true
  | [], _, _ => rfl
  | x :: l, k, h => by
    rw [linesOk, Bool.and_eq_true]
    exact ⟨h 0 (by simp), linesOk_all l (k + 1) fun i hi => by have := h (i + 1) (by simpa using hi); rw [show k + 1 + i = k + (i + 1) by omega]; simpa using this⟩

theorem VL.ok {i : Nat} {x : MLine} (h : VL i x) : lineOk i x = true := by
  rcases h with rfl | ⟨n, h1, h2, h3, h4, h5⟩
  · rfl
  · rw [lineOk_some (by omega), h1, decide_eq_true (by omega), Bool.true_and, List.all_eq_true]
    exact fun c hc => decide_eq_true (h5 c hc).1

theorem MV.valid {m : Mem} (h : MV m) : memOk m = true := by
  have h1 : linesOk 0 m.lines = true := linesOk_all _ _ fun i hi => by rw [Nat.zero_add]; exact (h.each i hi).ok
  have h2 : m.cells.all okW = true := by rw [List.all_eq_true]; exact fun c hc => decide_eq_true (h.ok c hc).1
  unfold memOk
  rw [decide_eq_true ⟨h.len, h.lines⟩, h1, h2]
  rfl

theorem VC.fit {xs : List (Nat × Nat)} (h : ∀ c ∈ xs, VC c) : OkCells xs := fun c hc => ⟨by have := (h c hc).1; omega, (h c hc).2⟩

theorem MV.fit {m : Mem} (h : MV m) : OkCells m.cells := VC.fit h.ok

theorem MV.fits {m : Mem} (h : MV m) : ∀ x ∈ m.lines, OkCells x.cells := fun x hx => by
  obtain ⟨i, hi, rfl⟩ := List.getElem_of_mem hx
  exact VC.fit (h.each i hi).cell

theorem MV.short {m : Mem} (h : MV m) : ∀ x ∈ m.lines, x.cells.length ≤ 4 := fun x hx => by
  obtain ⟨i, hi, rfl⟩ := List.getElem_of_mem hx
  rcases (h.each i hi).tag with ⟨_, _, h1⟩ | ⟨_, _, _, _, h1⟩
  · rw [h1]; simp
  · omega
end Go.Proofs.Ytkffeibjleiaoaa
