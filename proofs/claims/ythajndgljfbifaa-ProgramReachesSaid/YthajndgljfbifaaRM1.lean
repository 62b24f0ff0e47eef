/-
  The words of a replica and the lines of a cache: as lists, and as they lie in memory.
  Contracts of the document's own memory: all, Valid.
  Contracts of the document's own memory: Empty, Load.
-/
import Derived.Test.YthajndgljfbifaaCells
import Derived.Test.YthajndgljfbifaaTab
import Derived.Test.YthajndgljfbifaaLayRes
import Derived.BigQuiet
import Derived.Deep.QuietTactic
import Derived.Deep.DeepCutAuto
import Derived.Test.YthajndgljfbifaaDeckIns
import Derived.Test.YthajndgljfbifaaLay1
import Derived.OwnWalk
import Derived.Deep.Onto
import Derived.RegionTactic
import Derived.BigRegion
import Derived.Deep.RegionWith
import Derived.Deep.CutBlock
namespace Go.Proofs.Ythajndgljfbifaa
open Go.RowKit

/-- A line of a cache. -/
structure MLine where
  tag : Int
  dirty : Bool
  cells : List (Nat × Nat)

/-- The words of a replica. -/
structure Mem where
  cells : List (Nat × Nat)
  lines : List MLine

/-- A line lies in memory at a place. -/
def LineAt (w : World) (b o : Nat) (x : MLine) : Prop :=
  w.cell? ⟨b, o, none⟩ = some (.int .i64 x.tag) ∧ w.cell? ⟨b, o + 1, none⟩ = some (.bool x.dirty) ∧ ∃ a c, w.cell? ⟨b, o + 2, none⟩ = some (.slice a x.cells.length c) ∧ CellsAt w a x.cells

theorem LineAt.later {w w' : World} {b o : Nat} {x : MLine} (h : LineAt w b o x) (hb : Below w.heap.size w w') : LineAt w' b o x := by
  obtain ⟨h0, h1, a, c, h2, h3⟩ := h
  exact ⟨cell_later hb h0, cell_later hb h1, a, c, cell_later hb h2, h3.later hb⟩

/-- The lines lie in memory from an address on. -/
def LinesAt (w : World) (a : Option Addr) (ls : List MLine) : Prop :=
  ls = [] ∨ ∃ b off, a = some ⟨b, off, none⟩ ∧ ∀ i (h : i < ls.length), LineAt w b (off + i * 3) ls[i]

theorem LinesAt.later {w w' : World} {a : Option Addr} {ls : List MLine} (h : LinesAt w a ls) (hb : Below w.heap.size w w') : LinesAt w' a ls := by
  rcases h with h | ⟨b, off, ha, h⟩
  · exact .inl h
  · exact .inr ⟨b, off, ha, fun i hi => (h i hi).later hb⟩

theorem LinesAt.some {w : World} {a : Option Addr} {ls : List MLine} (h : LinesAt w a ls) {k : Nat} (hk : k < ls.length) :
    ∃ b off, a = some ⟨b, off, none⟩ ∧ ∀ i (h : i < ls.length), LineAt w b (off + i * 3) ls[i] := by
  rcases h with rfl | h
  · simp at hk
  · exact h

/-- A cell is valid. -/
def okW (c : Nat × Nat) : Bool := decide (c.1 ≤ 2)

/-- A line is valid at its place. -/
def lineOk (i : Nat) (x : MLine) : Bool :=
  if x.tag = -1 then !x.dirty && decide (x.cells.length = 0) else decide (0 ≤ x.tag ∧ x.tag < 128 ∧ x.tag % 4 = (i : Int) ∧ x.cells.length = 4) && x.cells.all okW

/-- All lines are, from place i on. -/
def linesOk : Nat → List MLine → Bool
  | _, [] => true
  | i, x :: l => lineOk i x && linesOk (i + 1) l

/-- The words are valid. -/
def memOk (m : Mem) : Bool := decide (m.cells.length = 512 ∧ m.lines.length = 4) && (m.cells.all okW && linesOk 0 m.lines)

/-- All numbers fit their types. -/
def OkMem (m : Mem) : Prop := OkCells m.cells ∧ ∀ x ∈ m.lines, OkCells x.cells

theorem all_here (xs : List (Nat × Nat)) (k : Nat) (h : k < xs.length) : (xs.drop k).all okW = (okW xs[k] && (xs.drop (k + 1)).all okW) := by
  rw [List.drop_eq_getElem_cons h, List.all_cons]

theorem lines_here (ls : List MLine) (k : Nat) (h : k < ls.length) : linesOk k (ls.drop k) = (lineOk k ls[k] && linesOk (k + 1) (ls.drop (k + 1))) := by
  rw [List.drop_eq_getElem_cons h, linesOk]

theorem lines_end (ls : List MLine) (k : Nat) (h : ls.length ≤ k) : linesOk k (ls.drop k) = true := by
  rw [List.drop_eq_nil_of_le h, linesOk]

/-- The cells of a list, as memory has them. -/
def cellRow (c : Nat × Nat) : List Value := [.int .u8 (c.1 : Int), .int .u16 (c.2 : Int)]
def cellRows (xs : List (Nat × Nat)) : List (List Value) := xs.map cellRow

theorem wide_cells (xs : List (Nat × Nat)) : Wide 2 (cellRows xs) := Wide.map (k := 2) cellRow (fun _ => rfl) xs

theorem length_cellRows (xs : List (Nat × Nat)) : (cellRows xs).length = xs.length := by simp [cellRows]

theorem CellsAt.of_rows {B : Nat} {w : World} {a : Option Addr} {xs : List (Nat × Nat)} (h : RowsAt B w a 2 (cellRows xs)) : CellsAt w a xs := by
  rcases h with h | ⟨b, off, ha, _, h⟩
  · exact .inl (by simpa [cellRows] using h)
  · refine .inr ⟨b, off, ha, fun i hi => ⟨?_, ?_⟩⟩
    · have := h i (by rw [length_cellRows]; exact hi) 0 (by omega)
      simpa [cellRows, cellRow] using this
    · have := h i (by rw [length_cellRows]; exact hi) 1 (by omega)
      simpa [cellRows, cellRow] using this

/-- What the call owns reads as cells. -/
theorem CellsAt.of_own {w : World} {base n : Nat} {e : TypeId} {v : Value} {xs : List (Nat × Nat)} (h : w.ownsRow base e 2 v n (cellRows xs).flatten) :
    n = xs.length ∧ ∃ a cap, v = .slice a xs.length cap ∧ CellsAt w a xs ∧ xs.length ≤ cap := by
  obtain ⟨hn, a, cap, hv, hr, hc⟩ := RowsAt.of_row (by omega) (wide_cells xs) h
  rw [length_cellRows] at hn hv hc
  exact ⟨hn, a, cap, hv, .of_rows hr, hc⟩

theorem cellRows_set (xs : List (Nat × Nat)) (i : Nat) (hi : i < xs.length) (v : Nat) : (cellRows xs).flatten.set (i * 2 + 1) (.int .u16 (v : Int)) = (cellRows (xs.set i (xs[i].1, v))).flatten := by
  rw [flatten_set (wide_cells xs) i 1 _ (by rw [length_cellRows]; exact hi) (by omega)]
  simp [cellRows, cellRow, List.map_set]

theorem cellRows_at (xs : List (Nat × Nat)) (i j : Nat) (hi : i < xs.length) (hj : j < 2) : (cellRows xs).flatten[i * 2 + j]? = (cellRow xs[i])[j]? := by
  rw [flatten_at (wide_cells xs) i j (by rw [length_cellRows]; exact hi) hj]
  simp [cellRows]

/-! What a program's data are in memory. -/

/-- The word at an address after r regions and i words of the next one. -/
def loadAt (bs : List Int) (s : List Nat) (L : List (List Nat)) (r i : Nat) (a : Nat) : Nat :=
  match resO bs s (a : Int) with
  | some (q, o) => if q < r ∨ (q = r ∧ o < i) then (L.getD q []).getD o 0 else 0
  | none => 0

/-- All words then. -/
def loadTo (bs : List Int) (s : List Nat) (L : List (List Nat)) (r i : Nat) : List (Nat × Nat) := (List.range 512).map fun a => (0, loadAt bs s L r i a)

theorem length_loadTo (bs : List Int) (s : List Nat) (L : List (List Nat)) (r i : Nat) : (loadTo bs s L r i).length = 512 := by simp [loadTo]

theorem loadTo_at (bs : List Int) (s : List Nat) (L : List (List Nat)) (r i : Nat) (a : Nat) (ha : a < 512) : (loadTo bs s L r i)[a]'(by rw [length_loadTo]; exact ha) = (0, loadAt bs s L r i a) := by simp [loadTo]

theorem loadTo_start (bs : List Int) (s : List Nat) (L : List (List Nat)) : loadTo bs s L 0 0 = List.replicate 512 (0, 0) := by
  apply List.ext_getElem
  · rw [length_loadTo, List.length_replicate]
  · intro a h1 h2
    rw [length_loadTo] at h1
    rw [loadTo_at _ _ _ _ _ _ h1, List.getElem_replicate]
    congr 1
    unfold loadAt
    split
    · rw [if_neg (by omega)]
    · rfl

theorem loadTo_row (bs : List Int) (s : List Nat) (L : List (List Nat)) (r : Nat) (hr : r < L.length) : loadTo bs s L r (L[r]).length = loadTo bs s L (r + 1) 0 := by
  unfold loadTo
  congr 1
  funext a
  congr 1
  unfold loadAt
  split
  · rename_i q o _
    by_cases h : q = r
    · subst h
      rw [if_pos (show q < q + 1 ∨ _ by left; omega), getD_at L [] hr]
      by_cases h2 : o < L[q].length
      · rw [if_pos (.inr ⟨rfl, h2⟩)]
      · rw [if_neg (by omega), List.getD_eq_getElem?_getD, List.getElem?_eq_none (by omega)]; rfl
    · by_cases h2 : q < r
      · rw [if_pos (.inl h2), if_pos (.inl (by omega))]
      · rw [if_neg (by omega), if_neg (by omega)]
  · rfl

theorem loadTo_step (bs : List Int) (s : List Nat) (L : List (List Nat)) (hv : LV bs s) (r i : Nat) (hr : r < L.length) (hs : r < s.length) (hi : i < L[r].length) (hf : L[r].length ≤ s[r]) :
    ∃ a : Nat, bs.getD r 0 + (i : Int) = (a : Int) ∧ a < 512 ∧ loadTo bs s L r (i + 1) = (loadTo bs s L r i).set a (0, L[r][i]) := by
  have hH := ins_holds hv.1 (bs := bs) (k := r) (j := i) hs (by omega)
  obtain ⟨h0, h1⟩ := holds_range hv hH
  obtain ⟨a, ha⟩ : ∃ a : Nat, bs.getD r 0 + (i : Int) = (a : Int) := ⟨(bs.getD r 0 + (i : Int)).toNat, by omega⟩
  rw [ha] at hH h0 h1
  have hR := res_at hv hH
  rw [show ((a : Int) - bs.getD r 0).toNat = i by omega] at hR
  refine ⟨a, ha, by omega, ?_⟩
  apply List.ext_getElem
  · rw [List.length_set, length_loadTo, length_loadTo]
  · intro c h2 h3
    rw [length_loadTo] at h2
    rw [loadTo_at _ _ _ _ _ _ h2, List.getElem_set]
    by_cases e : a = c
    · subst e
      rw [if_pos rfl]
      congr 1
      unfold loadAt
      rw [hR]
      show (if r < r ∨ (r = r ∧ i < i + 1) then (L.getD r []).getD i 0 else 0) = _
      rw [if_pos (.inr ⟨rfl, by omega⟩), getD_at L [] hr, getD_at L[r] 0 hi]
    · rw [if_neg e, loadTo_at _ _ _ _ _ _ h2]
      congr 1
      unfold loadAt
      split
      · rename_i q o hq
        obtain ⟨_, h5⟩ := res_holds hv.1 hq
        have hne : ¬ (q = r ∧ o = i) := fun ⟨h6, h7⟩ => e (by rw [h6, h7] at h5; omega)
        by_cases h6 : q < r ∨ (q = r ∧ o < i)
        · rw [if_pos h6, if_pos (by omega)]
        · rw [if_neg h6, if_neg (by omega)]
      · rfl

theorem ok_loadTo (bs : List Int) (s : List Nat) (L : List (List Nat)) (hL : ∀ l ∈ L, ∀ x ∈ l, x < 65536) (r i : Nat) : OkCells (loadTo bs s L r i) := by
  intro c hc
  obtain ⟨a, ha, rfl⟩ := List.mem_map.1 hc
  refine ⟨by simp, ?_⟩
  show loadAt bs s L r i a < 65536
  unfold loadAt
  split
  · rename_i q o _
    split
    · by_cases h1 : q < L.length
      · rw [getD_at L [] h1]
        by_cases h2 : o < L[q].length
        · rw [getD_at L[q] 0 h2]; exact hL _ (List.getElem_mem h1) _ (List.getElem_mem h2)
        · rw [List.getD_eq_getElem?_getD, List.getElem?_eq_none (by omega)]; simp
      · rw [List.getD_eq_getElem?_getD (l := L), List.getElem?_eq_none (by omega)]; simp
    · simp
  · simp

theorem all_loadTo (bs : List Int) (s : List Nat) (L : List (List Nat)) (r i : Nat) : (loadTo bs s L r i).all okW = true := by
  rw [List.all_eq_true]
  intro c hc
  obtain ⟨a, ha, rfl⟩ := List.mem_map.1 hc
  rfl
end Go.Proofs.Ythajndgljfbifaa
namespace Go.Proofs.Ythajndgljfbifaa
open Go.RowKit

set_option maxHeartbeats 1000000 in
theorem ref04_all (a : Option Addr) (xs : List (Nat × Nat)) (ca : Nat) (w : World) (ha : CellsAt w a xs) (ox : OkCells xs) (lx : xs.length ≤ 1000000000) :
    Calls Try.prog 99 #[.slice a xs.length ca] w fun e w' => e = .returned (.bool (xs.all okW)) ∧ Below w.heap.size w w' := by
  go_enter Try.func99, Try.ntmps99
  go_wp2
  go_loopw [7] (fun c wr => ∃ k : Nat, k ≤ xs.length ∧ c = .int .i64 k ∧ xs.all okW = (xs.drop k).all okW ∧ Below w.heap.size w wr) (fun c _ => xs.length - (intOf c).toNat)
  case atStart => exact ⟨0, by omega, rfl, rfl, Below.refl _ _⟩
  case round =>
    obtain ⟨k, hk, rfl, heq, hw⟩ := hrel
    have HE := Lib.hid heq
    clear heq
    by_cases hlt : k < xs.length
    · obtain ⟨b, o, rfl, hc⟩ := (ha.later hw).some hlt
      obtain ⟨c1, c2⟩ := hc k hlt
      have hx := ox _ (List.getElem_mem hlt)
      have HH := Lib.hid (all_here xs k hlt)
      have i1 : (k : Int) < (xs.length : Int) := by omega
      have i2 : 0 ≤ (k : Int) := by omega
      clear hc
      generalize xs[k] = x at *
      have HV := Lib.hid (fun W => ref01_Valid (x.1 : Int) (x.2 : Int) W (by omega) (by omega))
      have hd : (decide ((x.1 : Int) ≤ 2)) = okW x := by unfold okW; simp only [decide_eq_decide]; omega
      rw [hd] at HV
      clear hd
      have hw2 := hw.alloc hw.size (.cells #[.int .u8 (x.1 : Int), .int .u16 (x.2 : Int)] 127)
      go_wp2_with fail
      refine (HV.out _).mono ?_
      rintro e w1 ⟨rfl, hb1⟩
      have hw3 := hw2.trans (hb1.mono hw2.size)
      cases hok : okW x with
      | true =>
        go_wp2
        go_roundw
        case rel => exact ⟨k + 1, by omega, by go_num, by rw [HE.out, HH.out, hok, Bool.true_and], hw3⟩
        case measure => simp [intOf]; omega
      | false =>
        go_wp2
        go_ret
        exact ⟨ret_bool (by rw [HE.out, HH.out, hok, Bool.false_and]), hw3⟩
    · go_wp2
      go_ret
      exact ⟨ret_bool (by rw [HE.out, List.drop_eq_nil_of_le (by omega)]; rfl), hw⟩

theorem lineOk_none {i : Nat} {x : MLine} (h : x.tag = -1) : lineOk i x = (!x.dirty && decide (x.cells.length = 0)) := by unfold lineOk; rw [if_pos h]

theorem lineOk_some {i : Nat} {x : MLine} (h : x.tag ≠ -1) : lineOk i x = (decide (0 ≤ x.tag ∧ x.tag < 128 ∧ x.tag % 4 = (i : Int) ∧ x.cells.length = 4) && x.cells.all okW) := by unfold lineOk; rw [if_neg h]

set_option maxHeartbeats 2000000 in
theorem ref04_Valid (a al : Option Addr) (cs : List (Nat × Nat)) (ls : List MLine) (ca cl : Nat) (w : World) (ha : CellsAt w a cs) (hl : LinesAt w al ls) (ox : OkCells cs) (hxc : ∀ x ∈ ls, OkCells x.cells) (lx : cs.length ≤ 1000000000) (ll : ls.length ≤ 1000000000) (lc : ∀ x ∈ ls, x.cells.length ≤ 1000000000) :
    Calls Try.prog 72 #[.agg #[.slice a cs.length ca, .slice al ls.length cl]] w fun e w' => e = .returned (.bool (memOk ⟨cs, ls⟩)) ∧ Below w.heap.size w w' := by
  have hB := Below.alloc (Below.refl w.heap.size w) (Nat.le_refl _) (.cells #[.slice a cs.length ca, .slice al ls.length cl] 44)
  have r0 : (w.alloc (.cells #[.slice a cs.length ca, .slice al ls.length cl] 44)).cell? ⟨w.heap.size, 0, none⟩ = some (.slice a cs.length ca) := by rw [World.cell?_alloc_at _ _ _ _ rfl]; rfl
  have r1 : (w.alloc (.cells #[.slice a cs.length ca, .slice al ls.length cl] 44)).cell? ⟨w.heap.size, 1, none⟩ = some (.slice al ls.length cl) := by rw [World.cell?_alloc_at _ _ _ _ rfl]; rfl
  have hs0 : (w.alloc (.cells #[.slice a cs.length ca, .slice al ls.length cl] 44)).heap.size = w.heap.size + 1 := by simp
  have hAll := Lib.hid (ref04_all a cs ca _ (ha.later hB) ox lx)
  have hl0 := hl.later hB
  clear ha hl ox
  go_enter Try.func72, Try.ntmps72
  go_upto_region 1 with fail
  generalize w.alloc (.cells #[.slice a cs.length ca, .slice al ls.length cl] 44) = W0 at *
  by_cases h1 : cs.length = 512
  case neg =>
    have i1 : ((cs.length : Int) != 512) = true := by simp; omega
    have HM : Hid (memOk ⟨cs, ls⟩ = false) := Lib.hid (by unfold memOk; rw [decide_eq_false (by simp only; omega), Bool.false_and])
    clear hAll hl0
    go_wp2
    go_ret
    exact ⟨ret_bool HM.out.symm, hB⟩
  case pos =>
  by_cases h2 : ls.length = 4
  case neg =>
    have i1 : ((cs.length : Int) != 512) = false := by simp; omega
    have i2 : ((ls.length : Int) != 4) = true := by simp; omega
    have HM : Hid (memOk ⟨cs, ls⟩ = false) := Lib.hid (by unfold memOk; rw [decide_eq_false (by simp only; omega), Bool.false_and])
    clear hAll hl0
    go_wp2
    go_ret
    exact ⟨ret_bool HM.out.symm, hB⟩
  case pos =>
  have i1 : ((cs.length : Int) != 512) = false := by simp; omega
  have i2 : ((ls.length : Int) != 4) = false := by simp; omega
  have HM : Hid (memOk ⟨cs, ls⟩ = (cs.all okW && linesOk 0 ls)) := Lib.hid (by unfold memOk; rw [decide_eq_true (show _ ∧ _ from ⟨h1, h2⟩), Bool.true_and])
  have H2 := Lib.hid h2
  clear h1 h2
  go_wp2_with fail
  refine hAll.out.mono ?_
  rintro e w1 ⟨rfl, hb1⟩
  have hw1 := hB.trans (hb1.mono (by omega))
  have r0 := cell_later hb1 r0
  have r1 := cell_later hb1 r1
  have hl1 := hl0.later hb1
  have hs1 : w.heap.size < w1.heap.size := by have := hb1.size; omega
  clear hAll hl0 hb1
  cases hok : cs.all okW with
  | false =>
    go_wp2
    go_ret
    exact ⟨ret_bool (by rw [HM.out, hok, Bool.false_and]), hw1⟩
  | true =>
    rw [hok, Bool.true_and] at HM
    clear hok i1 i2 hB
    go_wp2_with fail
    go_loopw [24] (fun c wr => ∃ k : Nat, k ≤ ls.length ∧ c = .int .i64 k ∧ linesOk 0 ls = linesOk k (ls.drop k) ∧ Below w1.heap.size w1 wr) (fun c _ => ls.length - (intOf c).toNat)
    case atStart => exact ⟨0, by omega, rfl, rfl, Below.refl _ _⟩
    case round =>
      obtain ⟨k, hk, rfl, heq, hw⟩ := hrel
      have HE := Lib.hid heq
      clear heq
      by_cases hlt : k < ls.length
      · obtain ⟨b, o, rfl, hc⟩ := (hl1.later hw).some hlt
        obtain ⟨c0, c1, a2, k2, c2, hcx⟩ := hc k hlt
        have hx := hxc _ (List.getElem_mem hlt)
        have hxl := lc _ (List.getElem_mem hlt)
        have HH := Lib.hid (lines_here ls k hlt)
        have j1 : (k : Int) < (ls.length : Int) := by omega
        have j2 : 0 ≤ (k : Int) := by omega
        have hk4 : k < 4 := by have := H2.out; omega
        clear hc
        generalize ls[k] = x at *
        obtain ⟨t, d, xs⟩ := x
        simp only at c0 c1 c2 hcx hx hxl
        have hw2 := hw.alloc hw.size (.cells #[.int .i64 t, .bool d, .slice a2 xs.length k2] 148)
        have q0 : (wr.alloc (.cells #[.int .i64 t, .bool d, .slice a2 xs.length k2] 148)).cell? ⟨wr.heap.size, 0, none⟩ = some (.int .i64 t) := by rw [World.cell?_alloc_at _ _ _ _ rfl]; rfl
        have q1 : (wr.alloc (.cells #[.int .i64 t, .bool d, .slice a2 xs.length k2] 148)).cell? ⟨wr.heap.size, 1, none⟩ = some (.bool d) := by rw [World.cell?_alloc_at _ _ _ _ rfl]; rfl
        have q2 : (wr.alloc (.cells #[.int .i64 t, .bool d, .slice a2 xs.length k2] 148)).cell? ⟨wr.heap.size, 2, none⟩ = some (.slice a2 xs.length k2) := by rw [World.cell?_alloc_at _ _ _ _ rfl]; rfl
        have hV := Lib.hid (ref04_all a2 xs k2 _ (hcx.later (Below.alloc (Below.refl wr.heap.size wr) (Nat.le_refl _) (.cells #[.int .i64 t, .bool d, .slice a2 xs.length k2] 148))) hx hxl)
        have hwB := hw1.trans (hw2.mono hw1.size)
        go_upto_region 6 with fail
        clear c0 c1 c2 hcx
        generalize wr.alloc (.cells #[.int .i64 t, .bool d, .slice a2 xs.length k2] 148) = W2 at *
        generalize wr.heap.size = B2 at *
        by_cases ht : t = -1
        · subst ht
          have HF := Lib.hid (lineOk_none (i := k) (x := ⟨-1, d, xs⟩) rfl)
          cases d with
          | true =>
            go_wp2
            go_ret
            exact ⟨ret_bool (by rw [HM.out, HE.out, HH.out, HF.out]; rfl), hwB⟩
          | false =>
            by_cases hx0 : xs.length = 0
            · have g0 : ¬ (0 : Int) < (xs.length : Int) := by omega
              clear hV
              go_wp2
              go_roundw
              case rel => exact ⟨k + 1, by omega, by go_num, by rw [HE.out, HH.out, HF.out, decide_eq_true hx0]; rfl, hw2⟩
              case measure => simp [intOf]; omega
            · have g0 : (0 : Int) < (xs.length : Int) := by omega
              clear hV
              go_wp2
              go_ret
              exact ⟨ret_bool (by rw [HM.out, HE.out, HH.out, HF.out, decide_eq_false hx0]; rfl), hwB⟩
        · have e1 : (t == -1) = false := by rw [beq_eq_false_iff_ne]; exact ht
          have HF := Lib.hid (lineOk_some (i := k) (x := ⟨t, d, xs⟩) ht)
          simp only at HF
          by_cases h3 : 0 ≤ t ∧ t < 128 ∧ t % 4 = (k : Int) ∧ xs.length = 4
          · have g0 : ¬ t < 0 := by omega
            have g1 : ¬ (128 : Int) ≤ t := by omega
            have g2 : (t % 4 != (k : Int)) = false := by rw [h3.2.2.1]; simp
            have g3 : ((xs.length : Int) != 4) = false := by simp; omega
            rw [decide_eq_true h3, Bool.true_and] at HF
            clear h3
            go_wp2_with fail
            refine hV.out.mono ?_
            rintro e w3 ⟨rfl, hb3⟩
            have hw3 := hw2.trans (hb3.mono hw2.size)
            cases hok : xs.all okW with
            | true =>
              go_wp2
              go_roundw
              case rel => exact ⟨k + 1, by omega, by go_num, by rw [HE.out, HH.out, HF.out, hok]; rfl, hw3⟩
              case measure => simp [intOf]; omega
            | false =>
              go_wp2
              go_ret
              exact ⟨ret_bool (by rw [HM.out, HE.out, HH.out, HF.out, hok]; rfl), hw1.trans (hw3.mono hw1.size)⟩
          · have HG : Hid (memOk ⟨cs, ls⟩ = false) := Lib.hid (by rw [HM.out, HE.out, HH.out, HF.out, decide_eq_false h3]; rfl)
            clear hV
            by_cases g0 : t < 0
            · go_wp2
              go_ret
              exact ⟨ret_bool HG.out.symm, hwB⟩
            · by_cases g1 : (128 : Int) ≤ t
              · go_wp2
                go_ret
                exact ⟨ret_bool HG.out.symm, hwB⟩
              · by_cases g2 : t % 4 = (k : Int)
                · have g2b : (t % 4 != (k : Int)) = false := by rw [g2]; simp
                  have g3 : ((xs.length : Int) != 4) = true := by simp; omega
                  go_wp2
                  go_ret
                  exact ⟨ret_bool HG.out.symm, hwB⟩
                · have g2b : (t % 4 != (k : Int)) = true := by simp; omega
                  go_wp2
                  go_ret
                  exact ⟨ret_bool HG.out.symm, hwB⟩
      · go_wp2
        go_ret
        exact ⟨ret_bool (by rw [HM.out, HE.out, lines_end _ _ (by omega)]), hw1.trans (hw.mono hw1.size)⟩
end Go.Proofs.Ythajndgljfbifaa
namespace Go.Proofs.Ythajndgljfbifaa
open Go.RowKit
set_option maxRecDepth 100000

theorem info_line : (Try.prog.info? 148).map (fun i => (i.zero, i.size, i.bytes)) = some (some (.agg #[.int .i64 0, .bool false, .slice none 0 0]), 3, 40) := by kernel_rfl

/-- Lines of which the first k are empty, the others zero. -/
def emptyRows (k : Nat) : List (List Value) := List.replicate k [.int .i64 (-1), .bool false, .slice none 0 0] ++ List.replicate (4 - k) [.int .i64 0, .bool false, .slice none 0 0]

theorem emptyRows_set (k : Nat) (hk : k < 4) : (emptyRows k).flatten.set (k * 3) (.int .i64 (-1)) = (emptyRows (k + 1)).flatten := by
  have h : k = 0 ∨ k = 1 ∨ k = 2 ∨ k = 3 := by omega
  rcases h with rfl | rfl | rfl | rfl <;> rfl

theorem emptyRows_get (k : Nat) (hk : k < 4) : ∃ u, (emptyRows k).flatten[k * 3]? = some u := by
  have h : k = 0 ∨ k = 1 ∨ k = 2 ∨ k = 3 := by omega
  rcases h with rfl | rfl | rfl | rfl <;> exact ⟨_, rfl⟩

/-- Empty lines. -/
def emptyM : List MLine := List.replicate 4 ⟨-1, false, []⟩

theorem wide_empty : Wide 3 (emptyRows 4) := fun r hr => by
  simp [emptyRows] at hr
  subst hr; rfl

theorem LinesAt.of_empty {B : Nat} {w : World} {a : Option Addr} (h : RowsAt B w a 3 (emptyRows 4)) : LinesAt w a emptyM := by
  rcases h with h | ⟨b, off, ha, _, h⟩
  · simp [emptyRows] at h
  · refine .inr ⟨b, off, ha, fun i hi => ?_⟩
    have hi4 : i < 4 := by simpa [emptyM] using hi
    have h0 := h i (by simp [emptyRows]; omega) 0 (by omega)
    have h1 := h i (by simp [emptyRows]; omega) 1 (by omega)
    have h2 := h i (by simp [emptyRows]; omega) 2 (by omega)
    have hi5 : i = 0 ∨ i = 1 ∨ i = 2 ∨ i = 3 := by omega
    rcases hi5 with rfl | rfl | rfl | rfl <;> exact ⟨h0, h1, none, 0, h2, .inl rfl⟩

/-- The call gives empty lines in new memory. -/
def GivesEmpty (w : World) (e : Ending) (w' : World) : Prop :=
  ∃ g cap, e = .returned (.slice (some ⟨g, 0, none⟩) 4 cap) ∧ w'.ownsRow w.heap.size 148 3 (.slice (some ⟨g, 0, none⟩) 4 cap) 4 (emptyRows 4).flatten ∧ Below w.heap.size w w'

set_option maxHeartbeats 1000000 in
theorem ref04_Empty (w : World) : Calls Try.prog 90 #[] w (GivesEmpty w) := by
  obtain ⟨i0, hi, hz0, hz1, hz2⟩ := info_parts info_line
  go_enter Try.func90, Try.ntmps90
  go_wp2_with (first
    | (at_make; refine wpList_make_full _ rfl _ _ 42 rfl w.heap.size 148 i0 (.agg #[.int .i64 0, .bool false, .slice none 0 0]) 3 Try.underlying42 hi hz0 hz1 .i64 .i64 _ _ 4 rfl rfl rfl rfl ?c1 ?c2 ?c3 ?_))
  case c1 => rw [hz2]; omega
  case c2 => unfold maxLen; omega
  case c3 => exact Nat.le_refl _
  intro w1 hown hg
  have hown0 : w1.ownsRow w.heap.size 148 3 (.slice (some ⟨w.heap.size, 0, none⟩) 4 4) 4 (emptyRows 0).flatten := by rw [show (madeCells #[Value.int .i64 0, .bool false, .slice none 0 0] 12).toList = (emptyRows 0).flatten from made_rows [.int .i64 0, .bool false, .slice none 0 0] 4] at hown; exact hown
  have hb0 : Below w.heap.size w w1 := (Below.refl _ _).grown hg (Nat.le_refl _) (fun k hk => by cases hk)
  clear hown hg
  go_wp2
  go_loopw [6] (fun c wr => ∃ k : Nat, k ≤ 4 ∧ c = .int .i64 k ∧ wr.ownsRow w.heap.size 148 3 (.slice (some ⟨w.heap.size, 0, none⟩) 4 4) 4 (emptyRows k).flatten ∧ Below w.heap.size w wr) (fun c _ => 4 - (intOf c).toNat)
  case atStart => exact ⟨0, by omega, rfl, hown0, hb0⟩
  case round =>
    clear hown0 hb0
    obtain ⟨k, hk, rfl, hown, hb⟩ := hrel
    by_cases hlt : k < 4
    · have i1 : (k : Int) < 4 := by omega
      have i2 : 0 ≤ (k : Int) := by omega
      obtain ⟨u, hu⟩ := emptyRows_get k hlt
      have c0 := (hown.cellAt (k * 3) (by omega)).trans hu
      have fr := hown.frozenAt (k * 3)
      have hst := hown.stored (k * 3) (.int .i64 (-1))
      rw [emptyRows_set k hlt] at hst
      have R1 := Lib.hid hst.1
      have R2 := Lib.hid (hb.grown hst.2 hb.size (fun j hj => by cases hj; exact Nat.le_refl _))
      clear hst hown hu
      go_wp2
      go_roundw
      case rel => exact ⟨k + 1, by omega, by go_num, R1.out, R2.out⟩
      case measure => simp [intOf]; omega
    · obtain rfl : k = 4 := by omega
      go_wp2
      go_ret
      exact ⟨w.heap.size, 4, rfl, hown, hb⟩

theorem info_cell4 : (Try.prog.info? 127).map (fun i => (i.zero, i.size, i.bytes)) = some (some (.agg #[.int .u8 0, .int .u16 0]), 2, 4) := by kernel_rfl

/-- Lists of words lie in memory. -/
def DataAt (w : World) (a : Option Addr) (L : List (List Nat)) : Prop :=
  L = [] ∨ ∃ b off, a = some ⟨b, off, none⟩ ∧ ∀ i (h : i < L.length), ∃ a2 c, w.cell? ⟨b, off + i, none⟩ = some (.slice a2 L[i].length c) ∧ NatsAt .u16 w a2 L[i]

theorem DataAt.later {w w' : World} {a : Option Addr} {L : List (List Nat)} (h : DataAt w a L) (hb : Below w.heap.size w w') : DataAt w' a L := by
  rcases h with h | ⟨b, off, ha, h⟩
  · exact .inl h
  · refine .inr ⟨b, off, ha, fun i hi => ?_⟩
    obtain ⟨a2, c, h1, h2⟩ := h i hi
    exact ⟨a2, c, cell_later hb h1, h2.later hb⟩

theorem DataAt.some {w : World} {a : Option Addr} {L : List (List Nat)} (h : DataAt w a L) {k : Nat} (hk : k < L.length) :
    ∃ b off, a = some ⟨b, off, none⟩ ∧ ∀ i (h : i < L.length), ∃ a2 c, w.cell? ⟨b, off + i, none⟩ = some (.slice a2 L[i].length c) ∧ NatsAt .u16 w a2 L[i] := by
  rcases h with rfl | h
  · simp at hk
  · exact h

/-- No list is longer than its region. -/
def fitsL : List Int → List (List Nat) → Bool
  | x :: xs, l :: L => decide ((l.length : Int) ≤ x) && fitsL xs L
  | _, _ => true

/-- Load takes the program's data and the layout. -/
def loadOk (bs xs : List Int) (L : List (List Nat)) : Bool := layB bs xs && (decide (L.length = xs.length) && fitsL xs L)

theorem fits_here (xs : List Int) (L : List (List Nat)) (k : Nat) (h : k < xs.length) (h2 : k < L.length) : fitsL (xs.drop k) (L.drop k) = (decide ((L[k].length : Int) ≤ xs[k]) && fitsL (xs.drop (k + 1)) (L.drop (k + 1))) := by
  rw [List.drop_eq_getElem_cons h, List.drop_eq_getElem_cons h2, fitsL]

theorem fits_end (xs : List Int) (L : List (List Nat)) (k : Nat) (h : L.length ≤ k) : fitsL (xs.drop k) (L.drop k) = true := by
  rw [List.drop_eq_nil_of_le h]; cases xs.drop k <;> rfl

/-- What Load gives. -/
def GivesLoad (bs xs : List Int) (L : List (List Nat)) (w : World) (e : Ending) (w' : World) : Prop :=
  Below w.heap.size w w' ∧ ((loadOk bs xs L = false ∧ e = .returned (.tuple #[.agg #[.slice none 0 0, .slice none 0 0], .int .i64 1])) ∨
    (loadOk bs xs L = true ∧ ∃ ac cc al cl, e = .returned (.tuple #[.agg #[.slice ac 512 cc, .slice al 4 cl], .int .i64 0]) ∧ CellsAt w' ac (loadTo bs (xs.map Int.toNat) L L.length 0) ∧ LinesAt w' al emptyM))

/-- What Load gives, in blocks of its own. -/
def GivesLoadF (bs xs : List Int) (L : List (List Nat)) (w : World) (e : Ending) (w' : World) : Prop :=
  Below w.heap.size w w' ∧ ((loadOk bs xs L = false ∧ e = .returned (.tuple #[.agg #[.slice none 0 0, .slice none 0 0], .int .i64 1])) ∨
    (loadOk bs xs L = true ∧ ∃ c cc g cl, e = .returned (.tuple #[.agg #[.slice (some ⟨c, 0, none⟩) 512 cc, .slice (some ⟨g, 0, none⟩) 4 cl], .int .i64 0]) ∧ CellsAt w' (some ⟨c, 0, none⟩) (loadTo bs (xs.map Int.toNat) L L.length 0) ∧ LinesAt w' (some ⟨g, 0, none⟩) emptyM ∧ w.heap.size ≤ c ∧ w.heap.size ≤ g))

theorem GivesLoadF.weak {bs xs : List Int} {L : List (List Nat)} {w : World} {e : Ending} {w' : World} (h : GivesLoadF bs xs L w e w') : GivesLoad bs xs L w e w' := by
  obtain ⟨hb, h | ⟨h0, c, cc, g, cl, he, h1, h2, _⟩⟩ := h
  · exact ⟨hb, .inl h⟩
  · exact ⟨hb, .inr ⟨h0, _, _, _, _, he, h1, h2⟩⟩

/-- While Load goes on: the words, the lines and the box of both. -/
structure LoadS (base mb c g cl : Nat) (xs : List (Nat × Nat)) (W : World) : Prop where
  own : W.ownsRow base 127 2 (.slice (some ⟨c, 0, none⟩) 512 512) 512 (cellRows xs).flatten
  lines : W.ownsRow base 148 3 (.slice (some ⟨g, 0, none⟩) 4 cl) 4 (emptyRows 4).flatten
  box : Blk W mb [.slice (some ⟨c, 0, none⟩) 512 512, .slice (some ⟨g, 0, none⟩) 4 cl]
  hb : base ≤ mb
  n1 : mb ≠ c
  n2 : g ≠ c

theorem LoadS.put {base mb c g cl : Nat} {xs : List (Nat × Nat)} {W : World} (h : LoadS base mb c g cl xs W) (i : Nat) (hi : i < xs.length) (v : Nat) :
    LoadS base mb c g cl (xs.set i (xs[i].1, v)) (W.setCell ⟨c, i * 2 + 1, none⟩ (.int .u16 (v : Int))) ∧ W.grownBy (W.setCell ⟨c, i * 2 + 1, none⟩ (.int .u16 (v : Int))) (some c) := by
  have hst := h.own.stored (i * 2 + 1) (.int .u16 (v : Int))
  rw [cellRows_set xs i hi v] at hst
  exact ⟨⟨hst.1, h.lines.kept hst.2 (.inr (fun e => h.n2 (Option.some.inj e))), h.box.kept hst.2 (fun e => h.n1 (Option.some.inj e)), h.hb, h.n1, h.n2⟩, hst.2⟩

theorem LoadS.drew {base mb c g cl : Nat} {xs : List (Nat × Nat)} {W : World} (h : LoadS base mb c g cl xs W) : LoadS base mb c g cl xs W.drew :=
  ⟨h.own.drew, h.lines.drew, h.box.kept (grownBy_drewN W none 1) (by simp), h.hb, h.n1, h.n2⟩

theorem made512 : ∃ Z : Array Value, Z.toList = (cellRows (List.replicate 512 (0, 0))).flatten ∧ Z.size = 512 * 2 ∧ ∀ W, Sem.run Try.prog (Instr.makeSlice 41 (.int .i64 512) (.int .i64 512)) W = .ok (.slice (some ⟨W.heap.size, 0, none⟩) 512 512) (W.alloc (.cells Z 127)) := by
  obtain ⟨i0, hi, hz0, hz1, hz2⟩ := info_parts info_cell4
  refine ⟨madeCells #[.int .u8 0, .int .u16 0] (512 * 2), ?_, size_madeCells _ _, fun W => ?_⟩
  · rw [show (cellRows (List.replicate 512 (0, 0))) = List.replicate 512 [.int .u8 0, .int .u16 0] by simp only [cellRows, List.map_replicate]; rfl]
    exact made_rows [.int .u8 0, .int .u16 0] 512
  · have := run_make (P := Try.prog) W 41 127 i0 _ Try.underlying41 hi hz0 .i64 .i64 512 512 (by omega) (by omega) (by rw [hz2]; omega) (by omega)
    rw [hz1] at this
    exact this

theorem box_a {W1 w2 : World} (hb2 : Below (W1.drew.alloc (.cells #[.slice none 0 0, .slice none 0 0] 44)).heap.size (W1.drew.alloc (.cells #[.slice none 0 0, .slice none 0 0] 44)) w2) : Blk w2 W1.heap.size [.slice none 0 0, .slice none 0 0] :=
  (Blk.new (W := W1.drew) #[.slice none 0 0, .slice none 0 0] 44).later hb2

theorem box_b {W1 w2 : World} {Z : Array Value} (hb2 : Below ((W1.drew.alloc (.cells #[.slice none 0 0, .slice none 0 0] 44)).alloc (.cells Z 127)).heap.size ((W1.drew.alloc (.cells #[.slice none 0 0, .slice none 0 0] 44)).alloc (.cells Z 127)) w2) : Blk w2 W1.heap.size [.slice none 0 0, .slice none 0 0] :=
  ((Blk.new (W := W1.drew) #[.slice none 0 0, .slice none 0 0] 44).kept (World.grownBy_alloc _ (.cells Z 127) none) (by simp)).later hb2

theorem box_c {W1 w2 : World} {Z : Array Value} (hb2 : Below ((W1.drew.alloc (.cells Z 127)).alloc (.cells #[.slice none 0 0, .slice none 0 0] 44)).heap.size ((W1.drew.alloc (.cells Z 127)).alloc (.cells #[.slice none 0 0, .slice none 0 0] 44)) w2) : Blk w2 (W1.heap.size + 1) [.slice none 0 0, .slice none 0 0] := by
  have h := (Blk.new (W := W1.drew.alloc (.cells Z 127)) #[.slice none 0 0, .slice none 0 0] 44).later hb2
  have e : (W1.drew.alloc (.cells Z 127)).heap.size = W1.heap.size + 1 := by simp
  rw [e] at h
  exact h


theorem own512 (W : World) {Z : Array Value} (hZ : Z.toList = (cellRows (List.replicate 512 (0, 0))).flatten ∧ Z.size = 512 * 2) {b : Nat} (hb : b ≤ W.heap.size) :
    (W.alloc (.cells Z 127)).ownsRow b 127 2 (.slice (some ⟨W.heap.size, 0, none⟩) 512 512) 512 (cellRows (List.replicate 512 (0, 0))).flatten := by
  have h := World.ownsRow_lit (base := b) (e := 127) (size := 2) W Z 512 hb (by unfold maxLen; omega) hZ.2
  rw [hZ.1] at h
  exact h

/-- What Load has made. -/
def LoadM (W1 : World) (mb : Nat) (wf : World) : Prop := ∃ c g cl, LoadS W1.heap.size mb c g cl (List.replicate 512 (0, 0)) wf ∧ Below W1.heap.size W1 wf

theorem load_close {W1 V w2 wf : World} {c g cl mb b2 : Nat}
    (hV : V.ownsRow W1.heap.size 127 2 (.slice (some ⟨c, 0, none⟩) 512 512) 512 (cellRows (List.replicate 512 (0, 0))).flatten) (k1 : V.grownBy wf (some mb))
    (h2 : w2.ownsRow b2 148 3 (.slice (some ⟨g, 0, none⟩) 4 cl) 4 (emptyRows 4).flatten) (hb2 : W1.heap.size ≤ b2) (k2 : w2.grownBy wf (some mb))
    (k0 : W1.grownBy wf (some mb)) (bx : Blk wf mb [.slice (some ⟨c, 0, none⟩) 512 512, .slice (some ⟨g, 0, none⟩) 4 cl]) (n0 : W1.heap.size ≤ mb) (n1 : mb ≠ c) (n2 : g ≠ c) (n3 : g ≠ mb) : LoadM W1 mb wf :=
  ⟨c, g, cl, ⟨hV.kept k1 (.inr (fun e => n1 (Option.some.inj e).symm)), (h2.kept k2 (.inr (fun e => n3 (Option.some.inj e)))).mono hb2, bx, n0, n1, n2⟩, (Below.refl _ _).grown k0 (Nat.le_refl _) (fun k hk => by cases hk; exact n0)⟩

variable {W1 w2 : World} {Z : Array Value} {g cl : Nat}

theorem load_o1 (hZ : Z.toList = (cellRows (List.replicate 512 (0, 0))).flatten ∧ Z.size = 512 * 2) (hb2 : Below (W1.drew.alloc (.cells Z 127)).heap.size (W1.drew.alloc (.cells Z 127)) w2) (hown2 : w2.ownsRow (W1.drew.alloc (.cells Z 127)).heap.size 148 3 (.slice (some ⟨g, 0, none⟩) 4 cl) 4 (emptyRows 4).flatten) : LoadM W1 w2.heap.size (w2.alloc (.cells #[.slice (some ⟨W1.heap.size, 0, none⟩) 512 512, .slice (some ⟨g, 0, none⟩) 4 cl] 44)) := by
  have hg := hown2.lt g rfl
  have hs := hb2.size
  have e0 : (W1.drew.alloc (.cells Z 127)).heap.size = W1.heap.size + 1 := by simp
  rw [e0] at hg hs
  have K := grownBy_trans (grownBy_below hb2 rfl (some w2.heap.size)) (World.grownBy_alloc w2 (.cells #[.slice (some ⟨W1.heap.size, 0, none⟩) 512 512, .slice (some ⟨g, 0, none⟩) 4 cl] 44) (some w2.heap.size))
  exact load_close (own512 W1.drew hZ (Nat.le_refl _)) K hown2 (by rw [e0]; omega) (World.grownBy_alloc w2 _ _) (grownBy_trans (grownBy_trans (grownBy_drewN W1 _ 1) (World.grownBy_alloc W1.drew _ _)) K) (Blk.new _ _) (by omega) (by show w2.heap.size ≠ W1.heap.size; omega) (by show g ≠ W1.heap.size; omega) (by omega)

theorem load_o2 (hZ : Z.toList = (cellRows (List.replicate 512 (0, 0))).flatten ∧ Z.size = 512 * 2) (hb2 : Below ((W1.drew.alloc (.cells Z 127)).alloc (.cells #[.slice none 0 0, .slice none 0 0] 44)).heap.size ((W1.drew.alloc (.cells Z 127)).alloc (.cells #[.slice none 0 0, .slice none 0 0] 44)) w2) (hown2 : w2.ownsRow ((W1.drew.alloc (.cells Z 127)).alloc (.cells #[.slice none 0 0, .slice none 0 0] 44)).heap.size 148 3 (.slice (some ⟨g, 0, none⟩) 4 cl) 4 (emptyRows 4).flatten) : LoadM W1 (W1.heap.size + 1) ((w2.setCell ⟨W1.heap.size + 1, 0, none⟩ (.slice (some ⟨W1.heap.size, 0, none⟩) 512 512)).setCell ⟨W1.heap.size + 1, 1, none⟩ (.slice (some ⟨g, 0, none⟩) 4 cl)) := by
  have hg := hown2.lt g rfl
  have hs := hb2.size
  have e0 : ((W1.drew.alloc (.cells Z 127)).alloc (.cells #[.slice none 0 0, .slice none 0 0] 44)).heap.size = W1.heap.size + 2 := by simp
  rw [e0] at hg hs
  have K2 := grownBy_trans (grownBy_cell w2 (W1.heap.size + 1) 0 (.slice (some ⟨W1.heap.size, 0, none⟩) 512 512)) (grownBy_cell _ (W1.heap.size + 1) 1 (.slice (some ⟨g, 0, none⟩) 4 cl))
  have K := grownBy_trans (grownBy_trans (World.grownBy_alloc (W1.drew.alloc (.cells Z 127)) (.cells #[.slice none 0 0, .slice none 0 0] 44) (some (W1.heap.size + 1))) (grownBy_below hb2 rfl (some (W1.heap.size + 1)))) K2
  exact load_close (own512 W1.drew hZ (Nat.le_refl _)) K hown2 (by rw [e0]; omega) K2 (grownBy_trans (grownBy_trans (grownBy_drewN W1 _ 1) (World.grownBy_alloc W1.drew _ _)) K) (((box_c hb2).put 0 (.slice (some ⟨W1.heap.size, 0, none⟩) 512 512)).put 1 (.slice (some ⟨g, 0, none⟩) 4 cl)) (by omega) (by show W1.heap.size + 1 ≠ W1.heap.size; omega) (by show g ≠ W1.heap.size; omega) (by omega)

theorem load_o3 (hZ : Z.toList = (cellRows (List.replicate 512 (0, 0))).flatten ∧ Z.size = 512 * 2) (hb2 : Below (W1.drew).heap.size (W1.drew) w2) (hown2 : w2.ownsRow (W1.drew).heap.size 148 3 (.slice (some ⟨g, 0, none⟩) 4 cl) 4 (emptyRows 4).flatten) : LoadM W1 (w2.heap.size + 1) ((w2.alloc (.cells Z 127)).alloc (.cells #[.slice (some ⟨w2.heap.size, 0, none⟩) 512 512, .slice (some ⟨g, 0, none⟩) 4 cl] 44)) := by
  have hg := hown2.lt g rfl
  have hs := hb2.size
  have e0 : W1.drew.heap.size = W1.heap.size := rfl
  rw [e0] at hg hs
  have e1 : (w2.alloc (.cells Z 127)).heap.size = w2.heap.size + 1 := by simp
  have K2 := grownBy_trans (World.grownBy_alloc w2 (.cells Z 127) (some (w2.heap.size + 1))) (World.grownBy_alloc (w2.alloc (.cells Z 127)) (.cells #[.slice (some ⟨w2.heap.size, 0, none⟩) 512 512, .slice (some ⟨g, 0, none⟩) 4 cl] 44) (some (w2.heap.size + 1)))
  have bx := Blk.new (W := w2.alloc (.cells Z 127)) #[.slice (some ⟨w2.heap.size, 0, none⟩) 512 512, .slice (some ⟨g, 0, none⟩) 4 cl] 44
  rw [e1] at bx
  exact load_close (own512 w2 hZ hs) (World.grownBy_alloc _ _ _) hown2 (Nat.le_refl _) K2 (grownBy_trans (grownBy_trans (grownBy_drewN W1 _ 1) (grownBy_below hb2 rfl _)) K2) bx (by omega) (by omega) (by omega) (by omega)

theorem load_o4 (hZ : Z.toList = (cellRows (List.replicate 512 (0, 0))).flatten ∧ Z.size = 512 * 2) (hb2 : Below (W1.drew).heap.size (W1.drew) w2) (hown2 : w2.ownsRow (W1.drew).heap.size 148 3 (.slice (some ⟨g, 0, none⟩) 4 cl) 4 (emptyRows 4).flatten) : LoadM W1 w2.heap.size ((w2.alloc (.cells #[.slice (some ⟨(w2.heap.size + 1), 0, none⟩) 512 512, .slice (some ⟨g, 0, none⟩) 4 cl] 44)).alloc (.cells Z 127)) := by
  have hg := hown2.lt g rfl
  have hs := hb2.size
  have e0 : W1.drew.heap.size = W1.heap.size := rfl
  rw [e0] at hg hs
  have e1 : (w2.alloc (.cells #[.slice (some ⟨(w2.heap.size + 1), 0, none⟩) 512 512, .slice (some ⟨g, 0, none⟩) 4 cl] 44)).heap.size = w2.heap.size + 1 := by simp
  have K2 := grownBy_trans (World.grownBy_alloc w2 (.cells #[.slice (some ⟨(w2.heap.size + 1), 0, none⟩) 512 512, .slice (some ⟨g, 0, none⟩) 4 cl] 44) (some w2.heap.size)) (World.grownBy_alloc (w2.alloc (.cells #[.slice (some ⟨(w2.heap.size + 1), 0, none⟩) 512 512, .slice (some ⟨g, 0, none⟩) 4 cl] 44)) (.cells Z 127) (some w2.heap.size))
  have hO := own512 (w2.alloc (.cells #[.slice (some ⟨(w2.heap.size + 1), 0, none⟩) 512 512, .slice (some ⟨g, 0, none⟩) 4 cl] 44)) hZ (b := W1.heap.size) (by omega)
  rw [e1] at hO
  exact load_close hO (grownBy_drewN _ _ 0) hown2 (Nat.le_refl _) K2 (grownBy_trans (grownBy_trans (grownBy_drewN W1 _ 1) (grownBy_below hb2 rfl _)) K2) ((Blk.new _ _).kept (World.grownBy_alloc _ _ none) (by simp)) (by omega) (by omega) (by omega) (by omega)

theorem load_o5 (hZ : Z.toList = (cellRows (List.replicate 512 (0, 0))).flatten ∧ Z.size = 512 * 2) (hb2 : Below ((W1.drew.alloc (.cells #[.slice none 0 0, .slice none 0 0] 44)).alloc (.cells Z 127)).heap.size ((W1.drew.alloc (.cells #[.slice none 0 0, .slice none 0 0] 44)).alloc (.cells Z 127)) w2) (hown2 : w2.ownsRow ((W1.drew.alloc (.cells #[.slice none 0 0, .slice none 0 0] 44)).alloc (.cells Z 127)).heap.size 148 3 (.slice (some ⟨g, 0, none⟩) 4 cl) 4 (emptyRows 4).flatten) : LoadM W1 W1.heap.size ((w2.setCell ⟨W1.heap.size, 0, none⟩ (.slice (some ⟨(W1.heap.size + 1), 0, none⟩) 512 512)).setCell ⟨W1.heap.size, 1, none⟩ (.slice (some ⟨g, 0, none⟩) 4 cl)) := by
  have hg := hown2.lt g rfl
  have hs := hb2.size
  have e0 : ((W1.drew.alloc (.cells #[.slice none 0 0, .slice none 0 0] 44)).alloc (.cells Z 127)).heap.size = W1.heap.size + 2 := by simp
  rw [e0] at hg hs
  have e1 : (W1.drew.alloc (.cells #[.slice none 0 0, .slice none 0 0] 44)).heap.size = W1.heap.size + 1 := by simp
  have K2 := grownBy_trans (grownBy_cell w2 W1.heap.size 0 (.slice (some ⟨(W1.heap.size + 1), 0, none⟩) 512 512)) (grownBy_cell _ W1.heap.size 1 (.slice (some ⟨g, 0, none⟩) 4 cl))
  have K := grownBy_trans (grownBy_below hb2 rfl (some W1.heap.size)) K2
  have hO := own512 (W1.drew.alloc (.cells #[.slice none 0 0, .slice none 0 0] 44)) hZ (b := W1.heap.size) (by omega)
  rw [e1] at hO
  exact load_close hO K hown2 (by rw [e0]; omega) K2 (grownBy_trans (grownBy_trans (grownBy_trans (grownBy_drewN W1 _ 1) (World.grownBy_alloc W1.drew _ _)) (World.grownBy_alloc _ _ _)) K) (((box_b hb2).put 0 (.slice (some ⟨(W1.heap.size + 1), 0, none⟩) 512 512)).put 1 (.slice (some ⟨g, 0, none⟩) 4 cl)) (by omega) (by omega) (by omega) (by omega)

theorem load_o6 (hZ : Z.toList = (cellRows (List.replicate 512 (0, 0))).flatten ∧ Z.size = 512 * 2) (hb2 : Below (W1.drew.alloc (.cells #[.slice none 0 0, .slice none 0 0] 44)).heap.size (W1.drew.alloc (.cells #[.slice none 0 0, .slice none 0 0] 44)) w2) (hown2 : w2.ownsRow (W1.drew.alloc (.cells #[.slice none 0 0, .slice none 0 0] 44)).heap.size 148 3 (.slice (some ⟨g, 0, none⟩) 4 cl) 4 (emptyRows 4).flatten) : LoadM W1 W1.heap.size (((w2.alloc (.cells Z 127)).setCell ⟨W1.heap.size, 0, none⟩ (.slice (some ⟨w2.heap.size, 0, none⟩) 512 512)).setCell ⟨W1.heap.size, 1, none⟩ (.slice (some ⟨g, 0, none⟩) 4 cl)) := by
  have hg := hown2.lt g rfl
  have hs := hb2.size
  have e0 : (W1.drew.alloc (.cells #[.slice none 0 0, .slice none 0 0] 44)).heap.size = W1.heap.size + 1 := by simp
  rw [e0] at hg hs
  have K3 := grownBy_trans (grownBy_cell (w2.alloc (.cells Z 127)) W1.heap.size 0 (.slice (some ⟨w2.heap.size, 0, none⟩) 512 512)) (grownBy_cell _ W1.heap.size 1 (.slice (some ⟨g, 0, none⟩) 4 cl))
  have K2 := grownBy_trans (World.grownBy_alloc w2 (.cells Z 127) (some W1.heap.size)) K3
  have K := grownBy_trans (grownBy_below hb2 rfl (some W1.heap.size)) K2
  have bx := (((box_a hb2).kept (World.grownBy_alloc w2 (.cells Z 127) none) (by simp)).put 0 (.slice (some ⟨w2.heap.size, 0, none⟩) 512 512)).put 1 (.slice (some ⟨g, 0, none⟩) 4 cl)
  exact load_close (own512 w2 hZ (b := W1.heap.size) (by omega)) K3 hown2 (by rw [e0]; omega) K2 (grownBy_trans (grownBy_trans (grownBy_drewN W1 _ 1) (World.grownBy_alloc W1.drew _ _)) K) bx (by omega) (by omega) (by omega) (by omega)


set_option maxHeartbeats 2000000 in
set_option maxRecDepth 100000 in
theorem ref04_LoadF (ka sa la da : Option Addr) (kn kc sc dc lc : Nat) (xs bs : List Int) (L : List (List Nat)) (key : Int) (w : World) (hs : IntsAt .i64 w sa xs) (hl : IntsAt .i64 w la bs) (hd : DataAt w da L)
    (lx : xs.length ≤ 1000000) (lb : bs.length ≤ 1000000) (ld : L.length ≤ 1000000000) (le : ∀ l ∈ L, l.length ≤ 1000000000) (hcap : bs.length ≤ lc) :
    Calls Try.prog 54 #[.agg #[.slice ka kn kc, .slice sa xs.length sc, .slice da L.length dc], .agg #[.slice la bs.length lc, .int .u16 key]] w (GivesLoadF bs xs L w) := by
  have HCAP := Lib.hid hcap
  clear hcap
  obtain ⟨i0, hi, hz0, hz1, hz2⟩ := info_parts info_cell4
  have A0 := World.grownBy_alloc w (.cells #[.slice ka kn kc, .slice sa xs.length sc, .slice da L.length dc] 26) none
  have A1 := World.grownBy_alloc (w.alloc (.cells #[.slice ka kn kc, .slice sa xs.length sc, .slice da L.length dc] 26)) (.cells #[.slice la bs.length lc, .int .u16 key] 29) none
  have A2 := World.grownBy_alloc ((w.alloc (.cells #[.slice ka kn kc, .slice sa xs.length sc, .slice da L.length dc] 26)).alloc (.cells #[.slice la bs.length lc, .int .u16 key] 29)) (.cells #[.slice none 0 0, .slice none 0 0] 44) none
  have bp := ((Blk.new (W := w) #[.slice ka kn kc, .slice sa xs.length sc, .slice da L.length dc] 26).kept A1 (by simp)).kept A2 (by simp)
  have bl := (Blk.new (W := w.alloc (.cells #[.slice ka kn kc, .slice sa xs.length sc, .slice da L.length dc] 26)) #[.slice la bs.length lc, .int .u16 key] 29).kept A2 (by simp)
  have br := Blk.new (W := (w.alloc (.cells #[.slice ka kn kc, .slice sa xs.length sc, .slice da L.length dc] 26)).alloc (.cells #[.slice la bs.length lc, .int .u16 key] 29)) #[.slice none 0 0, .slice none 0 0] 44
  have hB : Below w.heap.size w (((w.alloc (.cells #[.slice ka kn kc, .slice sa xs.length sc, .slice da L.length dc] 26)).alloc (.cells #[.slice la bs.length lc, .int .u16 key] 29)).alloc (.cells #[.slice none 0 0, .slice none 0 0] 44)) :=
    ((Below.alloc (Below.refl w.heap.size w) (Nat.le_refl _) _).alloc (by simp) _).alloc (by simp; omega) _
  have hz : (((w.alloc (.cells #[.slice ka kn kc, .slice sa xs.length sc, .slice da L.length dc] 26)).alloc (.cells #[.slice la bs.length lc, .int .u16 key] 29)).alloc (.cells #[.slice none 0 0, .slice none 0 0] 44)).heap.size = w.heap.size + 3 := by simp
  have e1 : (w.alloc (.cells #[.slice ka kn kc, .slice sa xs.length sc, .slice da L.length dc] 26)).heap.size = w.heap.size + 1 := by simp
  have e2 : ((w.alloc (.cells #[.slice ka kn kc, .slice sa xs.length sc, .slice da L.length dc] 26)).alloc (.cells #[.slice la bs.length lc, .int .u16 key] 29)).heap.size = w.heap.size + 1 + 1 := by simp
  rw [e1] at bl
  rw [e2] at br
  have hs0 := hs.later hB
  have hl0 := hl.later hB
  have hd0 := hd.later hB
  clear A0 A1 A2 e1 e2 hs hl hd
  go_enter Try.func54, Try.ntmps54
  go_upto_region 1 with fail
  generalize ((w.alloc (.cells #[.slice ka kn kc, .slice sa xs.length sc, .slice da L.length dc] 26)).alloc (.cells #[.slice la bs.length lc, .int .u16 key] 29)).alloc (.cells #[.slice none 0 0, .slice none 0 0] 44) = W0 at *
  have hV := Lib.hid (ref03_Valid la bs lc key sa xs sc W0 lb lx HCAP.out hl0 hs0)
  have p1 := (bp 1 (by simp)).1
  have p2 := (bp 2 (by simp)).1
  have l0 := (bl 0 (by simp)).1
  have l1 := (bl 1 (by simp)).1
  go_wp2_with fail
  refine hV.out.mono ?_
  rintro e W1 ⟨rfl, hb1⟩
  have hB := hB.trans (hb1.mono (by omega))
  have bp := bp.later hb1
  have bl := bl.later hb1
  have br := br.later hb1
  have hs1 := hs0.later hb1
  have hl1 := hl0.later hb1
  have hd1 := hd0.later hb1
  have hz1 : w.heap.size + 3 ≤ W1.heap.size := by have := hb1.size; omega
  clear hb1 hs0 hl0 hd0 hV hz
  have p1 := (bp 1 (by simp)).1
  have p2 := (bp 2 (by simp)).1
  have l0 := (bl 0 (by simp)).1
  have l1 := (bl 1 (by simp)).1
  have r0 := (br 0 (by simp)).1
  have r1 := (br 1 (by simp)).1
  have fr0 := (br 0 (by simp)).2
  have fr1 := (br 1 (by simp)).2
  have hBad : ∀ (w9 : World), loadOk bs xs L = false → Below w.heap.size w w9 → GivesLoadF bs xs L w (.returned (.tuple #[.agg #[.slice none 0 0, .slice none 0 0], .int .i64 1])) w9 := fun w9 h1 h2 => ⟨h2, .inl ⟨h1, rfl⟩⟩
  have HBad := Lib.hid hBad
  clear hBad
  cases hlb : layB bs xs with
  | false =>
    have HO : Hid (loadOk bs xs L = false) := Lib.hid (by unfold loadOk; rw [hlb, Bool.false_and])
    have HW := Lib.hid ((hB.setCell (p := ⟨w.heap.size + 1 + 1, 0, none⟩) (by simp; omega) (.slice none 0 0)).setCell (p := ⟨w.heap.size + 1 + 1, 1, none⟩) (by simp; omega) (.slice none 0 0))
    go_wp2
    refine bodyPost_ret (v := .tuple #[.agg #[.slice none 0 0, .slice none 0 0], .int .i64 1]) (by simp [results, Try.results54, go_sem, r0, r1]) rfl (HBad.out _ HO.out HW.out)
  | true =>
    by_cases hln : L.length = xs.length
    case neg =>
      have HO : Hid (loadOk bs xs L = false) := Lib.hid (by unfold loadOk; rw [decide_eq_false hln, Bool.false_and, Bool.and_false])
      have HW := Lib.hid ((hB.setCell (p := ⟨w.heap.size + 1 + 1, 0, none⟩) (by simp; omega) (.slice none 0 0)).setCell (p := ⟨w.heap.size + 1 + 1, 1, none⟩) (by simp; omega) (.slice none 0 0))
      have g0 : ((L.length : Int) != (xs.length : Int)) = true := by simp; omega
      go_wp2
      refine bodyPost_ret (v := .tuple #[.agg #[.slice none 0 0, .slice none 0 0], .int .i64 1]) (by simp [results, Try.results54, go_sem, r0, r1]) rfl (HBad.out _ HO.out HW.out)
    case pos =>
    have g0 : ((L.length : Int) != (xs.length : Int)) = false := by simp; omega
    have HO : Hid (loadOk bs xs L = fitsL xs L) := Lib.hid (by unfold loadOk; rw [hlb, decide_eq_true hln, Bool.true_and, Bool.true_and])
    have HL := Lib.hid hln
    have HLB := Lib.hid hlb
    clear hln hlb
    go_upto_region 3 with fail
    clear g0
    have HE := Lib.hid ref04_Empty
    obtain ⟨Z, hZ1, hZ2, hZ⟩ := made512
    have HZ := Lib.hid (And.intro hZ1 hZ2)
    clear hZ1 hZ2
    go_cut [6] (fun v wx => ∃ mb, v = .pointer (some ⟨mb, 0, none⟩) ∧ LoadM W1 mb wx)
    case first =>
      clear p1 p2 l0 l1 r0 r1 fr0 fr1 bp bl br
      go_region_with (go_at_call 90; (with_reducible refine (HE.out _).mono ?_); rintro e w2 ⟨g, cl, rfl, hown2, hb2⟩; first
        | (have bx := box_a (W1 := W1) hb2; have bz := bx.kept (World.grownBy_alloc w2 (.cells Z 127) none) (by simp); have z0 := (bz 0 (by simp)).1; have z1 := (bz 1 (by simp)).1; have z2 := (bz 0 (by simp)).2; have z3 := (bz 1 (by simp)).2; have x0 := (bx 0 (by simp)).1; have x1 := (bx 1 (by simp)).1; have y0 := (bx 0 (by simp)).2; have y1 := (bx 1 (by simp)).2)
        | (have bx := box_b (W1 := W1) hb2; have x0 := (bx 0 (by simp)).1; have x1 := (bx 1 (by simp)).1; have y0 := (bx 0 (by simp)).2; have y1 := (bx 1 (by simp)).2)
        | (have bx := box_c (W1 := W1) hb2; have x0 := (bx 0 (by simp)).1; have x1 := (bx 1 (by simp)).1; have y0 := (bx 0 (by simp)).2; have y1 := (bx 1 (by simp)).2)
        | skip)
      all_goals
        go_wp2
        go_meet
        exact ⟨_, rfl, by first | exact load_o1 HZ.out hb2 hown2 | exact load_o2 HZ.out hb2 hown2 | exact load_o3 HZ.out hb2 hown2 | exact load_o4 HZ.out hb2 hown2 | exact load_o5 HZ.out hb2 hown2 | exact load_o6 HZ.out hb2 hown2⟩
    case rest =>
      obtain ⟨mb, rfl, c, g, cl, hS, hw0⟩ := hcut
      rw [← loadTo_start bs (xs.map Int.toNat) L] at hS
      obtain ⟨s, hsd⟩ : ∃ s, s = xs.map Int.toNat := ⟨_, rfl⟩
      have hvb : validB xs = true ∧ LV bs s := by
        have := HLB.out
        unfold layB at this
        rw [Bool.and_eq_true] at this
        exact ⟨this.1, by rw [hsd]; exact of_decide_eq_true this.2⟩
      have hLV := Lib.hid hvb.2
      have hsx : Hid (s.length = xs.length ∧ ∀ k (h : k < xs.length) (h2 : k < s.length), xs[k] = ((s[k] : Nat) : Int) ∧ s[k] ≤ 32) := Lib.hid (by
        obtain ⟨t, ht, rfl⟩ := validB_some hvb.1
        rw [toNat_map] at hsd
        subst hsd
        exact ⟨by simp, fun k h h2 => ⟨by simp, (ht.2.2 _ (List.getElem_mem h2)).2⟩⟩)
      rw [← hsd] at hS
      have HSD := Lib.hid hsd
      clear hvb hsd HE hZ HZ
      have hlb2 : Hid (bs.length = s.length) := Lib.hid hLV.out.1
      have p2c := cell_later hw0 p2
      go_wp2_with fail
      go_loopw [32] (fun cc wr => ∃ k : Nat, k ≤ L.length ∧ cc = .int .i64 k ∧ fitsL xs L = fitsL (xs.drop k) (L.drop k) ∧ LoadS W1.heap.size mb c g cl (loadTo bs s L k 0) wr ∧ Below W1.heap.size W1 wr) (fun cc _ => L.length - (intOf cc).toNat)
      case atStart => exact ⟨0, by omega, rfl, rfl, hS, hw0⟩
      case round =>
        clear hS hw0 p2c
        obtain ⟨k, hk, rfl, heq, hS, hw⟩ := hrel
        have HF := Lib.hid heq
        clear heq
        have P1 := cell_later hw p1
        have P2 := cell_later hw p2
        have L0 := cell_later hw l0
        have R0 := cell_later hw r0
        have R1 := cell_later hw r1
        have brw := br.later hw
        have F0 := (brw 0 (by simp)).2
        have F1 := (brw 1 (by simp)).2
        by_cases hlt : k < L.length
        · have hkx : k < xs.length := by have := HL.out; omega
          have hks : k < s.length := by have := hsx.out.1; omega
          obtain ⟨bd, od, rfl, hdc⟩ := hd1.some hlt
          obtain ⟨a2, c2, dc1, dn⟩ := hdc k hlt
          have dc0 := cell_later hw dc1
          obtain ⟨bx, ox, rfl, hxc⟩ := (hs1.later hw).some hkx
          have xc0 := hxc k hkx
          clear hdc hxc dc1
          have HX := Lib.hid (hsx.out.2 k hkx hks)
          have HH := Lib.hid (fits_here xs L k hkx hlt)
          have hle := le _ (List.getElem_mem hlt)
          have HR := Lib.hid (loadTo_row bs s L k hlt)
          have HStep := Lib.hid (fun i h1 h2 => loadTo_step bs s L hLV.out k i hlt hks h1 h2)
          have HLK := Lib.hid (rfl : L[k] = L[k])
          generalize xs[k] = x at *
          generalize L[k] = l at *
          generalize s[k] = y at *
          have i1 : (k : Int) < (L.length : Int) := by omega
          have i2 : 0 ≤ (k : Int) := by omega
          have i3 : (k : Int) < (xs.length : Int) := by omega
          by_cases hf : (l.length : Int) ≤ x
          case neg =>
            have HO2 : Hid (loadOk bs xs L = false) := Lib.hid (by rw [HO.out, HF.out, HH.out, decide_eq_false hf, Bool.false_and])
            have hb9 := hB.trans (hw.mono hB.size)
            have HW := Lib.hid ((hb9.setCell (p := ⟨w.heap.size + 1 + 1, 0, none⟩) (by simp; omega) (.slice none 0 0)).setCell (p := ⟨w.heap.size + 1 + 1, 1, none⟩) (by simp; omega) (.slice none 0 0))
            clear hS HStep
            go_wp2
            refine bodyPost_ret (v := .tuple #[.agg #[.slice none 0 0, .slice none 0 0], .int .i64 1]) (by simp [results, Try.results54, go_sem, R0, R1]) rfl (HBad.out _ HO2.out HW.out)
          case pos =>
            have HF2 : Hid (fitsL xs L = fitsL (xs.drop (k + 1)) (L.drop (k + 1))) := Lib.hid (by rw [HF.out, HH.out, decide_eq_true hf, Bool.true_and])
            have hly : l.length ≤ y := by have := HX.out.1; omega
            have hy32 := HX.out.2
            have hkb : k < bs.length := by have := hlb2.out; omega
            clear HF HH F0 F1 R0 R1 brw HLK
            go_wp2_with fail
            go_loopw [48] (fun cc wr => ∃ i : Nat, i ≤ l.length ∧ cc = .int .i64 i ∧ LoadS W1.heap.size mb c g cl (loadTo bs s L k i) wr ∧ Below W1.heap.size W1 wr) (fun cc _ => l.length - (intOf cc).toNat)
            case atStart => exact ⟨0, by omega, rfl, hS, hw⟩
            case round =>
              have hdw := dn
              clear hS P1 P2 L0 dn
              obtain ⟨i, hi1, rfl, hS, hw2⟩ := hrel
              by_cases hil : i < l.length
              · obtain ⟨ad, had, ha5, hset⟩ := HStep.out i hil hly
                have P1 := cell_later hw2 p1
                have L0 := cell_later hw2 l0
                have m0 := (hS.box 0 (by simp)).1
                obtain ⟨bw, ow, rfl, hwc⟩ := (hdw.later hw2).some hil
                have wc0 := hwc i hil
                obtain ⟨bl, ol, rfl, hlc⟩ := (hl1.later hw2).some hkb
                have lc0 := hlc k hkb
                have hgd : bs.getD k 0 = bs[k] := getD_at bs 0 hkb
                rw [hgd] at had
                clear hwc hlc hgd
                generalize bs[k] = z at *
                have hla : ad < (loadTo bs s L k i).length := by rw [length_loadTo]; exact ha5
                have ec := hS.own.cellAt (ad * 2 + 1) (by omega)
                rw [cellRows_at _ _ 1 hla (by omega)] at ec
                have efr := hS.own.frozenAt (ad * 2 + 1)
                have hput := hS.put ad hla l[i]
                have hz0 : (loadTo bs s L k i)[ad].1 = 0 := by rw [loadTo_at _ _ _ _ _ _ ha5]
                rw [hz0, ← hset] at hput
                have HP := Lib.hid hput
                obtain ⟨u9, hu9⟩ : ∃ u, (cellRow (loadTo bs s L k i)[ad])[1]? = some u := ⟨_, rfl⟩
                rw [hu9] at ec
                clear hput hset hz0 hu9 HStep hS
                generalize l[i] = v at *
                have j1 : IntKind.i64.wrap (z + (i : Int)) = (ad : Int) := by rw [had]; exact IntWalk.i64_in _ (by omega)
                have j2 : (ad : Int) < 512 := by omega
                have j3 : 0 ≤ (ad : Int) := by omega
                have j4 : (i : Int) < (l.length : Int) := by omega
                have j5 : 0 ≤ (i : Int) := by omega
                have j6 : (k : Int) < (bs.length : Int) := by omega
                have hcb := (HP.out.1.own.lt c rfl).1
                go_wp2_with fail
                go_region
                go_wp2
                go_roundw
                case rel => exact ⟨i + 1, by omega, by go_num, HP.out.1.drew, ((hw2.grown HP.out.2 hw2.size (fun j hj => by cases hj; exact hcb))).drew⟩
                case measure => simp [intOf]; omega
              · obtain rfl : i = l.length := by omega
                rw [HR.out] at hS
                go_wp2
                go_roundw
                case rel => exact ⟨k + 1, by omega, by go_num, HF2.out, hS, hw2⟩
                case measure => simp [intOf]; omega
        · obtain rfl : k = L.length := by omega
          have HT : Hid (loadOk bs xs L = true) := Lib.hid (by rw [HO.out, HF.out, fits_end _ _ _ (Nat.le_refl _)])
          have m0 := (hS.box 0 (by simp)).1
          have m1 := (hS.box 1 (by simp)).1
          have hmb := hS.hb
          have g1 := grownBy_cell wr (w.heap.size + 1 + 1) 0 (.slice (some ⟨c, 0, none⟩) 512 512)
          have g2 := grownBy_cell (wr.setCell ⟨w.heap.size + 1 + 1, 0, none⟩ (.slice (some ⟨c, 0, none⟩) 512 512)) (w.heap.size + 1 + 1) 1 (.slice (some ⟨g, 0, none⟩) 4 cl)
          have hcb := (hS.own.lt c rfl).1
          have hgb := (hS.lines.lt g rfl).1
          have own2 := (hS.own.kept g1 (.inr (fun e => by have e2 : c = w.heap.size + 1 + 1 := Option.some.inj e; omega))).kept g2 (.inr (fun e => by have e2 : c = w.heap.size + 1 + 1 := Option.some.inj e; omega))
          have lin2 := (hS.lines.kept g1 (.inr (fun e => by have e2 : g = w.heap.size + 1 + 1 := Option.some.inj e; omega))).kept g2 (.inr (fun e => by have e2 : g = w.heap.size + 1 + 1 := Option.some.inj e; omega))
          obtain ⟨hn, ac, cc, hv, hC, hn2⟩ := CellsAt.of_own own2
          obtain ⟨hn3, al, cl2, hv2, hR, hn4⟩ := RowsAt.of_row (by omega) wide_empty lin2
          have hb9 := hB.trans (hw.mono hB.size)
          have HW := Lib.hid ((hb9.setCell (p := ⟨w.heap.size + 1 + 1, 0, none⟩) (by simp; omega) (.slice (some ⟨c, 0, none⟩) 512 512)).setCell (p := ⟨w.heap.size + 1 + 1, 1, none⟩) (by simp; omega) (.slice (some ⟨g, 0, none⟩) 4 cl))
          have HG : Hid (GivesLoadF bs xs L w (.returned (.tuple #[.agg #[.slice (some ⟨c, 0, none⟩) 512 512, .slice (some ⟨g, 0, none⟩) 4 cl], .int .i64 0])) ((wr.setCell ⟨w.heap.size + 1 + 1, 0, none⟩ (.slice (some ⟨c, 0, none⟩) 512 512)).setCell ⟨w.heap.size + 1 + 1, 1, none⟩ (.slice (some ⟨g, 0, none⟩) 4 cl))) :=
            Lib.hid ⟨HW.out, .inr ⟨HT.out, _, _, _, _, rfl, by
              simp only [Value.slice.injEq] at hv
              obtain ⟨rfl, _, _⟩ := hv
              rw [← HSD.out]; exact hC, by
              simp only [Value.slice.injEq] at hv2
              obtain ⟨rfl, _, _⟩ := hv2
              exact .of_empty hR, by have := (own2.lt c rfl).1; omega, by have := (lin2.lt g rfl).1; omega⟩⟩
          clear own2 lin2 hn hn2 hn3 hn4 hv hC hv2 hR g1 g2 hS
          go_wp2
          refine bodyPost_ret (v := .tuple #[.agg #[.slice (some ⟨c, 0, none⟩) 512 512, .slice (some ⟨g, 0, none⟩) 4 cl], .int .i64 0]) (by simp [results, Try.results54, go_sem, R0, R1]) rfl HG.out

theorem ref04_Load (ka sa la da : Option Addr) (kn kc sc dc lc : Nat) (xs bs : List Int) (L : List (List Nat)) (key : Int) (w : World) (hs : IntsAt .i64 w sa xs) (hl : IntsAt .i64 w la bs) (hd : DataAt w da L)
    (lx : xs.length ≤ 1000000) (lb : bs.length ≤ 1000000) (ld : L.length ≤ 1000000000) (le : ∀ l ∈ L, l.length ≤ 1000000000) (hcap : bs.length ≤ lc) :
    Calls Try.prog 54 #[.agg #[.slice ka kn kc, .slice sa xs.length sc, .slice da L.length dc], .agg #[.slice la bs.length lc, .int .u16 key]] w (GivesLoad bs xs L w) :=
  (ref04_LoadF ka sa la da kn kc sc dc lc xs bs L key w hs hl hd lx lb ld le hcap).mono fun _ _ h => h.weak
end Go.Proofs.Ythajndgljfbifaa
