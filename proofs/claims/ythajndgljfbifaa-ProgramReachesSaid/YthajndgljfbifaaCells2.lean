/-
  Contracts: Same, slices.Equal, the document's Same and Distance; SameWords; Numbers (both).
-/
import Derived.Test.YthajndgljfbifaaCells
import Derived.Test.YthajndgljfbifaaLists2
namespace Go.Proofs.Ythajndgljfbifaa
open Go.RowKit
set_option maxRecDepth 100000

/-- The cells of a list, one after the other. -/
def flat : List (Nat × Nat) → List Value
  | [] => []
  | x :: r => .int .u8 (x.1 : Int) :: .int .u16 (x.2 : Int) :: flat r

theorem length_flat : ∀ l : List (Nat × Nat), (flat l).length = l.length * 2
  | [] => rfl
  | x :: r => by simp [flat, length_flat r]; omega

theorem flat_append : ∀ a b : List (Nat × Nat), flat (a ++ b) = flat a ++ flat b
  | [], b => rfl
  | x :: r, b => by simp [flat, flat_append r b]

theorem flat_at : ∀ (l : List (Nat × Nat)) (i : Nat) (h : i < l.length), (flat l)[i * 2]? = some (.int .u8 (l[i].1 : Int)) ∧ (flat l)[i * 2 + 1]? = some (.int .u16 (l[i].2 : Int))
  | x :: r, 0, _ => by simp [flat]
  | x :: r, i + 1, h => by
    have := flat_at r i (by simpa using h)
    rw [show (i + 1) * 2 = i * 2 + 2 by omega]
    simpa [flat] using this

theorem CellsAt.of_row {w : World} {base : Nat} {e : TypeId} {v : Value} {n : Nat} {xs : List (Nat × Nat)} (h : w.ownsRow base e 2 v n (flat xs)) :
    n = xs.length ∧ ∃ a cap, v = .slice a xs.length cap ∧ CellsAt w a xs := by
  have hn : n = xs.length := by have := h.1; rw [length_flat] at this; omega
  subst hn
  refine ⟨rfl, ?_⟩
  rcases h.2 with ⟨hv, h0⟩ | ⟨g, cap, cur, hv, hrest⟩
  · have hx : xs = [] := by cases xs with | nil => rfl | cons x r => simp at h0
    subst hx
    exact ⟨none, 0, hv, Or.inl rfl⟩
  · refine ⟨Option.some ⟨g, 0, none⟩, cap, hv, Or.inr ⟨g, 0, rfl, fun i hi => ?_⟩⟩
    subst hv
    have h1 := h.cellAt (i * 2) (by omega)
    have h2 := h.cellAt (i * 2 + 1) (by omega)
    rw [(flat_at xs i hi).1] at h1
    rw [(flat_at xs i hi).2] at h2
    rw [Nat.zero_add]
    exact ⟨h1, h2⟩

theorem flat_set : ∀ (l : List (Nat × Nat)) (i t v : Nat), ((flat l).set (i * 2) (.int .u8 (t : Int))).set (i * 2 + 1) (.int .u16 (v : Int)) = flat (l.set i (t, v))
  | [], i, t, v => by simp [flat]
  | x :: r, 0, t, v => by simp [flat]
  | x :: r, i + 1, t, v => by
    have := flat_set r i t v
    rw [show (i + 1) * 2 = i * 2 + 2 by omega]
    simpa [flat] using this

theorem madeCells_two (n : Nat) : (madeCells #[Value.int .u8 0, Value.int .u16 0] (n * 2)).toList = flat (List.replicate n (0, 0)) := by
  apply List.ext_getElem?
  intro j
  by_cases hj : j < n * 2
  · have h := flat_at (List.replicate n (0, 0)) (j / 2) (by simp; omega)
    rcases Nat.mod_two_eq_zero_or_one j with h2 | h2
    · have e : j / 2 * 2 = j := by omega
      rw [e] at h
      rw [h.1]
      simp [madeCells, hj, h2]
    · have e : j / 2 * 2 + 1 = j := by omega
      rw [e] at h
      rw [h.2]
      simp [madeCells, hj, h2]
  · have l1 : (madeCells #[Value.int .u8 0, Value.int .u16 0] (n * 2)).toList.length ≤ j := by rw [Array.length_toList, size_madeCells]; omega
    have l2 : (flat (List.replicate n (0, 0))).length ≤ j := by rw [length_flat]; simp; omega
    rw [List.getElem?_eq_none l1, List.getElem?_eq_none l2]

/-- The call returns a new list of cells. -/
def GivesCells (xs : List (Nat × Nat)) (w : World) (e : Ending) (w' : World) : Prop :=
  ∃ a cap, e = .returned (.slice a xs.length cap) ∧ CellsAt w' a xs ∧ Below w.heap.size w w'

theorem info_cell : (Try.prog.info? 127).map (fun i => (i.zero, i.size, i.bytes)) = some (some (.agg #[.int .u8 0, .int .u16 0]), 2, 4) := by kernel_rfl

/-- Words as cells that are numbers. -/
def numsOf (ws : List Nat) : List (Nat × Nat) := ws.map fun v => (0, v)

/-- The first k words as cells, behind them zeros. -/
def numsTo (ws : List Nat) (k : Nat) : List (Nat × Nat) := numsOf (ws.take k) ++ List.replicate (ws.length - k) (0, 0)

theorem numsTo_set (ws : List Nat) (k : Nat) (h : k < ws.length) : (numsTo ws k).set k (0, ws[k]) = numsTo ws (k + 1) := by
  have hl : (numsOf (ws.take k)).length = k := by simp [numsOf]; omega
  unfold numsTo
  rw [List.set_append_right _ _ (by omega), hl, Nat.sub_self, show ws.length - k = ws.length - (k + 1) + 1 by omega, List.replicate_succ, List.take_succ_eq_append_getElem h,
    show numsOf (ws.take k ++ [ws[k]]) = numsOf (ws.take k) ++ [(0, ws[k])] by simp only [numsOf, List.map_append]; rfl, List.append_assoc]
  rfl

theorem numsTo_at (ws : List Nat) (k : Nat) (h : k < ws.length) : (flat (numsTo ws k))[k * 2]? = some (.int .u8 0) ∧ (flat (numsTo ws k))[k * 2 + 1]? = some (.int .u16 0) := by
  have hl : (numsOf (ws.take k)).length = k := by simp [numsOf]; omega
  have hL : k < (numsTo ws k).length := by simp [numsTo, hl]; omega
  have hx : (numsTo ws k)[k] = (0, 0) := by
    have hq : (numsTo ws k)[k]? = some (0, 0) := by
      unfold numsTo
      rw [List.getElem?_append_right (by omega), hl, Nat.sub_self, List.getElem?_replicate, if_pos (by omega)]
    rw [List.getElem?_eq_getElem hL] at hq
    exact Option.some.inj hq
  have := flat_at (numsTo ws k) k hL
  rw [hx] at this
  exact this

theorem numsTo_full (ws : List Nat) : numsTo ws ws.length = numsOf ws := by simp [numsTo]

theorem word_Numbers (a : Option Addr) (ws : List Nat) (cap : Nat) (w : World) (hl : ws.length ≤ 1000000) (ha : NatsAt .u16 w a ws) :
    Calls Try.prog 87 #[.slice a ws.length cap] w (GivesCells (numsOf ws) w) := by
  obtain ⟨i0, hi, hz0, hz1, hz2⟩ := info_parts info_cell
  go_enter Try.func87, Try.ntmps87
  go_wp2_with (first
    | (at_make; refine wpList_make_full _ rfl _ _ 41 rfl w.heap.size 127 i0 (.agg #[.int .u8 0, .int .u16 0]) 2 Try.underlying41 hi hz0 hz1 .i64 .i64 _ _ ws.length rfl rfl rfl rfl ?c1 ?c2 ?c3 ?_))
  case c1 => rw [hz2]; omega
  case c2 => unfold maxLen; omega
  case c3 => omega
  intro w1 hown hg
  rw [madeCells_two, show List.replicate ws.length (0, 0) = numsTo ws 0 by simp [numsTo, numsOf]] at hown
  have hbel := (Below.refl w.heap.size w).grown hg (Nat.le_refl _) (fun k hk => by cases hk)
  clear hg
  go_wp2
  go_loopw [4, 5, 11] (fun _ _ c wr => ∃ k : Nat, k ≤ ws.length ∧ c = .int .i64 k ∧ wr.ownsRow w.heap.size 127 2 (.slice (some ⟨w.heap.size, 0, none⟩) ws.length ws.length) ws.length (flat (numsTo ws k)) ∧ Below w.heap.size w wr) (fun _ _ c _ => ws.length - (intOf c).toNat)
  case atStart => exact ⟨0, by omega, rfl, hown, hbel⟩
  case round =>
    obtain ⟨k, hk, rfl, hownr, hw⟩ := hrel
    by_cases hlt : k < ws.length
    · obtain ⟨b, off, rfl, hc⟩ := (ha.later hw).some hlt
      have c1 := hc k hlt
      clear hc
      have hS := Lib.hid (numsTo_set ws k hlt)
      generalize ws[k] = x at *
      have d1 := hownr.cellAt (k * 2) (by omega)
      have d2 := hownr.cellAt (k * 2 + 1) (by omega)
      rw [(numsTo_at ws k hlt).1] at d1
      rw [(numsTo_at ws k hlt).2] at d2
      have f1 := hownr.frozenAt (k * 2)
      have f2 := hownr.frozenAt (k * 2 + 1)
      have hi9 : (k : Int) < (ws.length : Int) := by omega
      have s1 := hownr.stored (k * 2) (.int .u8 0)
      have s2 := s1.1.stored (k * 2 + 1) (.int .u16 (x : Int))
      have hB := (hw.grown s1.2 hw.size (fun j hj => by cases hj; exact Nat.le_refl _)).grown s2.2 (by have := hw.size; simpa using this) (fun j hj => by cases hj; exact Nat.le_refl _)
      have hF := flat_set (numsTo ws k) k 0 x
      rw [hS.out] at hF
      have r1 := s2.1
      rw [show ((0 : Nat) : Int) = 0 from rfl] at hF
      rw [hF] at r1
      clear s1 s2 hF
      have R1 := Lib.hid r1
      have R2 := Lib.hid hB
      clear r1 hB
      go_wp2
      go_roundw
      case rel => exact ⟨k + 1, by omega, by go_num, R1.out, R2.out⟩
      case measure => simp [intOf]; omega
    · have hkn : k = ws.length := by omega
      have hG : ∃ cap2, ws.length = cap2 ∧ CellsAt wr (some ⟨w.heap.size, 0, none⟩) (numsOf ws) := by
        subst hkn
        rw [numsTo_full] at hownr
        obtain ⟨_, a2, cap2, hv, hn⟩ := CellsAt.of_row hownr
        simp only [Value.slice.injEq] at hv
        obtain ⟨rfl, _, rfl⟩ := hv
        exact ⟨_, rfl, hn⟩
      obtain ⟨_, _, hn⟩ := hG
      have hlen : (numsOf ws).length = ws.length := by simp [numsOf]
      have HG : Hid (GivesCells (numsOf ws) w (.returned (.slice (some ⟨w.heap.size, 0, none⟩) ws.length ws.length)) wr) := Lib.hid ⟨_, ws.length, by rw [hlen], hn, hw⟩
      clear hkn hn hownr ha hown hlen
      go_wp2
      go_ret
      exact HG.out

end Go.Proofs.Ythajndgljfbifaa
