/-
  WordDistances: for any two lists of cells and every list of ints the law returns true.
-/
import Derived.Test.YtbeielaapnncgaaDeck3
import Derived.Test.YtbeielaapnncgaaCells4
import Derived.Test.YtbeielaapnncgaaOpen2
import Derived.Deep.RegionWith
import Derived.Deep.RegionHeld3
import Derived.Deep.DeepCutAuto
import Derived.Laws.AppendOwnNone
namespace Go.Proofs.Ytbeielaapnncgaa.wordDistancesLaw
open Go.RowKit Go.ChangeShapes Go.WideShapes Go.ChangeAt

theorem long (a b c : Option Addr) (xs ys : List (Nat × Nat)) (zs : List Int) (ca cb cc : Nat) (w : World) (h : 100 < xs.length ∨ 100 < ys.length) :
    Calls Try.prog 4 #[.slice a xs.length ca, .slice b ys.length cb, .slice c zs.length cc] w fun e w' => e = .returned (.bool true) ∧ Below w.heap.size w w' := by
  by_cases h1 : 100 < xs.length
  · go_enter Try.func4, Try.ntmps4
    go_wp2_with (go_at_call 16; (with_reducible refine (awake_any _).mono ?_); rintro e w' ⟨rfl, hb5⟩)
    go_ret
    exact ⟨rfl, hb5⟩
  · have h2 : 100 < ys.length := by omega
    go_enter Try.func4, Try.ntmps4
    go_wp2_with (go_at_call 16; (with_reducible refine (awake_any _).mono ?_); rintro e w' ⟨rfl, hb5⟩)
    go_ret
    exact ⟨rfl, hb5⟩

theorem flat_one : ∀ l : List (Nat × Nat), ∀ u ∈ flat l, u.oneCell' = true
  | [] => by simp [flat]
  | x :: r => by
    intro u hu
    simp only [flat, List.mem_cons] at hu
    rcases hu with rfl | rfl | hu
    · rfl
    · rfl
    · exact flat_one r u hu

theorem flat_set2 : ∀ (l : List (Nat × Nat)) (i t u v : Nat), l[i]? = some (t, u) → (flat l).set (i * 2 + 1) (.int .u16 (v : Int)) = flat (l.set i (t, v))
  | [], i, t, u, v, h => by simp at h
  | x :: r, 0, t, u, v, h => by
    simp at h
    subst h
    simp [flat]
  | x :: r, i + 1, t, u, v, h => by
    have := flat_set2 r i t u v (by simpa using h)
    rw [show (i + 1) * 2 + 1 = i * 2 + 1 + 2 by omega]
    simpa [flat] using this

theorem ok_set {l : List (Nat × Nat)} (h : OkCells l) (i : Nat) {t v : Nat} (ht : t < 256) (hv : v < 65536) : OkCells (l.set i (t, v)) := by
  intro x hx
  rcases List.mem_or_eq_of_mem_set hx with hx | hx
  · exact h x hx
  · subst hx; exact ⟨ht, hv⟩

theorem grown_any {w w' : World} (h : w.grownBy w' none) (r : Option Nat) : w.grownBy w' r :=
  ⟨h.os, h.tape, h.output, h.size, fun k hk _ => h.block k hk (by simp)⟩

/-- Block B holds two lists of cells. -/
def Pair (W : World) (B : Nat) : Prop :=
  ∃ (a b : Option Addr) (xs ys : List (Nat × Nat)) (ca cb : Nat), W.cell? ⟨B, 0, none⟩ = some (.slice a xs.length ca) ∧ W.cell? ⟨B, 1, none⟩ = some (.slice b ys.length cb) ∧ CellsAt W a xs ∧ CellsAt W b ys ∧ OkCells xs ∧ OkCells ys ∧ xs.length ≤ 100 ∧ ys.length ≤ 100

theorem from_later {B : Nat} {w w' : World} {a : Option Addr} {xs : List (Nat × Nat)} (h : CellsFrom B w a xs) (hb : Below w.heap.size w w') : CellsFrom B w' a xs := by
  rcases h with h | ⟨b, off, ha, hB, h⟩
  · exact .inl h
  · exact .inr ⟨b, off, ha, hB, fun i hi => ⟨cell_later hb (h i hi).1, cell_later hb (h i hi).2⟩⟩

/-- The four pairs, as the law lays them, behind a list that was drawn in between. -/
theorem pairs {w wc w6 : World} {D : Nat} {a b a2 a4 a7 : Option Addr} {xs ys x2 y2 x7 : List (Nat × Nat)} {ca cb c2 c4 c7 : Nat} {T U : TypeId}
    (hD : D < wc.heap.size) (hB : Below D w wc) (hwD : w.heap.size = D) (ha : CellsAt w a xs) (hb : CellsAt w b ys) (h2 : CellsFrom (D + 1) wc a2 x2) (h4 : CellsFrom (D + 1) wc a4 y2)
    (hg : ((wc.alloc (.cells #[.slice a xs.length ca, .slice b ys.length cb] T)).alloc (.cells #[.slice a2 x2.length c2, .slice a4 y2.length c4] T)).grownBy w6 (some D)) (h7 : CellsAt w6 a7 x7)
    (ox : OkCells xs) (oy : OkCells ys) (o2 : OkCells x2) (o4 : OkCells y2) (o7 : OkCells x7) (lx : xs.length ≤ 100) (ly : ys.length ≤ 100) (l2 : x2.length ≤ 9) (l4 : y2.length ≤ 9) (l7 : x7.length ≤ 9) (W9 : World)
    (e9 : W9 = (((w6.alloc (.cells #[.slice a2 x2.length c2, .slice a7 x7.length c7] T)).alloc (.cells #[.slice a xs.length ca, .slice a xs.length ca] T)).alloc
      (.cells #[.slice (some ⟨wc.heap.size, 0, none⟩) 2 2, .slice (some ⟨wc.heap.size + 1, 0, none⟩) 2 2, .slice (some ⟨w6.heap.size, 0, none⟩) 2 2, .slice (some ⟨w6.heap.size + 1, 0, none⟩) 2 2] U))) :
    Below D w W9 ∧ ∀ k : Nat, k < 4 → ∃ B, W9.cell? ⟨w6.heap.size + 2, k, none⟩ = some (.slice (some ⟨B, 0, none⟩) 2 2) ∧ Pair W9 B := by
  have hs : wc.heap.size + 2 ≤ w6.heap.size := by have := hg.size; simp at this; omega
  have b69 : Below w6.heap.size w6 W9 := by
    subst e9
    exact (((Below.refl _ _).alloc (Nat.le_refl _) _).alloc (by simp) _).alloc (by simp; omega) _
  have bc5 : Below wc.heap.size wc ((wc.alloc (.cells #[.slice a xs.length ca, .slice b ys.length cb] T)).alloc (.cells #[.slice a2 x2.length c2, .slice a4 y2.length c4] T)) := ((Below.refl _ _).alloc (Nat.le_refl _) _).alloc (by simp) _
  have bw6 : Below D w w6 := (hB.trans (bc5.mono (by omega))).grown hg (by simp; omega) (fun k hk => by cases hk; exact Nat.le_refl _)
  have bw9 : Below D w W9 := bw6.trans (b69.mono (by omega))
  have A9 : CellsAt W9 a xs := ha.later (hwD ▸ bw9)
  have B9 : CellsAt W9 b ys := hb.later (hwD ▸ bw9)
  have X9 : CellsAt W9 a2 x2 := (from_later ((from_later h2 bc5).kept hg (by omega)) b69).at
  have Y9 : CellsAt W9 a4 y2 := (from_later ((from_later h4 bc5).kept hg (by omega)) b69).at
  have Z9 : CellsAt W9 a7 x7 := h7.later b69
  have p1 : Pair W9 wc.heap.size := by
    refine ⟨a, b, xs, ys, ca, cb, ?_, ?_, A9, B9, ox, oy, lx, ly⟩
    · refine cell_later b69 (hg.cell ?_ (by simp; omega))
      rw [World.cell?_alloc_past _ _ _ (by simp), World.cell?_alloc_at _ _ _ _ rfl]; rfl
    · refine cell_later b69 (hg.cell ?_ (by simp; omega))
      rw [World.cell?_alloc_past _ _ _ (by simp), World.cell?_alloc_at _ _ _ _ rfl]; rfl
  have p2 : Pair W9 (wc.heap.size + 1) := by
    refine ⟨a2, a4, x2, y2, c2, c4, ?_, ?_, X9, Y9, o2, o4, by omega, by omega⟩
    · refine cell_later b69 (hg.cell ?_ (by simp; omega))
      rw [World.cell?_alloc_at _ _ _ _ (by simp)]; rfl
    · refine cell_later b69 (hg.cell ?_ (by simp; omega))
      rw [World.cell?_alloc_at _ _ _ _ (by simp)]; rfl
  have p3 : Pair W9 w6.heap.size := by
    refine ⟨a2, a7, x2, x7, c2, c7, ?_, ?_, X9, Z9, o2, o7, by omega, by omega⟩
    · subst e9; rw [World.cell?_alloc_past _ _ _ (by simp; omega), World.cell?_alloc_past _ _ _ (by simp), World.cell?_alloc_at _ _ _ _ rfl]; rfl
    · subst e9; rw [World.cell?_alloc_past _ _ _ (by simp; omega), World.cell?_alloc_past _ _ _ (by simp), World.cell?_alloc_at _ _ _ _ rfl]; rfl
  have p4 : Pair W9 (w6.heap.size + 1) := by
    refine ⟨a, a, xs, xs, ca, ca, ?_, ?_, A9, A9, ox, ox, lx, lx⟩
    · subst e9; rw [World.cell?_alloc_past _ _ _ (by simp), World.cell?_alloc_at _ _ _ _ (by simp)]; rfl
    · subst e9; rw [World.cell?_alloc_past _ _ _ (by simp), World.cell?_alloc_at _ _ _ _ (by simp)]; rfl
  refine ⟨bw9, fun k hk => ?_⟩
  have hk4 : k = 0 ∨ k = 1 ∨ k = 2 ∨ k = 3 := by omega
  rcases hk4 with rfl | rfl | rfl | rfl
  · exact ⟨_, by subst e9; rw [World.cell?_alloc_at _ _ _ _ (by simp)]; rfl, p1⟩
  · exact ⟨_, by subst e9; rw [World.cell?_alloc_at _ _ _ _ (by simp)]; rfl, p2⟩
  · exact ⟨_, by subst e9; rw [World.cell?_alloc_at _ _ _ _ (by simp)]; rfl, p3⟩
  · exact ⟨_, by subst e9; rw [World.cell?_alloc_at _ _ _ _ (by simp)]; rfl, p4⟩

set_option maxHeartbeats 2000000 in
set_option maxRecDepth 100000 in
theorem core (a b c : Option Addr) (xs ys : List (Nat × Nat)) (zs : List Int) (ca cb cc : Nat) (w : World) (lx : xs.length ≤ 100) (ly : ys.length ≤ 100) (ha : CellsAt w a xs) (hb : CellsAt w b ys) (ox : OkCells xs) (oy : OkCells ys)
    (hc : IntsAt .i64 w c zs) (hx : ∀ x ∈ zs, -9223372036854775808 ≤ x ∧ x ≤ 9223372036854775807) (hl : zs.length ≤ 9223372036854775807) :
    Calls Try.prog 4 #[.slice a xs.length ca, .slice b ys.length cb, .slice c zs.length cc] w fun e w' => e = .returned (.bool true) ∧ Below w.heap.size w w' := by
  obtain ⟨i0, hi, hz0, hz1, hz2⟩ := info_parts info_cell
  have hNew := Lib.hid (new_any c zs cc w hc hx hl)
  have hC : Hid (∀ W, Deck W w.heap.size → Calls Try.prog 18 #[.pointer (some ⟨w.heap.size, 0, none⟩), .int .i64 9] W (GivesList 9 w.heap.size W)) :=
    Lib.hid fun W h => cells_any w.heap.size 9 W h (by omega)
  have hN := Lib.hid (fun m W (h : Deck W w.heap.size) (h1 : 1 ≤ m) (h2 : m ≤ 1000000) => next_any w.heap.size m W h h1 h2)
  clear hc hx hl
  go_enter Try.func4, Try.ntmps4
  go_wp2_with fail
  refine hNew.out.mono ?_
  rintro e w1 ⟨rfl, hd1, hb1⟩
  go_wp2_with fail
  refine (hC.out _ hd1).mono ?_
  rintro e w2 ⟨a2, c2, x2, rfl, hx2, ho2, hl2, hd2, hg2, hn2⟩
  have s1 := hd1.lt
  have s2 := hg2.size
  have B2 : Below w.heap.size w w2 := hb1.grown hg2 hb1.size (fun k hk => by cases hk; exact Nat.le_refl _)
  have X2 := hx2.mono (B' := w.heap.size + 1) (by omega)
  clear hx2 hd1 hb1 hg2 hNew
  go_upto_region 5 with fail
  go_cut [9] (fun v wx => ∃ a3 c3, v = .slice a3 x2.length c3 ∧ wx.ownsRow w2.heap.size 24 2 (.slice a3 x2.length c3) x2.length (flat x2) ∧ w2.grownBy wx none)
  case first =>
    cases a2 with
    | none =>
      obtain rfl := hn2 rfl
      have hx0 : x2 = [] := by
        rcases X2 with h | ⟨b', off', e', _⟩
        · exact h
        · cases e'
      subst hx0
      go_wp2_with fail
      go_meet
      exact ⟨none, 0, rfl, World.ownsRow_nil _ _ _ _, World.grownBy.refl _ _⟩
    | some ad =>
      go_wp2_with (first
        | (at_builtin; refine wpList_append_own _ rfl _ (.tmp 25) 32 rfl w2.heap.size 24 i0 (.agg #[.int .u8 0, .int .u16 0]) 2 4 Try.underlying32 hi hz0 hz1 hz2 rfl (by decide) (.slice none 0 0) 0 [] rfl (World.ownsRow_nil _ _ _ _) ad x2.length c2 (flat x2) rfl (length_flat x2) ?c1 ?c2 ?c3 ?c4 ?c5 ?_))
      case c1 =>
        intro j u hj
        have hj2 : j < x2.length * 2 := by rw [← length_flat]; exact (List.getElem?_eq_some_iff.1 hj).1
        obtain ⟨b', off', he, hc'⟩ := X2.at.some (k := 0) (by omega)
        cases he
        have hi2 : j / 2 < x2.length := by omega
        have hf := flat_at x2 (j / 2) hi2
        rw [add_plain]
        rcases Nat.mod_two_eq_zero_or_one j with hm | hm
        · have e : j / 2 * 2 = j := by omega
          rw [e] at hf
          rw [hf.1] at hj
          have := (hc' (j / 2) hi2).1
          rw [e] at this
          rw [this, ← hj]
        · have e : j / 2 * 2 + 1 = j := by omega
          rw [e] at hf
          rw [hf.2] at hj
          have := (hc' (j / 2) hi2).2
          rw [Nat.add_assoc, e] at this
          rw [this, ← hj]
      case c2 => exact flat_one x2
      case c3 => unfold maxLen; omega
      case c4 => omega
      case c5 => omega
      intro v' w3 hown3 hgrow _h3
      obtain ⟨a3, c3, rfl, _, _⟩ := CellsFrom.of_row hown3
      clear _h3
      go_wp2_with fail
      go_meet
      exact ⟨a3, c3, rfl, hown3, hgrow⟩
  case rest =>
    obtain ⟨a3, c3, rfl, hown3, hg3⟩ := hcut
    have hd3 := hd2.kept hg3 (fun k hk => by cases hk)
    go_upto_if 29 with fail
    go_cut [9] (fun v wx => ∃ a4 c4 y2, v = .slice a4 y2.length c4 ∧ CellsFrom w2.heap.size wx a4 y2 ∧ OkCells y2 ∧ y2.length ≤ 9 ∧ Deck wx w.heap.size ∧ w2.grownBy wx (some w.heap.size))
    case first =>
      by_cases hpos : 0 < x2.length
      · obtain ⟨g, rfl, hgB⟩ : ∃ g, a3 = some ⟨g, 0, none⟩ ∧ w2.heap.size ≤ g := by
          rcases hown3.2 with ⟨hv, h0⟩ | ⟨g, cap, cur, hv, hb5, _⟩
          · omega
          · simp only [Value.slice.injEq] at hv
            exact ⟨g, hv.1, hb5⟩
        have hS9 : Hid (∀ r : Nat, r < x2.length → ∃ t u : Nat, x2[r]? = some (t, u) ∧ t < 256 ∧ u < 65536 ∧ wc.cell? ⟨g, r * 2 + 1, none⟩ = some (.int .u16 (u : Int)) ∧ wc.frozen? ⟨g, r * 2 + 1, none⟩ = false) := Lib.hid fun r hr => by
          refine ⟨x2[r].1, x2[r].2, List.getElem?_eq_getElem hr, (ho2 _ (List.getElem_mem hr)).1, (ho2 _ (List.getElem_mem hr)).2, ?_, hown3.frozenAt _⟩
          rw [hown3.cellAt _ (by omega), (flat_at x2 r hr).2]
        have hpi : (0 : Int) < (x2.length : Int) := by omega
        have hd3d : Deck wc.drew w.heap.size := hd3.kept (grownBy_drewN _ none 1) (fun k hk => by cases hk)
        have hO := Lib.hid hown3
        have hG := Lib.hid hg3
        clear hown3 hg3 hd3
        go_wp2_with fail
        go_region_with (first
          | (go_at_call 19; (with_reducible refine (hN.out (x2.length : Int) _ hd3d (by omega) (by omega)).mono ?_); rintro e w4 ⟨r, hr, rfl, hd4, hg4⟩; have hr0 : 0 ≤ (r : Int) := (by omega); have hrn : r < x2.length := (by omega)
             obtain ⟨t, u, hxr, ht, hu, k3, f3⟩ := hS9.out r hrn
             have HX := Lib.hid hxr
             clear hxr
             have k4 := hg4.cell (show wc.drew.cell? ⟨g, r * 2 + 1, none⟩ = _ from k3) (by simp; omega)
             have hlt4 := World.block_lt_of_cell? _ _ k3
             have f4 : w4.frozen? ⟨g, r * 2 + 1, none⟩ = false := (World.frozen?_of_block (w := wc.drew) (hg4.block g hlt4 (by simp; omega))).trans f3
             clear k3 f3)
          | (go_at_call 19; (with_reducible refine (hN.out 65536 _ hd4 (by omega) (by omega)).mono ?_); rintro e w5 ⟨s, hs, rfl, hd5, hg5⟩; have hws := wrap_word s (by omega); have hxo := xor_words u s hu (by omega)
             have k5 := hg5.cell k4 (by simp; omega)
             have f5 : w5.frozen? ⟨g, r * 2 + 1, none⟩ = false := (World.frozen?_of_block (w := w4) (hg5.block g (World.block_lt_of_cell? _ _ k4) (by simp; omega))).trans f4))
        all_goals
          have hne : ∀ D, D = w.heap.size → (Value.slice (some (⟨g, 0, none⟩ : Addr)) x2.length c3).ownBlock ≠ some D := fun D hD e => by simp [Value.ownBlock] at e; omega
          have own5 := ((hO.out.drew).kept hg4 (Or.inr (hne _ rfl))).kept hg5 (Or.inr (hne _ rfl))
          have st := (own5.stored (r * 2 + 1) (.int .u16 ((u ^^^ s : Nat) : Int))).1
          rw [flat_set2 x2 r t u (u ^^^ s) HX.out] at st
          obtain ⟨a6, c6, hv6, hc6, _⟩ := CellsFrom.of_row st
          have G6 := grownBy_new (grownBy_trans (grownBy_trans (grownBy_trans (grown_any hG.out (some w.heap.size)) (grownBy_drewN _ _ 1)) hg4) hg5) hgB (r * 2 + 1) (.int .u16 ((u ^^^ s : Nat) : Int))
          have D6 := hd5.kept (grownBy_cell w5 g (r * 2 + 1) (.int .u16 ((u ^^^ s : Nat) : Int))) (fun k hk => by cases hk; omega)
          have O6 : OkCells (x2.set r (t, u ^^^ s)) := ok_set ho2 r ht (xor_lt u s hu (by omega))
          have L6 : (x2.set r (t, u ^^^ s)).length ≤ 9 := by simpa using hl2
          go_wp2_with fail
          go_meet
          exact ⟨a6, c6, _, hv6, hc6, O6, L6, D6, G6⟩
      · have hR := Lib.hid (CellsFrom.of_row hown3)
        have hpi : ¬ (0 : Int) < (x2.length : Int) := by omega
        have G6 := grown_any hg3 (some w.heap.size)
        go_wp2_with fail
        go_meet
        obtain ⟨a6, c6, hv6, hc6, _⟩ := hR.out
        exact ⟨a6, c6, x2, hv6, hc6, ho2, hl2, hd3, G6⟩
    case rest =>
      obtain ⟨a4, c4, y2, rfl, hy2, hoy2, hly2, hd4, hg4⟩ := hcut
      have hD : w.heap.size < w2.heap.size := by omega
      have hs4 := hg4.size
      have Y4 := hy2
      have X4 := X2.kept hg4 (by omega)
      have B4 : Below w.heap.size w wc := B2.grown hg4 (by omega) (fun k hk => by cases hk; exact Nat.le_refl _)
      clear hy2 X2 B2 hg4 hd2 hown3 hg3 hd3
      have hd5 : Deck ((wc.alloc (.cells #[.slice a xs.length ca, .slice b ys.length cb] 32)).alloc (.cells #[.slice a2 x2.length c2, .slice a4 y2.length c4] 32)) w.heap.size :=
        (hd4.kept (World.grownBy_alloc _ _ none) (fun k hk => by cases hk)).kept (World.grownBy_alloc _ _ none) (fun k hk => by cases hk)
      go_wp2_with fail
      refine (hC.out _ hd5).mono ?_
      rintro e w6 ⟨a7, c7, x7, rfl, hx7, ho7, hl7, hd7, hg7, _⟩
      have hP := pairs (U := 37) (c7 := c7) hd4.lt B4 rfl ha hb X4 (Y4.mono (by omega)) hg7 hx7.at ox oy ho2 hoy2 ho7 lx ly hl2 hly2 hl7 _ rfl
      clear hd5 hd4 hd7 hg7 hx7 X4 Y4 ha hb ox oy ho2 hoy2 ho7 B4
      obtain ⟨B9, hP9⟩ := hP
      have HP := Lib.hid hP9
      have HB := Lib.hid B9
      clear hP9 B9
      go_wp2_with fail
      generalize (((w6.alloc (.cells #[.slice a2 x2.length c2, .slice a7 x7.length c7] 32)).alloc (.cells #[.slice a xs.length ca, .slice a xs.length ca] 32)).alloc
        (.cells #[.slice (some ⟨wc.heap.size, 0, none⟩) 2 2, .slice (some ⟨wc.heap.size + 1, 0, none⟩) 2 2, .slice (some ⟨w6.heap.size, 0, none⟩) 2 2, .slice (some ⟨w6.heap.size + 1, 0, none⟩) 2 2] 37)) = W9 at *
      go_loopw [11, 59] (fun _ c wr => ∃ k : Nat, k ≤ 4 ∧ c = .int .i64 k ∧ Below W9.heap.size W9 wr) (fun _ c _ => 4 - (intOf c).toNat)
      case atStart => exact ⟨0, by omega, rfl, Below.refl _ _⟩
      case round =>
        obtain ⟨k, hk, rfl, hw9⟩ := hrel
        by_cases hlt : k < 4
        · obtain ⟨B, hcB, p1, p2, us, vs, e1, e2, q1, q2, hu, hv, ou, ov, lu, lv⟩ := HP.out k hlt
          have m0 := cell_later hw9 hcB
          have m1 := cell_later hw9 q1
          have m2 := cell_later hw9 q2
          have i1 : (k : Int) < 4 := by omega
          have d1 := Lib.hid (fun W (h : Below W9.heap.size W9 W) => dist_any p1 p2 us vs e1 e2 W (hu.later h) (hv.later h) ou ov (by omega) (by omega))
          have d2 := Lib.hid (fun W (h : Below W9.heap.size W9 W) => rdist_any p1 p2 us vs e1 e2 W (hu.later h) (hv.later h) ou ov (by omega) (by omega))
          have d3 := Lib.hid (fun W (h : Below W9.heap.size W9 W) => same_any p1 p2 us vs e1 e2 W (hu.later h) (hv.later h) (by omega) (by omega))
          have d4 := Lib.hid (fun W (h : Below W9.heap.size W9 W) => rsame_any p1 p2 us vs e1 e2 W (hu.later h) (hv.later h) (by omega) (by omega))
          have n1 := cell_later (w := W9) (Below.refl _ _) q1
          have n2 := cell_later (w := W9) (Below.refl _ _) q2
          have bB := World.block_lt_of_cell? _ _ q1
          clear hu hv ou ov hcB q1 q2
          generalize dist us vs = x at *
          generalize decide (us = vs) = y at *
          have N1 := Lib.hid n1
          have N2 := Lib.hid n2
          clear n1 n2
          go_wp2_with fail
          go_region_held3 (fun w' => w'.cell? ⟨B, 0, none⟩ = some (.slice p1 us.length e1) ∧ w'.cell? ⟨B, 1, none⟩ = some (.slice p2 vs.length e2) ∧ Below W9.heap.size W9 w')
            (first
              | exact ⟨m1, m2, hw9.drew⟩
              | assumption
              | exact ⟨cell_later (Below.trans (by go_split_ands; assumption) (hb5.mono (Below.size (by go_split_ands; assumption)))) N1.out, cell_later (Below.trans (by go_split_ands; assumption) (hb5.mono (Below.size (by go_split_ands; assumption)))) N2.out, Below.trans (by go_split_ands; assumption) (hb5.mono (Below.size (by go_split_ands; assumption)))⟩)
            (first
              | (go_at_call 20; refine (d1.out _ (by go_split_ands; assumption)).mono ?_; rintro e w' ⟨rfl, hb5⟩)
              | (go_at_call 21; refine (d2.out _ (by go_split_ands; assumption)).mono ?_; rintro e w' ⟨rfl, hb5⟩)
              | (go_at_call 22; refine (d3.out _ (by go_split_ands; assumption)).mono ?_; rintro e w' ⟨rfl, hb5⟩)
              | (go_at_call 23; refine (d4.out _ (by go_split_ands; assumption)).mono ?_; rintro e w' ⟨rfl, hb5⟩))
          go_split_ands
          have HE : Hid (Below W9.heap.size W9 w') := Lib.hid (by assumption)
          go_wp2
          go_roundw
          case rel => exact ⟨k + 1, by omega, by go_num, HE.out⟩
          case measure => simp [intOf]; omega
        · obtain rfl : k = 4 := by omega
          go_wp2_with (go_at_call 16; (with_reducible refine (awake_any _).mono ?_); rintro e w' ⟨rfl, hb5⟩)
          go_ret
          exact ⟨rfl, HB.out.trans ((hw9.trans (hb5.mono hw9.size)).mono HB.out.size)⟩

theorem walk {H : Type} (enc : TypeId × Value → H) (W : World) (base : Nat) (v0 : Value) (d0 : DataW H) (p0 : List MemPlace) (o0 : Value.okWide Try.prog W .any base 32 v0) (h0 : DataW.Trod enc Try.prog W 0 (fun _ => true) true 32 v0 d0 p0)
    (v1 : Value) (d1 : DataW H) (p1 : List MemPlace) (o1 : Value.okWide Try.prog W .any base 32 v1) (h1 : DataW.Trod enc Try.prog W 0 (fun _ => true) true 32 v1 d1 p1)
    (v2 : Value) (d2 : DataW H) (p2 : List MemPlace) (o2 : Value.okWide Try.prog W .any base 26 v2) (h2 : DataW.Trod enc Try.prog W 0 (fun _ => true) true 26 v2 d2 p2) :
    Calls Try.prog 4 #[v0, v1, v2] W fun e w' => e = .returned (.bool true) ∧ Below W.heap.size W w' := by
  obtain ⟨a, xs, ca, rfl, ha, ox, _⟩ := open_cells o0 h0
  obtain ⟨b, ys, cb, rfl, hb, oy, _⟩ := open_cells o1 h1
  obtain ⟨c, zs, cc, rfl, hc, hx, hl⟩ := open_nums Try.underlying26 Try.underlying3 (by kernel_rfl) o2 h2
  by_cases hlong : 100 < xs.length ∨ 100 < ys.length
  · exact long a b c xs ys zs ca cb cc W hlong
  · exact core a b c xs ys zs ca cb cc W (by omega) (by omega) ha hb ox oy hc (fun x hx2 => int_of (hx x hx2)) (by unfold maxLen at hl; exact hl)
end Go.Proofs.Ytbeielaapnncgaa.wordDistancesLaw
