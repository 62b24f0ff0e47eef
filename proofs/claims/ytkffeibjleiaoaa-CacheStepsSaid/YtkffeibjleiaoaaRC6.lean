/-
  Contracts of the document's own cache: Drop, Flush; of its own memory: Same.
-/
import Derived.Test.YtkffeibjleiaoaaRC5
import Derived.Test.YtkffeibjleiaoaaCells3
namespace Go.Proofs.Ytkffeibjleiaoaa
open Go.RowKit

/-- The call gives these words and lines in new memory. -/
def GivesMA (m : Mem) (w : World) (e : Ending) (w' : World) : Prop :=
  ∃ a ca al cl, e = .returned (.agg #[.slice a 512 ca, .slice al 4 cl]) ∧ MemAt w' a al m ∧ Below w.heap.size w w'

theorem mem_of {w : World} {B B' g cg g7 cl7 : Nat} {cs : List (Nat × Nat)} (hc : w.ownsRow B 25 2 (.slice (some ⟨g, 0, none⟩) 512 cg) 512 (cellRows cs).flatten)
    (hl : w.ownsRow B' 53 3 (.slice (some ⟨g7, 0, none⟩) 4 cl7) 4 (emptyRows 4).flatten) : MemAt w (some ⟨g, 0, none⟩) (some ⟨g7, 0, none⟩) ⟨cs, emptyM⟩ := by
  obtain ⟨hn, a, cap, hv, hC, _⟩ := CellsAt.of_own hc
  rw [← hn] at hv
  simp only [Value.slice.injEq, true_and] at hv
  obtain ⟨rfl, _⟩ := hv
  obtain ⟨_, al, cl2, hv2, hR, _⟩ := RowsAt.of_row (by omega) wide_empty hl
  simp only [Value.slice.injEq] at hv2
  obtain ⟨rfl, _, _⟩ := hv2
  exact ⟨hC, .of_empty hR⟩

set_option maxHeartbeats 2000000 in
set_option maxRecDepth 20000 in
theorem ref05_Drop (a al : Option Addr) (ca cl : Nat) (m : Mem) (w : World) (hM : MemAt w a al m) (hV : MV m) : Calls Try.prog 23 #[.agg #[.slice a 512 ca, .slice al 4 cl]] w (GivesMA (dropM m) w) := by
  have g1 := World.grownBy_alloc (w.alloc (.cells #[.slice a 512 ca, .slice al 4 cl] 31)) (.cells #[.slice none 0 0, .slice none 0 0] 31) none
  have hs1 : (w.alloc (.cells #[.slice a 512 ca, .slice al 4 cl] 31)).heap.size = w.heap.size + 1 := by simp
  have hs2 : ((w.alloc (.cells #[.slice a 512 ca, .slice al 4 cl] 31)).alloc (.cells #[.slice none 0 0, .slice none 0 0] 31)).heap.size = w.heap.size + 2 := by simp
  have bm := (Blk.new (W := w) #[.slice a 512 ca, .slice al 4 cl] 31).kept g1 (by simp)
  have br := Blk.new (W := (w.alloc (.cells #[.slice a 512 ca, .slice al 4 cl] 31))) #[.slice none 0 0, .slice none 0 0] 31
  rw [hs1] at br
  have hB := Below.alloc (Below.alloc (Below.refl w.heap.size w) (Nat.le_refl _) (.cells #[.slice a 512 ca, .slice al 4 cl] 31)) (by rw [hs1]; omega) (.cells #[.slice none 0 0, .slice none 0 0] 31)
  have hM0 := hM.later hB
  have HS2 := Lib.hid hs2
  clear g1 hs1 hs2 hM
  go_enter Try.func23, Try.ntmps23
  go_upto_region 1 with fail
  generalize ((w.alloc (.cells #[.slice a 512 ca, .slice al 4 cl] 31)).alloc (.cells #[.slice none 0 0, .slice none 0 0] 31)) = W0 at *
  have HC := Lib.hid (ref04_Copy a al ca cl m W0 hM0 hV)
  have m0 := (bm 0 (by simp)).1
  have m1 := (bm 1 (by simp)).1
  clear hM0
  go_wp2_with fail
  refine HC.out.mono ?_
  rintro e W1 ⟨g, cg, h, ch, vs, rfl, hown, hb1⟩
  have hA := Below.alloc (Below.refl W1.heap.size W1) (Nat.le_refl _) (.cells #[.slice (some ⟨g, 0, none⟩) 512 cg, .slice (some ⟨h, 0, none⟩) 4 ch] 31)
  have bF := Blk.new (W := W1) #[.slice (some ⟨g, 0, none⟩) 512 cg, .slice (some ⟨h, 0, none⟩) 4 ch] 31
  have hb2 := hb1.trans (hA.mono hb1.size)
  have H2 := hown.later hA
  have hbo := hown.bounds
  have hsz1 : W0.heap.size ≤ W1.heap.size := hb1.size
  go_upto_region 2 with fail
  generalize W1.alloc (.cells #[.slice (some ⟨g, 0, none⟩) 512 cg, .slice (some ⟨h, 0, none⟩) 4 ch] 31) = W2 at *
  generalize W1.heap.size = F at *
  clear HC m0 m1 hown hA hb1 bm
  have hHx := H2
  have bFx := bF
  have hbx := hb2
  have hFx : F < W2.heap.size := World.block_lt_of_cell? _ _ (bF 0 (by simp)).1
  clear bF H2 hb2
  have HE := Lib.hid (ref04_Empty W2)
  go_wp2_with (go_at_call 44; (with_reducible refine HE.out.mono ?_); rintro e W7 ⟨g7, cl7, rfl, hown7, hb7⟩; have b7 := bFx.later hb7; have x0 := (b7 0 (by simp)).1; have x1 := (b7 1 (by simp)).1; have x2 := (b7 1 (by simp)).2; have r7 := (br.later hbx).later hb7; have y0 := (r7 0 (by simp)).1; have y1 := (r7 1 (by simp)).1; have y2 := (r7 0 (by simp)).2; have y3 := (r7 1 (by simp)).2; have hFr : ¬ F = w.heap.size + 1 := (by have := HS2.out; omega); clear bFx b7 r7)
  have hc7 := hHx.cells.late hb7
  have q1 := grownBy_cell W7 F 1 (.slice (some ⟨g7, 0, none⟩) 4 cl7)
  have q2 := grownBy_cell (W7.setCell ⟨F, 1, none⟩ (.slice (some ⟨g7, 0, none⟩) 4 cl7)) (w.heap.size + 1) 0 (.slice (some ⟨g, 0, none⟩) 512 cg)
  have q3 := grownBy_cell ((W7.setCell ⟨F, 1, none⟩ (.slice (some ⟨g7, 0, none⟩) 4 cl7)).setCell ⟨w.heap.size + 1, 0, none⟩ (.slice (some ⟨g, 0, none⟩) 512 cg)) (w.heap.size + 1) 1 (.slice (some ⟨g7, 0, none⟩) 4 cl7)
  have hHS := HS2.out
  have hg7 := (hown7.lt g7 rfl).1
  have hWF := hFx
  have c9 := ((hc7.kept q1 (.inr (by simp [Value.ownBlock]; omega))).kept q2 (.inr (by simp [Value.ownBlock]; omega))).kept q3 (.inr (by simp [Value.ownBlock]; omega))
  have l9 := ((hown7.kept q1 (.inr (by simp [Value.ownBlock]; omega))).kept q2 (.inr (by simp [Value.ownBlock]; omega))).kept q3 (.inr (by simp [Value.ownBlock]; omega))
  have hB9 := ((((hB.trans (hbx.mono (by omega))).trans (hb7.mono (by have := hbx.size; omega))).setCell (p := ⟨F, 1, none⟩) (by simp; omega) (.slice (some ⟨g7, 0, none⟩) 4 cl7)).setCell (p := ⟨w.heap.size + 1, 0, none⟩) (by simp) (.slice (some ⟨g, 0, none⟩) 512 cg)).setCell (p := ⟨w.heap.size + 1, 1, none⟩) (by simp) (.slice (some ⟨g7, 0, none⟩) 4 cl7)
  refine bodyPost_ret (v := .agg #[.slice (some ⟨g, 0, none⟩) 512 cg, .slice (some ⟨g7, 0, none⟩) 4 cl7]) (by simp [results, Try.results23, go_sem, y0, y1]) rfl ⟨_, _, _, _, rfl, mem_of c9 l9, hB9⟩

set_option maxHeartbeats 4000000 in
set_option maxRecDepth 20000 in
theorem ref05_Flush (a al : Option Addr) (ca cl : Nat) (m : Mem) (w : World) (hM : MemAt w a al m) (hV : MV m) : Calls Try.prog 21 #[.agg #[.slice a 512 ca, .slice al 4 cl]] w (GivesMA (flushM m) w) := by
  have g1 := World.grownBy_alloc (w.alloc (.cells #[.slice a 512 ca, .slice al 4 cl] 31)) (.cells #[.slice none 0 0, .slice none 0 0] 31) none
  have hs1 : (w.alloc (.cells #[.slice a 512 ca, .slice al 4 cl] 31)).heap.size = w.heap.size + 1 := by simp
  have hs2 : ((w.alloc (.cells #[.slice a 512 ca, .slice al 4 cl] 31)).alloc (.cells #[.slice none 0 0, .slice none 0 0] 31)).heap.size = w.heap.size + 2 := by simp
  have bm := (Blk.new (W := w) #[.slice a 512 ca, .slice al 4 cl] 31).kept g1 (by simp)
  have br := Blk.new (W := (w.alloc (.cells #[.slice a 512 ca, .slice al 4 cl] 31))) #[.slice none 0 0, .slice none 0 0] 31
  rw [hs1] at br
  have hB := Below.alloc (Below.alloc (Below.refl w.heap.size w) (Nat.le_refl _) (.cells #[.slice a 512 ca, .slice al 4 cl] 31)) (by rw [hs1]; omega) (.cells #[.slice none 0 0, .slice none 0 0] 31)
  have hM0 := hM.later hB
  have HS2 := Lib.hid hs2
  clear g1 hs1 hs2 hM
  go_enter Try.func21, Try.ntmps21
  go_upto_region 1 with fail
  generalize ((w.alloc (.cells #[.slice a 512 ca, .slice al 4 cl] 31)).alloc (.cells #[.slice none 0 0, .slice none 0 0] 31)) = W0 at *
  have HC := Lib.hid (ref04_Copy a al ca cl m W0 hM0 hV)
  have m0 := (bm 0 (by simp)).1
  have m1 := (bm 1 (by simp)).1
  clear hM0
  go_wp2_with fail
  refine HC.out.mono ?_
  rintro e W1 ⟨g, cg, h, ch, vs, rfl, hown, hb1⟩
  have hA := Below.alloc (Below.refl W1.heap.size W1) (Nat.le_refl _) (.cells #[.slice (some ⟨g, 0, none⟩) 512 cg, .slice (some ⟨h, 0, none⟩) 4 ch] 31)
  have bF := Blk.new (W := W1) #[.slice (some ⟨g, 0, none⟩) 512 cg, .slice (some ⟨h, 0, none⟩) 4 ch] 31
  have hb2 := hb1.trans (hA.mono hb1.size)
  have H2 := hown.later hA
  have hbo := hown.bounds
  have hsz1 : W0.heap.size ≤ W1.heap.size := hb1.size
  go_upto_region 2 with fail
  generalize W1.alloc (.cells #[.slice (some ⟨g, 0, none⟩) 512 cg, .slice (some ⟨h, 0, none⟩) 4 ch] 31) = W2 at *
  generalize W1.heap.size = F at *
  clear HC m0 m1 hown hA hb1 bm
  have hF1 := (bF 1 (by simp)).1
  have H4 := Lib.hid hV.lines
  go_wp2_with fail
  go_loopw [11] (fun c wr => ∃ (k : Nat), k ≤ 4 ∧ c = .int .i64 k ∧ OwnM W0.heap.size wr g cg h ch vs ⟨(m.lines.take k).foldl backL m.cells, m.lines⟩ ∧ Blk wr F [.slice (some ⟨g, 0, none⟩) 512 cg, .slice (some ⟨h, 0, none⟩) 4 ch] ∧ Below W0.heap.size W0 wr) (fun c _ => 4 - (intOf c).toNat)
  case atStart => exact ⟨0, by omega, rfl, H2, bF, hb2⟩
  case round =>
    clear H2 bF hb2 hF1
    obtain ⟨k, hk, rfl, H, bF, hb⟩ := hrel
    by_cases hlt : k < 4
    · have i1 : (k : Int) < 4 := by omega
      have i2 : 0 ≤ (k : Int) := by omega
      have hkl : k < m.lines.length := by have := H4.out; omega
      have hkv : k < vs.length := by have := H.four; omega
      obtain ⟨t0, t1, t2, _⟩ := H.head k hkl hkv
      obtain ⟨va, vc, hve, hvc⟩ := H.val k hkl hkv
      have hVL := hV.each k hkl
      have hfo : (m.lines.take (k + 1)).foldl backL m.cells = backL ((m.lines.take k).foldl backL m.cells) m.lines[k] := by
        rw [List.take_succ_eq_append_getElem hkl, List.foldl_append]; rfl
      simp only at t0 t1 t2 hve hvc
      rw [hve] at t2
      obtain ⟨x, hx⟩ : ∃ x, m.lines[k] = x := ⟨_, rfl⟩
      rw [hx] at t0 t1 t2 hvc hVL hfo
      generalize hcs : (m.lines.take k).foldl backL m.cells = cs at *
      have HFo := Lib.hid hfo
      have hA := Below.alloc (Below.refl wr.heap.size wr) (Nat.le_refl _) (.cells #[.int .i64 x.tag, .bool x.dirty, .slice va x.cells.length vc] 53)
      have bx := Blk.new (W := wr) #[.int .i64 x.tag, .bool x.dirty, .slice va x.cells.length vc] 53
      have hH := Lib.hid (H.later hA)
      have bF4 := bF.later hA
      have hb4 := hb.trans (hA.mono hb.size)
      have hc0 := hvc.later hA
      have hXg : g < wr.heap.size := H.bounds.2.1
      clear hx hfo hcs hve hvc bF H
      go_upto_region 5 with fail
      clear t0 t1 t2
      generalize wr.alloc (.cells #[.int .i64 x.tag, .bool x.dirty, .slice va x.cells.length vc] 53) = W4 at *
      generalize wr.heap.size = X at *
      have x1 := (bx 1 (by simp)).1
      cases hd : x.dirty with
      | false =>
        rw [hd] at x1
        have hbk : backL cs x = cs := by unfold backL; rw [if_neg (by simp [hd])]
        have R1 : Hid (OwnM W0.heap.size W4 g cg h ch vs ⟨(m.lines.take (k + 1)).foldl backL m.cells, m.lines⟩) := Lib.hid (by rw [HFo.out, hbk]; exact hH.out)
        clear hbk bx hc0
        go_wp2
        go_roundw
        case rel => exact ⟨k + 1, by omega, by go_num, R1.out, bF4, hb4⟩
        case measure => simp [intOf]; omega
      | true =>
        rcases hVL.tag with ⟨_, h2, _⟩ | ⟨n', ht', hn', _, hlen⟩
        · rw [h2] at hd; cases hd
        have hbk : backL cs x = splice cs (n' * 4) x.cells := by unfold backL; rw [if_pos hd, ht', Int.toNat_natCast]
        have HS : Hid (splice (cellRows cs).flatten (n' * 4 * 2) (cellRows x.cells).flatten = (cellRows (splice cs (n' * 4) x.cells)).flatten) := Lib.hid (cellRows_splice cs x.cells (n' * 4))
        have hlr : (cellRows x.cells).flatten.length = 8 := by rw [length_flatten (wide_cells _), length_cellRows, hlen]
        have hone := Lib.hid (cells_one x.cells)
        have hsrc := Lib.hid (cells_src hc0)
        have hown0 := hH.out.cells
        simp only at hown0
        rw [ht', hd, hlen] at bx
        rw [hd] at x1
        obtain ⟨R, hR⟩ : ∃ R, R = (cellRows x.cells).flatten := ⟨_, rfl⟩
        obtain ⟨R1, hR1⟩ : ∃ R1, R1 = (cellRows cs).flatten := ⟨_, rfl⟩
        rw [← hR] at HS hlr hone hsrc
        rw [← hR1] at HS hown0
        have hsz := cell_size2
        obtain ⟨q, hq⟩ : ∃ q, n' * 4 = q := ⟨_, rfl⟩
        rw [hq] at HS hbk
        have HBK := Lib.hid hbk
        have j0 : (n' : Int) * 4 = (q : Int) := by omega
        have j1 : (q : Int) ≤ 512 := by omega
        have j2 : 0 ≤ (q : Int) := by omega
        have j3 : q < 512 := by omega
        have j4 : q + 4 ≤ 512 := by omega
        have j5 := (own_cap hown0)
        have j7 : ¬ cg = q := by omega
        have j6 : IntKind.i64.wrap (q : Int) = (q : Int) := IntWalk.i64_in _ (by omega)
        have F0 := (bF4 0 (by simp)).1
        have x0 := (bx 0 (by simp)).1
        have x2 := (bx 2 (by simp)).1
        clear hq ht' hlen hd hR hR1 hbk hc0
        go_upto_region 6 with fail
        go_region_held_law (fun W => W.cell? ⟨F, 0, none⟩ = some (.slice (some ⟨g, 0, none⟩) 512 cg) ∧ W.cell? ⟨X, 0, none⟩ = some (.int .i64 (n' : Int)) ∧ W.cell? ⟨X, 2, none⟩ = some (.slice va 4 vc))
          (first
            | exact ⟨F0, x0, x2⟩
            | assumption
            | exact ⟨hg6.cell (by go_split_ands; assumption) (fun e => by have e2 : F = g := Option.some.inj e; omega), hg6.cell (by go_split_ands; assumption) (fun e => by have e2 : X = g := Option.some.inj e; omega), hg6.cell (by go_split_ands; assumption) (fun e => by have e2 : X = g := Option.some.inj e; omega)⟩)
          (first
            | (refine step_copy_wide2 (by rfl) (.tmp 22) (.tmp 24) 28 28 (by rfl) 25 2 Try.underlying28 hsz g (q * 2) (512 - q) (cg - q) va 4 vc (by rfl) (by rfl) W0.heap.size 512 cg R1 hown0.drew 4 (by show 4 = min 4 (512 - q); omega) R hlr hsrc.out (by rw [hlr]; omega) hone.out ?_; intro W6 hown6 hg6))
        have own6 := hown6.out
        rw [HS.out, ← HBK.out, ← HFo.out] at own6
        have HD : OwnM W0.heap.size W4.drew g cg h ch vs ⟨cs, m.lines⟩ := hH.out.later (Below.refl _ _).drew
        have R6 := Lib.hid (show OwnM W0.heap.size W6 g cg h ch vs ⟨(m.lines.take (k + 1)).foldl backL m.cells, m.lines⟩ from HD.cells_set hg6 own6)
        have R7 := Lib.hid ((bF4.later (Below.refl _ _).drew).kept hg6 (by simp; omega))
        have R8 := Lib.hid (hb4.drew.grown hg6 hb4.drew.size (fun q hq => by cases hq; exact hbo.1))
        clear hown6 own6 hg6 hown0 HD F0 x0 x2 x1
        go_wp2
        go_roundw
        case rel => exact ⟨k + 1, by omega, by go_num, R6.out, R7.out, R8.out⟩
        case measure => simp [intOf]; omega
    · obtain rfl : k = 4 := by omega
      have e4 : m.lines.take 4 = m.lines := List.take_of_length_le (by have := H4.out; omega)
      rw [e4] at H
      have hHx := H
      have bFx := bF
      have hbx := hb
      have hFx : F < wr.heap.size := World.block_lt_of_cell? _ _ (bF 0 (by simp)).1
      clear bF H hb e4
      have HE := Lib.hid (ref04_Empty wr)
      go_wp2_with (go_at_call 44; (with_reducible refine HE.out.mono ?_); rintro e W7 ⟨g7, cl7, rfl, hown7, hb7⟩; have b7 := bFx.later hb7; have x0 := (b7 0 (by simp)).1; have x1 := (b7 1 (by simp)).1; have x2 := (b7 1 (by simp)).2; have r7 := (br.later hbx).later hb7; have y0 := (r7 0 (by simp)).1; have y1 := (r7 1 (by simp)).1; have y2 := (r7 0 (by simp)).2; have y3 := (r7 1 (by simp)).2; have hFr : ¬ F = w.heap.size + 1 := (by have := HS2.out; omega); clear bFx b7 r7)
      have hc7 := hHx.cells.late hb7
      have q1 := grownBy_cell W7 F 1 (.slice (some ⟨g7, 0, none⟩) 4 cl7)
      have q2 := grownBy_cell (W7.setCell ⟨F, 1, none⟩ (.slice (some ⟨g7, 0, none⟩) 4 cl7)) (w.heap.size + 1) 0 (.slice (some ⟨g, 0, none⟩) 512 cg)
      have q3 := grownBy_cell ((W7.setCell ⟨F, 1, none⟩ (.slice (some ⟨g7, 0, none⟩) 4 cl7)).setCell ⟨w.heap.size + 1, 0, none⟩ (.slice (some ⟨g, 0, none⟩) 512 cg)) (w.heap.size + 1) 1 (.slice (some ⟨g7, 0, none⟩) 4 cl7)
      have hHS := HS2.out
      have hg7 := (hown7.lt g7 rfl).1
      have hWF := hFx
      have c9 := ((hc7.kept q1 (.inr (by simp [Value.ownBlock]; omega))).kept q2 (.inr (by simp [Value.ownBlock]; omega))).kept q3 (.inr (by simp [Value.ownBlock]; omega))
      have l9 := ((hown7.kept q1 (.inr (by simp [Value.ownBlock]; omega))).kept q2 (.inr (by simp [Value.ownBlock]; omega))).kept q3 (.inr (by simp [Value.ownBlock]; omega))
      have hB9 := ((((hB.trans (hbx.mono (by omega))).trans (hb7.mono (by have := hbx.size; omega))).setCell (p := ⟨F, 1, none⟩) (by simp; omega) (.slice (some ⟨g7, 0, none⟩) 4 cl7)).setCell (p := ⟨w.heap.size + 1, 0, none⟩) (by simp) (.slice (some ⟨g, 0, none⟩) 512 cg)).setCell (p := ⟨w.heap.size + 1, 1, none⟩) (by simp) (.slice (some ⟨g7, 0, none⟩) 4 cl7)
      refine bodyPost_ret (v := .agg #[.slice (some ⟨g, 0, none⟩) 512 cg, .slice (some ⟨g7, 0, none⟩) 4 cl7]) (by simp [results, Try.results21, go_sem, y0, y1]) rfl ⟨_, _, _, _, rfl, mem_of c9 l9, hB9⟩
end Go.Proofs.Ytkffeibjleiaoaa
