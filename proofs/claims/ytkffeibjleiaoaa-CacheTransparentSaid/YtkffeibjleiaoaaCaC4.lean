/-
  Contracts of package cache: empty, Flush, Drop.
-/
import Derived.Test.YtkffeibjleiaoaaCaC3
namespace Go.Proofs.Ytkffeibjleiaoaa
open Go.RowKit

theorem empties_set (ls : List MLine) (h4 : ls.length = 4) (k : Nat) (hk : k < 4) : (List.replicate k emptyL ++ ls.drop k).set k ⟨-1, false, []⟩ = List.replicate (k + 1) emptyL ++ ls.drop (k + 1) := by
  match ls, h4 with
  | [x0, x1, x2, x3], _ =>
    have h : k = 0 ∨ k = 1 ∨ k = 2 ∨ k = 3 := by omega
    rcases h with rfl | rfl | rfl | rfl <;> rfl

set_option maxHeartbeats 2000000 in
theorem cache_empty (B g cg h ch : Nat) (vs : List Value) (m : Mem) (w : World) (hO : OwnM B w g cg h ch vs m) :
    Calls Try.prog 43 #[.slice (some ⟨h, 0, none⟩) 4 ch] w fun e w' => e = .returned (.tuple #[]) ∧ (∃ vs', OwnM B w' g cg h ch vs' ⟨m.cells, emptyM⟩) ∧ w.grownBy w' (some h) := by
  have h4 := Lib.hid hO.four.1
  go_enter Try.func43, Try.ntmps43
  go_wp2
  go_loopw [2, 5] (fun _ c wr => ∃ (k : Nat) (vs : List Value), k ≤ 4 ∧ c = .int .i64 k ∧ OwnM B wr g cg h ch vs ⟨m.cells, List.replicate k emptyL ++ m.lines.drop k⟩ ∧ w.grownBy wr (some h)) (fun _ c _ => 4 - (intOf c).toNat)
  case atStart => exact ⟨0, vs, by omega, rfl, hO, grownBy_drewN w _ 0⟩
  case round =>
    obtain ⟨k, vs1, hk, rfl, H, hg⟩ := hrel
    by_cases hlt : k < 4
    · have i1 : (k : Int) < 4 := by omega
      have i2 : 0 ≤ (k : Int) := by omega
      have hf := H.four
      have hkl : k < (List.replicate k emptyL ++ m.lines.drop k).length := by rw [show (List.replicate k emptyL ++ m.lines.drop k).length = 4 from hf.1]; exact hlt
      obtain ⟨t0, t1, t2, t3⟩ := H.head k hkl (by omega)
      have t4 := t3 (k * 3)
      have t5 := t3 (k * 3 + 1)
      have t6 := t3 (k * 3 + 2)
      obtain ⟨u, hu⟩ : ∃ u, vs1[k]'(by omega) = u := ⟨_, rfl⟩
      rw [hu] at t2
      generalize hL : (List.replicate k emptyL ++ m.lines.drop k)[k] = l at t0 t1
      have T := H.line_set k hkl (-1) false (v := .slice none 0 0) (xs := []) (World.ownsRow_nil _ _ _ _) (by simp [Value.ownBlock]) (by simp [Value.ownBlock]) (fun j hj _ => by
        by_cases e : vs1[j].ownBlock = none
        · exact .inl e
        · exact .inr (by simpa [Value.ownBlock] using e))
      simp only at T
      rw [empties_set m.lines h4.out k hlt] at T
      have T := Lib.hid T
      have G := Lib.hid (grownBy_trans hg (grownBy_trans (grownBy_trans (grownBy_cell wr h (k * 3) (.int .i64 (-1))) (grownBy_cell _ h (k * 3 + 1) (.bool false))) (grownBy_cell _ h (k * 3 + 2) (.slice none 0 0))))
      clear H hf hkl t3 hL hg hu
      go_wp2
      go_roundw
      case rel => exact ⟨k + 1, _, by omega, by go_num, T.out, G.out⟩
      case measure => simp [intOf]; omega
    · obtain rfl : k = 4 := by omega
      have e : List.replicate 4 emptyL ++ m.lines.drop 4 = emptyM := by rw [List.drop_eq_nil_of_le (by have := h4.out; omega)]; rfl
      rw [e] at H
      go_wp2
      exact bodyPost_end (results_none (by rfl) _ _ _) rfl ⟨rfl, ⟨_, H⟩, hg⟩

/-- The call gives words and lines of its own. -/
def GivesMem (m : Mem) (w : World) (e : Ending) (w' : World) : Prop :=
  ∃ g cg h ch vs, e = .returned (.agg #[.slice (some ⟨g, 0, none⟩) 512 cg, .slice (some ⟨h, 0, none⟩) 4 ch]) ∧ OwnM w.heap.size w' g cg h ch vs m ∧ Below w.heap.size w w'

set_option maxHeartbeats 2000000 in
set_option maxRecDepth 20000 in
theorem cache_Drop (a al : Option Addr) (ca cl : Nat) (m : Mem) (w : World) (hM : MemAt w a al m) (hV : MV m) : Calls Try.prog 22 #[.agg #[.slice a 512 ca, .slice al 4 cl]] w (GivesMem (dropM m) w) := by
  have g1 := World.grownBy_alloc (w.alloc (.cells #[.slice a 512 ca, .slice al 4 cl] 31)) (.cells #[.slice none 0 0, .slice none 0 0] 31) none
  have hs1 : (w.alloc (.cells #[.slice a 512 ca, .slice al 4 cl] 31)).heap.size = w.heap.size + 1 := by simp
  have hs2 : ((w.alloc (.cells #[.slice a 512 ca, .slice al 4 cl] 31)).alloc (.cells #[.slice none 0 0, .slice none 0 0] 31)).heap.size = w.heap.size + 2 := by simp
  have bm := (Blk.new (W := w) #[.slice a 512 ca, .slice al 4 cl] 31).kept g1 (by simp)
  have br := Blk.new (W := (w.alloc (.cells #[.slice a 512 ca, .slice al 4 cl] 31))) #[.slice none 0 0, .slice none 0 0] 31
  rw [hs1] at br
  have hB := Below.alloc (Below.alloc (Below.refl w.heap.size w) (Nat.le_refl _) (.cells #[.slice a 512 ca, .slice al 4 cl] 31)) (by rw [hs1]; omega) (.cells #[.slice none 0 0, .slice none 0 0] 31)
  have hM0 := hM.later hB
  have HS2 := Lib.hid hs2
  clear g1 hs1 hs2 hM
  go_enter Try.func22, Try.ntmps22
  go_upto_region 1 with fail
  generalize ((w.alloc (.cells #[.slice a 512 ca, .slice al 4 cl] 31)).alloc (.cells #[.slice none 0 0, .slice none 0 0] 31)) = W0 at *
  have HC := Lib.hid (memory_Copy a al ca cl m W0 hM0 hV)
  have m0 := (bm 0 (by simp)).1
  have m1 := (bm 1 (by simp)).1
  clear hM0
  go_wp2_with fail
  refine HC.out.mono ?_
  rintro e W1 ⟨g, cg, h, ch, vs, rfl, hown, hb1⟩
  have hA := Below.alloc (Below.refl W1.heap.size W1) (Nat.le_refl _) (.cells #[.slice (some ⟨g, 0, none⟩) 512 cg, .slice (some ⟨h, 0, none⟩) 4 ch] 31)
  have bF := Blk.new (W := W1) #[.slice (some ⟨g, 0, none⟩) 512 cg, .slice (some ⟨h, 0, none⟩) 4 ch] 31
  have hb2 := hb1.trans (hA.mono hb1.size)
  have hB2 := hB.trans (hb2.mono (by rw [HS2.out]; omega))
  have br2 := br.later hb2
  have H2 := hown.later hA
  have hbo := hown.bounds
  have hsz1 : W0.heap.size ≤ W1.heap.size := hb1.size
  go_upto_region 2 with fail
  generalize W1.alloc (.cells #[.slice (some ⟨g, 0, none⟩) 512 cg, .slice (some ⟨h, 0, none⟩) 4 ch] 31) = W2 at *
  generalize W1.heap.size = F at *
  have HE := Lib.hid (cache_empty W0.heap.size g cg h ch vs m W2 H2)
  have F1 := (bF 1 (by simp)).1
  clear HC m0 m1 hown H2 hA hb1 hb2
  go_wp2_with fail
  refine HE.out.mono ?_
  rintro e W3 ⟨rfl, ⟨vs2, H3⟩, hg3⟩
  have bF3 := bF.kept hg3 (by simp; omega)
  have br3 := br2.kept hg3 (by have := hbo.2.2.1; rw [HS2.out] at this; simp; omega)
  have hB3 := hB2.grown hg3 hB2.size (fun q hq => by cases hq; have := hbo.2.2.1; rw [HS2.out] at this; omega)
  have F0 := (bF3 0 (by simp)).1
  have F1 := (bF3 1 (by simp)).1
  have r0 := (br3 0 (by simp)).1
  have r1 := (br3 1 (by simp)).1
  have f0 := (br3 0 (by simp)).2
  have f1 := (br3 1 (by simp)).2
  have HR : Hid (GivesMem (dropM m) w (.returned (.agg #[.slice (some ⟨g, 0, none⟩) 512 cg, .slice (some ⟨h, 0, none⟩) 4 ch])) ((W3.setCell ⟨w.heap.size + 1, 0, none⟩ (.slice (some ⟨g, 0, none⟩) 512 cg)).setCell ⟨w.heap.size + 1, 1, none⟩ (.slice (some ⟨h, 0, none⟩) 4 ch))) :=
    Lib.hid ⟨g, cg, h, ch, vs2, rfl, ((H3.far (grownBy_cell _ _ _ _) (by rw [HS2.out]; omega)).far (grownBy_cell _ _ _ _) (by rw [HS2.out]; omega)).mono (by rw [HS2.out]; omega),
      (hB3.setCell (p := ⟨w.heap.size + 1, 0, none⟩) (by simp) _).setCell (p := ⟨w.heap.size + 1, 1, none⟩) (by simp) _⟩
  clear HE H3 hg3 bF3 br3 hB3 bF br2 hB2 hbo br hB bm
  go_wp2
  refine bodyPost_ret (v := .agg #[.slice (some ⟨g, 0, none⟩) 512 cg, .slice (some ⟨h, 0, none⟩) 4 ch]) (by simp [results, Try.results22, go_sem, r0, r1]) rfl HR.out

set_option maxHeartbeats 4000000 in
set_option maxRecDepth 20000 in
theorem cache_Flush (a al : Option Addr) (ca cl : Nat) (m : Mem) (w : World) (hM : MemAt w a al m) (hV : MV m) : Calls Try.prog 20 #[.agg #[.slice a 512 ca, .slice al 4 cl]] w (GivesMem (flushM m) w) := by
  have g1 := World.grownBy_alloc (w.alloc (.cells #[.slice a 512 ca, .slice al 4 cl] 31)) (.cells #[.slice none 0 0, .slice none 0 0] 31) none
  have hs1 : (w.alloc (.cells #[.slice a 512 ca, .slice al 4 cl] 31)).heap.size = w.heap.size + 1 := by simp
  have hs2 : ((w.alloc (.cells #[.slice a 512 ca, .slice al 4 cl] 31)).alloc (.cells #[.slice none 0 0, .slice none 0 0] 31)).heap.size = w.heap.size + 2 := by simp
  have bm := (Blk.new (W := w) #[.slice a 512 ca, .slice al 4 cl] 31).kept g1 (by simp)
  have br := Blk.new (W := (w.alloc (.cells #[.slice a 512 ca, .slice al 4 cl] 31))) #[.slice none 0 0, .slice none 0 0] 31
  rw [hs1] at br
  have hB := Below.alloc (Below.alloc (Below.refl w.heap.size w) (Nat.le_refl _) (.cells #[.slice a 512 ca, .slice al 4 cl] 31)) (by rw [hs1]; omega) (.cells #[.slice none 0 0, .slice none 0 0] 31)
  have hM0 := hM.later hB
  have HS2 := Lib.hid hs2
  clear g1 hs1 hs2 hM
  go_enter Try.func20, Try.ntmps20
  go_upto_region 1 with fail
  generalize ((w.alloc (.cells #[.slice a 512 ca, .slice al 4 cl] 31)).alloc (.cells #[.slice none 0 0, .slice none 0 0] 31)) = W0 at *
  have HC := Lib.hid (memory_Copy a al ca cl m W0 hM0 hV)
  have HVa := Lib.hid (fun W (hW : Below W0.heap.size W0 W) => memory_Valid_MV a al ca cl m W (hM0.later hW) hV)
  have m0 := (bm 0 (by simp)).1
  have m1 := (bm 1 (by simp)).1
  go_wp2_with fail
  refine HC.out.mono ?_
  rintro e W1 ⟨g, cg, h, ch, vs, rfl, hown, hb1⟩
  have hA := Below.alloc (Below.refl W1.heap.size W1) (Nat.le_refl _) (.cells #[.slice (some ⟨g, 0, none⟩) 512 cg, .slice (some ⟨h, 0, none⟩) 4 ch] 31)
  have bF := Blk.new (W := W1) #[.slice (some ⟨g, 0, none⟩) 512 cg, .slice (some ⟨h, 0, none⟩) 4 ch] 31
  have hb2 := hb1.trans (hA.mono hb1.size)
  have H2 := hown.later hA
  have hbo := hown.bounds
  have hgh := hown.ne
  have hsz1 : W0.heap.size ≤ W1.heap.size := hb1.size
  have bm2 := bm.later hb2
  have m0 := (bm2 0 (by simp)).1
  have m1 := (bm2 1 (by simp)).1
  go_upto_region 2 with fail
  generalize W1.alloc (.cells #[.slice (some ⟨g, 0, none⟩) 512 cg, .slice (some ⟨h, 0, none⟩) 4 ch] 31) = W2 at *
  generalize W1.heap.size = F at *
  clear HC hown hA hb1
  go_wp2_with fail
  refine (HVa.out _ hb2).mono ?_
  rintro e W3 ⟨rfl, hb3⟩
  have bF3 := bF.later hb3
  have H3 := H2.later hb3
  have hb3 := hb2.trans (hb3.mono hb2.size)
  have bm3 := bm.later hb3
  have m1 := (bm3 1 (by simp)).1
  have hsz3 := hb3.size
  have H4 := Lib.hid hV.lines
  have h4 : (m.lines.length : Int) = 4 := by have := hV.lines; omega
  clear HVa H2 bF bm2 m0 bm3 hb2
  go_upto_region 4 with fail
  go_wp2_with fail
  go_loopw [15] (fun c wr => ∃ (k : Nat), k ≤ 4 ∧ c = .int .i64 k ∧ OwnM W0.heap.size wr g cg h ch vs ⟨(m.lines.take k).foldl backL m.cells, m.lines⟩ ∧ Blk wr F [.slice (some ⟨g, 0, none⟩) 512 cg, .slice (some ⟨h, 0, none⟩) 4 ch] ∧ Below W0.heap.size W0 wr) (fun c _ => 4 - (intOf c).toNat)
  case atStart => exact ⟨0, by omega, rfl, H3, bF3, hb3⟩
  case round =>
    clear H3 bF3 m1
    obtain ⟨k, hk, rfl, H, bF, hb⟩ := hrel
    by_cases hlt : k < 4
    · have i1 : (k : Int) < 4 := by omega
      have i2 : 0 ≤ (k : Int) := by omega
      have hkl : k < m.lines.length := by have := H4.out; omega
      obtain ⟨b, o, rfl, hc⟩ := (hM0.2.later hb).some hkl
      obtain ⟨c0, c1, a2, k2, c2, hcx⟩ := hc k hkl
      have hVL := hV.each k hkl
      have hfo : (m.lines.take (k + 1)).foldl backL m.cells = backL ((m.lines.take k).foldl backL m.cells) m.lines[k] := by
        rw [List.take_succ_eq_append_getElem hkl, List.foldl_append]; rfl
      clear hc
      obtain ⟨x, hx⟩ : ∃ x, m.lines[k] = x := ⟨_, rfl⟩
      rw [hx] at c0 c1 c2 hcx hVL hfo
      have HFo := Lib.hid hfo
      have hA := Below.alloc (Below.refl wr.heap.size wr) (Nat.le_refl _) (.cells #[.int .i64 x.tag, .bool x.dirty, .slice a2 x.cells.length k2] 53)
      have bx := Blk.new (W := wr) #[.int .i64 x.tag, .bool x.dirty, .slice a2 x.cells.length k2] 53
      have HW := Lib.hid (cache_writeBack g cg W0.heap.size k _ x a2 k2 _ ((H.later hA).cells) hVL (hcx.later hA))
      clear hx hfo
      go_upto_region 7 with fail
      clear c0 c1 c2 hcx
      have hH := H.later hA
      have bF4 := bF.later hA
      have hb4 := hb.trans (hA.mono hb.size)
      generalize wr.alloc (.cells #[.int .i64 x.tag, .bool x.dirty, .slice a2 x.cells.length k2] 53) = W4 at *
      have x0 := (bx 0 (by simp)).1
      have x1 := (bx 1 (by simp)).1
      have x2 := (bx 2 (by simp)).1
      have F0 := (bF4 0 (by simp)).1
      generalize wr.heap.size = X at *
      go_wp2_with (go_at_call 42; (with_reducible refine HW.out.mono ?_); rintro e W5 ⟨rfl, hC5, hg5⟩)
      have R1 := hH.cells_set hg5 hC5
      simp only at R1
      rw [← HFo.out] at R1
      have R1 := Lib.hid R1
      have R2 := Lib.hid (bF4.kept hg5 (by simp; omega))
      have R3 := Lib.hid (hb4.grown hg5 hb4.size (fun q hq => by cases hq; exact hbo.1))
      go_roundw
      case rel => exact ⟨k + 1, by omega, by go_num, R1.out, R2.out, R3.out⟩
      case measure => simp [intOf]; omega
    · obtain rfl : k = 4 := by omega
      have e4 : m.lines.take 4 = m.lines := List.take_of_length_le (by have := H4.out; omega)
      rw [e4] at H
      have HE := Lib.hid (cache_empty W0.heap.size g cg h ch vs _ wr H)
      have F1 := (bF 1 (by simp)).1
      have br2 := br.later hb
      have hB2 := hB.trans (hb.mono (by rw [HS2.out]; omega))
      clear H e4 hb hM0
      go_wp2_with fail
      refine HE.out.mono ?_
      rintro e W5 ⟨rfl, ⟨vs2, H5⟩, hg5⟩
      have bF5 := bF.kept hg5 (by simp; omega)
      have br5 := br2.kept hg5 (by have := hbo.2.2.1; rw [HS2.out] at this; simp; omega)
      have hB5 := hB2.grown hg5 hB2.size (fun q hq => by cases hq; have := hbo.2.2.1; rw [HS2.out] at this; omega)
      have F0 := (bF5 0 (by simp)).1
      have F1 := (bF5 1 (by simp)).1
      have r0 := (br5 0 (by simp)).1
      have r1 := (br5 1 (by simp)).1
      have f0 := (br5 0 (by simp)).2
      have f1 := (br5 1 (by simp)).2
      have HR : Hid (GivesMem (flushM m) w (.returned (.agg #[.slice (some ⟨g, 0, none⟩) 512 cg, .slice (some ⟨h, 0, none⟩) 4 ch])) ((W5.setCell ⟨w.heap.size + 1, 0, none⟩ (.slice (some ⟨g, 0, none⟩) 512 cg)).setCell ⟨w.heap.size + 1, 1, none⟩ (.slice (some ⟨h, 0, none⟩) 4 ch))) :=
        Lib.hid ⟨g, cg, h, ch, vs2, rfl, ((H5.far (grownBy_cell _ _ _ _) (by rw [HS2.out]; omega)).far (grownBy_cell _ _ _ _) (by rw [HS2.out]; omega)).mono (by rw [HS2.out]; omega),
          (hB5.setCell (p := ⟨w.heap.size + 1, 0, none⟩) (by simp) _).setCell (p := ⟨w.heap.size + 1, 1, none⟩) (by simp) _⟩
      clear HE H5 hg5 bF5 br5 hB5 bF br2 hB2 hbo br hB bm
      go_wp2
      refine bodyPost_ret (v := .agg #[.slice (some ⟨g, 0, none⟩) 512 cg, .slice (some ⟨h, 0, none⟩) 4 ch]) (by simp [results, Try.results20, go_sem, r0, r1]) rfl HR.out
end Go.Proofs.Ytkffeibjleiaoaa
