/-
  Contracts of the document's own cache: Read and Write of an address; the document's Poke.
-/
import Derived.Test.YtkffeibjleiaoaaRC2
namespace Go.Proofs.Ytkffeibjleiaoaa
open Go.RowKit

set_option maxHeartbeats 4000000 in
set_option maxRecDepth 20000 in
theorem ref05_Read_in (a al : Option Addr) (ca cl : Nat) (m : Mem) (x : Nat) (w : World) (hM : MemAt w a al m) (hV : MV m) (hx : x < 512) :
    Calls Try.prog 13 #[.agg #[.slice a 512 ca, .slice al 4 cl], .int .i64 (x : Int)] w (GivesRead m x w) := by
  have g1 := World.grownBy_alloc (w.alloc (.cells #[.slice a 512 ca, .slice al 4 cl] 31)) (.cells #[.slice none 0 0, .slice none 0 0] 31) none
  have g2 := World.grownBy_alloc ((w.alloc (.cells #[.slice a 512 ca, .slice al 4 cl] 31)).alloc (.cells #[.slice none 0 0, .slice none 0 0] 31)) (.cells #[.int .u8 0, .int .u16 0] 25) none
  have hs1 : (w.alloc (.cells #[.slice a 512 ca, .slice al 4 cl] 31)).heap.size = w.heap.size + 1 := by simp
  have hs2 : ((w.alloc (.cells #[.slice a 512 ca, .slice al 4 cl] 31)).alloc (.cells #[.slice none 0 0, .slice none 0 0] 31)).heap.size = w.heap.size + 1 + 1 := by simp
  have hs3 : (((w.alloc (.cells #[.slice a 512 ca, .slice al 4 cl] 31)).alloc (.cells #[.slice none 0 0, .slice none 0 0] 31)).alloc (.cells #[.int .u8 0, .int .u16 0] 25)).heap.size = w.heap.size + 3 := by simp
  have bm := ((Blk.new (W := w) #[.slice a 512 ca, .slice al 4 cl] 31).kept g1 (by simp)).kept g2 (by simp)
  have br := (Blk.new (W := (w.alloc (.cells #[.slice a 512 ca, .slice al 4 cl] 31))) #[.slice none 0 0, .slice none 0 0] 31).kept g2 (by simp)
  have bc := Blk.new (W := ((w.alloc (.cells #[.slice a 512 ca, .slice al 4 cl] 31)).alloc (.cells #[.slice none 0 0, .slice none 0 0] 31))) #[.int .u8 0, .int .u16 0] 25
  rw [hs1] at br
  rw [hs2] at bc
  have hB := Below.alloc (Below.alloc (Below.alloc (Below.refl w.heap.size w) (Nat.le_refl _) (.cells #[.slice a 512 ca, .slice al 4 cl] 31)) (by rw [hs1]; omega) (.cells #[.slice none 0 0, .slice none 0 0] 31)) (by rw [hs2]; omega) (.cells #[.int .u8 0, .int .u16 0] 25)
  have hM0 := hM.later hB
  have HS3 := Lib.hid hs3
  clear g1 g2 hs1 hs2 hs3 hM
  have i1 : ¬ (x : Int) < 0 := by omega
  have i2 : ¬ (512 : Int) ≤ (x : Int) := by omega
  go_enter Try.func13, Try.ntmps13
  go_upto_region 1 with fail
  generalize (((w.alloc (.cells #[.slice a 512 ca, .slice al 4 cl] 31)).alloc (.cells #[.slice none 0 0, .slice none 0 0] 31)).alloc (.cells #[.int .u8 0, .int .u16 0] 25)) = W0 at *
  have HC := Lib.hid (ref04_Copy a al ca cl m W0 hM0 hV)
  have m0 := (bm 0 (by simp)).1
  have m1 := (bm 1 (by simp)).1
  clear hM0
  go_wp2_with fail
  refine HC.out.mono ?_
  rintro e W1 ⟨g, cg, h, ch, vs, rfl, hown, hb1⟩
  have hA := Below.alloc (Below.refl W1.heap.size W1) (Nat.le_refl _) (.cells #[.slice (some ⟨g, 0, none⟩) 512 cg, .slice (some ⟨h, 0, none⟩) 4 ch] 31)
  have bF := Blk.new (W := W1) #[.slice (some ⟨g, 0, none⟩) 512 cg, .slice (some ⟨h, 0, none⟩) 4 ch] 31
  have hfr := fresh_block hown (Nat.le_refl W1.heap.size)
  have H2 := hown.later hA
  go_upto_region 4 with fail
  have hsF : (W1.alloc (.cells #[.slice (some ⟨g, 0, none⟩) 512 cg, .slice (some ⟨h, 0, none⟩) 4 ch] 31)).heap.size = W1.heap.size + 1 := by simp
  have HRS : RefS W0.heap.size W1.heap.size g cg h ch vs m (W1.alloc (.cells #[.slice (some ⟨g, 0, none⟩) 512 cg, .slice (some ⟨h, 0, none⟩) 4 ch] 31)) := ⟨H2, bF, hfr.1, hfr.2.1, hfr.2.2, by rw [hsF]; have := hb1.size; omega⟩
  have hb2 := hb1.trans (hA.mono hb1.size)
  have hsz1 : W0.heap.size ≤ W1.heap.size := hb1.size
  clear hsF hfr hown hA hb1 H2
  generalize W1.alloc (.cells #[.slice (some ⟨g, 0, none⟩) 512 cg, .slice (some ⟨h, 0, none⟩) 4 ch] 31) = W2 at *
  generalize W1.heap.size = F at *
  have HL := Lib.hid (ref05_Load W0.heap.size F g cg h ch vs m x W2 HRS hV hx)
  have HLK := Lib.hid (show (∀ e w', (∃ g cg h ch vs, e = .returned (.tuple #[.agg #[.slice (some ⟨g, 0, none⟩) 512 cg, .slice (some ⟨h, 0, none⟩) 4 ch], .agg #[.int .u8 ((lookM m x).1 : Int), .int .u16 ((lookM m x).2 : Int)], .int .i64 0]) ∧ OwnM w.heap.size w' g cg h ch vs (fetchM m (x / 4)) ∧ Below w.heap.size w w') → GivesRead m x w e w') from fun e w' h => h)
  generalize hr : lookM m x = r at HL HLK
  clear HRS bF hr
  go_wp2_with fail
  refine HL.out.mono ?_
  rintro e W3 ⟨rfl, ⟨vs3, H3⟩, hb3⟩
  have hb3 := (hb2.mono (Nat.le_refl _)).trans hb3
  have hA3 := Below.alloc (Below.refl W3.heap.size W3) (Nat.le_refl _) (.cells #[.int .u8 (r.1 : Int), .int .u16 (r.2 : Int)] 25)
  have bG := Blk.new (W := W3) #[.int .u8 (r.1 : Int), .int .u16 (r.2 : Int)] 25
  have hFl := World.block_lt_of_cell? _ _ (H3.box 0 (by simp)).1
  have hHB3 := H3.hB
  have H4 := H3.later hA3
  have hb4 := hb3.trans (hA3.mono hHB3)
  go_upto_region 5 with fail
  generalize W3.alloc (.cells #[.int .u8 (r.1 : Int), .int .u16 (r.2 : Int)] 25) = W4 at *

  generalize W3.heap.size = G at *
  have hB4 := hB.trans (hb4.mono (by rw [HS3.out]; omega))
  have br4 := br.later hb4
  have bc4 := bc.later hb4
  have F0 := (H4.box 0 (by simp)).1
  have F1 := (H4.box 1 (by simp)).1
  have G0 := (bG 0 (by simp)).1
  have G1 := (bG 1 (by simp)).1
  have r0 := (br4 0 (by simp)).1
  have r1 := (br4 1 (by simp)).1
  have f0 := (br4 0 (by simp)).2
  have f1 := (br4 1 (by simp)).2
  have u0 := (bc4 0 (by simp)).1
  have u1 := (bc4 1 (by simp)).1
  have e0 := (bc4 0 (by simp)).2
  have e1 := (bc4 1 (by simp)).2
  have hHS := HS3.out
  have x1 : ¬ F = w.heap.size + 1 := by omega
  have x2 : ¬ F = w.heap.size + 1 + 1 := by omega
  have x3 : ¬ G = w.heap.size + 1 := by omega
  have x4 : ¬ G = w.heap.size + 1 + 1 := by omega
  have x7 : ¬ w.heap.size + 1 + 1 = w.heap.size + 1 := by omega
  have HR := Lib.hid (HLK.out _ ((((W4.setCell ⟨w.heap.size + 1, 0, none⟩ (.slice (some ⟨g, 0, none⟩) 512 cg)).setCell ⟨w.heap.size + 1, 1, none⟩ (.slice (some ⟨h, 0, none⟩) 4 ch)).setCell ⟨w.heap.size + 1 + 1, 0, none⟩ (.int .u8 (r.1 : Int))).setCell ⟨w.heap.size + 1 + 1, 1, none⟩ (.int .u16 (r.2 : Int))).drew
    ⟨g, cg, h, ch, vs3, rfl, ((((((H4.own.far (grownBy_cell _ _ _ _) (by omega)).far (grownBy_cell _ _ _ _) (by omega)).far (grownBy_cell _ _ _ _) (by omega)).far (grownBy_cell _ _ _ _) (by omega)).mono (by omega)).later (Below.refl _ _).drew),
      ((((hB4.setCell (p := ⟨w.heap.size + 1, 0, none⟩) (by simp) _).setCell (p := ⟨w.heap.size + 1, 1, none⟩) (by simp) _).setCell (p := ⟨w.heap.size + 1 + 1, 0, none⟩) (by simp; omega) _).setCell (p := ⟨w.heap.size + 1 + 1, 1, none⟩) (by simp; omega) _).drew⟩)
  clear hHS HLK H3 H4 hA3 bG hFl hHB3 hb3 hb4 hB4 br4 bc4 HL HC m0 m1 bc br bm hB hb2 hsz1
  go_region
  go_wp2
  refine bodyPost_ret (v := .tuple #[.agg #[.slice (some ⟨g, 0, none⟩) 512 cg, .slice (some ⟨h, 0, none⟩) 4 ch], .agg #[.int .u8 (r.1 : Int), .int .u16 (r.2 : Int)], .int .i64 0]) (by simp [results, Try.results13, go_sem, r0, r1, u0, u1]) rfl HR.out

set_option maxHeartbeats 4000000 in
set_option maxRecDepth 20000 in
theorem ref05_Write_in (a al : Option Addr) (ca cl : Nat) (m : Mem) (x : Nat) (c : Nat × Nat) (w : World) (hM : MemAt w a al m) (hV : MV m) (hx : x < 512) (hc : VC c) :
    Calls Try.prog 19 #[.agg #[.slice a 512 ca, .slice al 4 cl], .int .i64 (x : Int), .agg #[.int .u8 (c.1 : Int), .int .u16 (c.2 : Int)]] w (GivesWrite m x c w) := by
  have g1 := World.grownBy_alloc (w.alloc (.cells #[.slice a 512 ca, .slice al 4 cl] 31)) (.cells #[.int .u8 (c.1 : Int), .int .u16 (c.2 : Int)] 25) none
  have g2 := World.grownBy_alloc ((w.alloc (.cells #[.slice a 512 ca, .slice al 4 cl] 31)).alloc (.cells #[.int .u8 (c.1 : Int), .int .u16 (c.2 : Int)] 25)) (.cells #[.slice none 0 0, .slice none 0 0] 31) none
  have hs1 : (w.alloc (.cells #[.slice a 512 ca, .slice al 4 cl] 31)).heap.size = w.heap.size + 1 := by simp
  have hs2 : ((w.alloc (.cells #[.slice a 512 ca, .slice al 4 cl] 31)).alloc (.cells #[.int .u8 (c.1 : Int), .int .u16 (c.2 : Int)] 25)).heap.size = w.heap.size + 1 + 1 := by simp
  have hs3 : (((w.alloc (.cells #[.slice a 512 ca, .slice al 4 cl] 31)).alloc (.cells #[.int .u8 (c.1 : Int), .int .u16 (c.2 : Int)] 25)).alloc (.cells #[.slice none 0 0, .slice none 0 0] 31)).heap.size = w.heap.size + 3 := by simp
  have bm := ((Blk.new (W := w) #[.slice a 512 ca, .slice al 4 cl] 31).kept g1 (by simp)).kept g2 (by simp)
  have bc := (Blk.new (W := (w.alloc (.cells #[.slice a 512 ca, .slice al 4 cl] 31))) #[.int .u8 (c.1 : Int), .int .u16 (c.2 : Int)] 25).kept g2 (by simp)
  have br := Blk.new (W := ((w.alloc (.cells #[.slice a 512 ca, .slice al 4 cl] 31)).alloc (.cells #[.int .u8 (c.1 : Int), .int .u16 (c.2 : Int)] 25))) #[.slice none 0 0, .slice none 0 0] 31
  rw [hs1] at bc
  rw [hs2] at br
  have hB := Below.alloc (Below.alloc (Below.alloc (Below.refl w.heap.size w) (Nat.le_refl _) (.cells #[.slice a 512 ca, .slice al 4 cl] 31)) (by rw [hs1]; omega) (.cells #[.int .u8 (c.1 : Int), .int .u16 (c.2 : Int)] 25)) (by rw [hs2]; omega) (.cells #[.slice none 0 0, .slice none 0 0] 31)
  have hM0 := hM.later hB
  have HS3 := Lib.hid hs3
  clear g1 g2 hs1 hs2 hs3 hM
  have i1 : ¬ (x : Int) < 0 := by omega
  have i2 : ¬ (512 : Int) ≤ (x : Int) := by omega
  have HV := Lib.hid (fun W => ref01_Valid (c.1 : Int) (c.2 : Int) W (by have := hc.1; have := hc.2; omega) (by have := hc.1; have := hc.2; omega))
  have hd : (decide ((c.1 : Int) ≤ 2)) = true := decide_eq_true (by have := hc.1; omega)
  rw [hd] at HV
  clear hd hc
  go_enter Try.func19, Try.ntmps19
  go_upto_region 1 with fail
  generalize (((w.alloc (.cells #[.slice a 512 ca, .slice al 4 cl] 31)).alloc (.cells #[.int .u8 (c.1 : Int), .int .u16 (c.2 : Int)] 25)).alloc (.cells #[.slice none 0 0, .slice none 0 0] 31)) = W0 at *
  have c0 := (bc 0 (by simp)).1
  have c1 := (bc 1 (by simp)).1
  go_wp2_with fail
  refine (HV.out _).mono ?_
  rintro e W9 ⟨rfl, hb9⟩
  have bm9 := bm.later hb9
  have m0 := (bm9 0 (by simp)).1
  have m1 := (bm9 1 (by simp)).1
  have HC := ref04_Copy a al ca cl m W9 (hM0.later hb9) hV
  have hB := hB.trans (hb9.mono hB.size)
  have bc := bc.later hb9
  have br := br.later hb9
  have HS4 : Hid (w.heap.size + 3 ≤ W9.heap.size) := Lib.hid (by have := hb9.size; have := HS3.out; omega)
  have HC := Lib.hid HC
  clear hM0 hb9 bm9 bm
  generalize W9 = W0 at *
  go_wp2_with fail
  refine HC.out.mono ?_
  rintro e W1 ⟨g, cg, h, ch, vs, rfl, hown, hb1⟩
  have hA := Below.alloc (Below.refl W1.heap.size W1) (Nat.le_refl _) (.cells #[.slice (some ⟨g, 0, none⟩) 512 cg, .slice (some ⟨h, 0, none⟩) 4 ch] 31)
  have bF := Blk.new (W := W1) #[.slice (some ⟨g, 0, none⟩) 512 cg, .slice (some ⟨h, 0, none⟩) 4 ch] 31
  have hfr := fresh_block hown (Nat.le_refl W1.heap.size)
  have H2 := hown.later hA
  go_upto_region 6 with fail
  have hsF : (W1.alloc (.cells #[.slice (some ⟨g, 0, none⟩) 512 cg, .slice (some ⟨h, 0, none⟩) 4 ch] 31)).heap.size = W1.heap.size + 1 := by simp
  have HRS : RefS W0.heap.size W1.heap.size g cg h ch vs m (W1.alloc (.cells #[.slice (some ⟨g, 0, none⟩) 512 cg, .slice (some ⟨h, 0, none⟩) 4 ch] 31)) := ⟨H2, bF, hfr.1, hfr.2.1, hfr.2.2, by rw [hsF]; have := hb1.size; omega⟩
  have hb2 := hb1.trans (hA.mono hb1.size)
  have hsz1 : W0.heap.size ≤ W1.heap.size := hb1.size
  clear hsF hfr hown hA hb1 H2
  generalize W1.alloc (.cells #[.slice (some ⟨g, 0, none⟩) 512 cg, .slice (some ⟨h, 0, none⟩) 4 ch] 31) = W2 at *
  generalize W1.heap.size = F at *
  have HL := Lib.hid (ref05_Store W0.heap.size F g cg h ch vs m x c W2 HRS hV hx)
  have bc2 := bc.later hb2
  have c0 := (bc2 0 (by simp)).1
  have c1 := (bc2 1 (by simp)).1
  clear HRS bF
  go_wp2_with fail
  refine HL.out.mono ?_
  rintro e W3 ⟨rfl, ⟨vs3, H3⟩, hb3⟩
  have hb3 := hb2.trans hb3
  have hB3 := hB.trans (hb3.mono hB.size)
  have br3 := br.later hb3
  have F0 := (H3.box 0 (by simp)).1
  have F1 := (H3.box 1 (by simp)).1
  have r0 := (br3 0 (by simp)).1
  have r1 := (br3 1 (by simp)).1
  have f0 := (br3 0 (by simp)).2
  have f1 := (br3 1 (by simp)).2
  have hHS := HS4.out
  have HR : Hid (GivesWrite m x c w (.returned (.tuple #[.agg #[.slice (some ⟨g, 0, none⟩) 512 cg, .slice (some ⟨h, 0, none⟩) 4 ch], .int .i64 0])) ((W3.setCell ⟨w.heap.size + 1 + 1, 0, none⟩ (.slice (some ⟨g, 0, none⟩) 512 cg)).setCell ⟨w.heap.size + 1 + 1, 1, none⟩ (.slice (some ⟨h, 0, none⟩) 4 ch))) :=
    Lib.hid ⟨g, cg, h, ch, vs3, rfl, ((H3.own.far (grownBy_cell _ _ _ _) (by omega)).far (grownBy_cell _ _ _ _) (by omega)).mono (by omega), (hB3.setCell (p := ⟨w.heap.size + 1 + 1, 0, none⟩) (by simp; omega) _).setCell (p := ⟨w.heap.size + 1 + 1, 1, none⟩) (by simp; omega) _⟩
  clear hHS H3 hb3 hB3 br3 hB hb2 br bc bc2 c0 c1 HL HC m0 m1
  go_wp2
  refine bodyPost_ret (v := .tuple #[.agg #[.slice (some ⟨g, 0, none⟩) 512 cg, .slice (some ⟨h, 0, none⟩) 4 ch], .int .i64 0]) (by simp [results, Try.results19, go_sem, r0, r1]) rfl HR.out
end Go.Proofs.Ytkffeibjleiaoaa
