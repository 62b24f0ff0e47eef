/-
  Contracts: Read and Write of both caches, for any address and any cell.
-/
import Derived.Test.YtkffeibjleiaoaaRC4
namespace Go.Proofs.Ytkffeibjleiaoaa
open Go.RowKit

set_option maxHeartbeats 2000000 in
set_option maxRecDepth 20000 in
theorem cache_Read_out (a al : Option Addr) (n ca nl cl : Nat) (x : Int) (w : World) (h : ¬ (0 ≤ x ∧ x < 512)) :
    Calls Try.prog 12 #[.agg #[.slice a n ca, .slice al nl cl], .int .i64 x] w fun e w' => e = .returned (.tuple #[.agg #[.slice none 0 0, .slice none 0 0], .agg #[.int .u8 0, .int .u16 0], .int .i64 6]) ∧ Below w.heap.size w w' := by
  have g1 := World.grownBy_alloc (w.alloc (.cells #[.slice a n ca, .slice al nl cl] 31)) (.cells #[.slice none 0 0, .slice none 0 0] 31) none
  have g2 := World.grownBy_alloc ((w.alloc (.cells #[.slice a n ca, .slice al nl cl] 31)).alloc (.cells #[.slice none 0 0, .slice none 0 0] 31)) (.cells #[.int .u8 0, .int .u16 0] 25) none
  have hs1 : (w.alloc (.cells #[.slice a n ca, .slice al nl cl] 31)).heap.size = w.heap.size + 1 := by simp
  have hs2 : ((w.alloc (.cells #[.slice a n ca, .slice al nl cl] 31)).alloc (.cells #[.slice none 0 0, .slice none 0 0] 31)).heap.size = w.heap.size + 1 + 1 := by simp
  have bm := ((Blk.new (W := w) #[.slice a n ca, .slice al nl cl] 31).kept g1 (by simp)).kept g2 (by simp)
  have br := (Blk.new (W := (w.alloc (.cells #[.slice a n ca, .slice al nl cl] 31))) #[.slice none 0 0, .slice none 0 0] 31).kept g2 (by simp)
  have bc := Blk.new (W := ((w.alloc (.cells #[.slice a n ca, .slice al nl cl] 31)).alloc (.cells #[.slice none 0 0, .slice none 0 0] 31))) #[.int .u8 0, .int .u16 0] 25
  rw [hs1] at br
  rw [hs2] at bc
  have hB := Below.alloc (Below.alloc (Below.alloc (Below.refl w.heap.size w) (Nat.le_refl _) (.cells #[.slice a n ca, .slice al nl cl] 31)) (by rw [hs1]; omega) (.cells #[.slice none 0 0, .slice none 0 0] 31)) (by rw [hs2]; omega) (.cells #[.int .u8 0, .int .u16 0] 25)
  clear g1 g2 hs1 hs2
  have H := Lib.hid (fun W => cache_has_false a al n ca nl cl x W h)
  clear h
  go_enter Try.func12, Try.ntmps12
  go_upto_region 1 with fail
  generalize (((w.alloc (.cells #[.slice a n ca, .slice al nl cl] 31)).alloc (.cells #[.slice none 0 0, .slice none 0 0] 31)).alloc (.cells #[.int .u8 0, .int .u16 0] 25)) = W0 at *
  have m0 := (bm 0 (by simp)).1
  have m1 := (bm 1 (by simp)).1
  go_wp2_with fail
  refine (H.out _).mono ?_
  rintro e W1 ⟨rfl, hb1⟩
  have hB1 := hB.trans (hb1.mono hB.size)
  have br := br.later hb1
  have bc := bc.later hb1
  clear H m0 m1 hB
  have r0 := (br 0 (by simp)).1
  have r1 := (br 1 (by simp)).1
  have f0 := (br 0 (by simp)).2
  have f1 := (br 1 (by simp)).2
  have u0 := (bc 0 (by simp)).1
  have u1 := (bc 1 (by simp)).1
  have e0 := (bc 0 (by simp)).2
  have e1 := (bc 1 (by simp)).2
  have x7 : ¬ w.heap.size + 1 + 1 = w.heap.size + 1 := by omega
  have HW := Lib.hid ((((hB1.setCell (p := ⟨w.heap.size + 1, 0, none⟩) (by simp) (.slice none 0 0)).setCell (p := ⟨w.heap.size + 1, 1, none⟩) (by simp) (.slice none 0 0)).setCell (p := ⟨w.heap.size + 1 + 1, 0, none⟩) (by simp; omega) (.int .u8 0)).setCell (p := ⟨w.heap.size + 1 + 1, 1, none⟩) (by simp; omega) (.int .u16 0))
  clear br bc bm
  go_wp2
  refine bodyPost_ret (v := .tuple #[.agg #[.slice none 0 0, .slice none 0 0], .agg #[.int .u8 0, .int .u16 0], .int .i64 6]) (by simp [results, Try.results12, go_sem, r0, r1, u0, u1]) rfl ⟨rfl, HW.out⟩

set_option maxHeartbeats 2000000 in
set_option maxRecDepth 20000 in
theorem ref05_Read_out (a al : Option Addr) (n ca nl cl : Nat) (x : Int) (w : World) (h : ¬ (0 ≤ x ∧ x < 512)) :
    Calls Try.prog 13 #[.agg #[.slice a n ca, .slice al nl cl], .int .i64 x] w fun e w' => e = .returned (.tuple #[.agg #[.slice none 0 0, .slice none 0 0], .agg #[.int .u8 0, .int .u16 0], .int .i64 6]) ∧ Below w.heap.size w w' := by
  have g1 := World.grownBy_alloc (w.alloc (.cells #[.slice a n ca, .slice al nl cl] 31)) (.cells #[.slice none 0 0, .slice none 0 0] 31) none
  have g2 := World.grownBy_alloc ((w.alloc (.cells #[.slice a n ca, .slice al nl cl] 31)).alloc (.cells #[.slice none 0 0, .slice none 0 0] 31)) (.cells #[.int .u8 0, .int .u16 0] 25) none
  have hs1 : (w.alloc (.cells #[.slice a n ca, .slice al nl cl] 31)).heap.size = w.heap.size + 1 := by simp
  have hs2 : ((w.alloc (.cells #[.slice a n ca, .slice al nl cl] 31)).alloc (.cells #[.slice none 0 0, .slice none 0 0] 31)).heap.size = w.heap.size + 1 + 1 := by simp
  have bm := ((Blk.new (W := w) #[.slice a n ca, .slice al nl cl] 31).kept g1 (by simp)).kept g2 (by simp)
  have br := (Blk.new (W := (w.alloc (.cells #[.slice a n ca, .slice al nl cl] 31))) #[.slice none 0 0, .slice none 0 0] 31).kept g2 (by simp)
  have bc := Blk.new (W := ((w.alloc (.cells #[.slice a n ca, .slice al nl cl] 31)).alloc (.cells #[.slice none 0 0, .slice none 0 0] 31))) #[.int .u8 0, .int .u16 0] 25
  rw [hs1] at br
  rw [hs2] at bc
  have hB := Below.alloc (Below.alloc (Below.alloc (Below.refl w.heap.size w) (Nat.le_refl _) (.cells #[.slice a n ca, .slice al nl cl] 31)) (by rw [hs1]; omega) (.cells #[.slice none 0 0, .slice none 0 0] 31)) (by rw [hs2]; omega) (.cells #[.int .u8 0, .int .u16 0] 25)
  clear g1 g2 hs1 hs2
  go_enter Try.func13, Try.ntmps13
  go_upto_region 1 with fail
  generalize (((w.alloc (.cells #[.slice a n ca, .slice al nl cl] 31)).alloc (.cells #[.slice none 0 0, .slice none 0 0] 31)).alloc (.cells #[.int .u8 0, .int .u16 0] 25)) = W0 at *
  by_cases h0 : x < 0
  · skip
    have r0 := (br 0 (by simp)).1
    have r1 := (br 1 (by simp)).1
    have f0 := (br 0 (by simp)).2
    have f1 := (br 1 (by simp)).2
    have u0 := (bc 0 (by simp)).1
    have u1 := (bc 1 (by simp)).1
    have e0 := (bc 0 (by simp)).2
    have e1 := (bc 1 (by simp)).2
    have x7 : ¬ w.heap.size + 1 + 1 = w.heap.size + 1 := by omega
    have HW := Lib.hid ((((hB.setCell (p := ⟨w.heap.size + 1, 0, none⟩) (by simp) (.slice none 0 0)).setCell (p := ⟨w.heap.size + 1, 1, none⟩) (by simp) (.slice none 0 0)).setCell (p := ⟨w.heap.size + 1 + 1, 0, none⟩) (by simp; omega) (.int .u8 0)).setCell (p := ⟨w.heap.size + 1 + 1, 1, none⟩) (by simp; omega) (.int .u16 0))
    clear br bc bm
    go_wp2
    refine bodyPost_ret (v := .tuple #[.agg #[.slice none 0 0, .slice none 0 0], .agg #[.int .u8 0, .int .u16 0], .int .i64 6]) (by simp [results, Try.results13, go_sem, r0, r1, u0, u1]) rfl ⟨rfl, HW.out⟩
  · have h1 : (512 : Int) ≤ x := by omega
    have r0 := (br 0 (by simp)).1
    have r1 := (br 1 (by simp)).1
    have f0 := (br 0 (by simp)).2
    have f1 := (br 1 (by simp)).2
    have u0 := (bc 0 (by simp)).1
    have u1 := (bc 1 (by simp)).1
    have e0 := (bc 0 (by simp)).2
    have e1 := (bc 1 (by simp)).2
    have x7 : ¬ w.heap.size + 1 + 1 = w.heap.size + 1 := by omega
    have HW := Lib.hid ((((hB.setCell (p := ⟨w.heap.size + 1, 0, none⟩) (by simp) (.slice none 0 0)).setCell (p := ⟨w.heap.size + 1, 1, none⟩) (by simp) (.slice none 0 0)).setCell (p := ⟨w.heap.size + 1 + 1, 0, none⟩) (by simp; omega) (.int .u8 0)).setCell (p := ⟨w.heap.size + 1 + 1, 1, none⟩) (by simp; omega) (.int .u16 0))
    clear br bc bm
    go_wp2
    refine bodyPost_ret (v := .tuple #[.agg #[.slice none 0 0, .slice none 0 0], .agg #[.int .u8 0, .int .u16 0], .int .i64 6]) (by simp [results, Try.results13, go_sem, r0, r1, u0, u1]) rfl ⟨rfl, HW.out⟩

set_option maxHeartbeats 2000000 in
set_option maxRecDepth 20000 in
theorem cache_Write_bad (a al : Option Addr) (n ca nl cl : Nat) (x : Int) (c : Nat × Nat) (w : World) (h1 : c.1 < 256) (h2 : ¬ c.1 ≤ 2) :
    Calls Try.prog 18 #[.agg #[.slice a n ca, .slice al nl cl], .int .i64 x, .agg #[.int .u8 (c.1 : Int), .int .u16 (c.2 : Int)]] w fun e w' => e = .returned (.tuple #[.agg #[.slice none 0 0, .slice none 0 0], .int .i64 1]) ∧ Below w.heap.size w w' := by
  have g1 := World.grownBy_alloc (w.alloc (.cells #[.slice a n ca, .slice al nl cl] 31)) (.cells #[.int .u8 (c.1 : Int), .int .u16 (c.2 : Int)] 25) none
  have g2 := World.grownBy_alloc ((w.alloc (.cells #[.slice a n ca, .slice al nl cl] 31)).alloc (.cells #[.int .u8 (c.1 : Int), .int .u16 (c.2 : Int)] 25)) (.cells #[.slice none 0 0, .slice none 0 0] 31) none
  have hs1 : (w.alloc (.cells #[.slice a n ca, .slice al nl cl] 31)).heap.size = w.heap.size + 1 := by simp
  have hs2 : ((w.alloc (.cells #[.slice a n ca, .slice al nl cl] 31)).alloc (.cells #[.int .u8 (c.1 : Int), .int .u16 (c.2 : Int)] 25)).heap.size = w.heap.size + 1 + 1 := by simp
  have bm := ((Blk.new (W := w) #[.slice a n ca, .slice al nl cl] 31).kept g1 (by simp)).kept g2 (by simp)
  have bc := (Blk.new (W := (w.alloc (.cells #[.slice a n ca, .slice al nl cl] 31))) #[.int .u8 (c.1 : Int), .int .u16 (c.2 : Int)] 25).kept g2 (by simp)
  have br := Blk.new (W := ((w.alloc (.cells #[.slice a n ca, .slice al nl cl] 31)).alloc (.cells #[.int .u8 (c.1 : Int), .int .u16 (c.2 : Int)] 25))) #[.slice none 0 0, .slice none 0 0] 31
  rw [hs1] at bc
  rw [hs2] at br
  have hB := Below.alloc (Below.alloc (Below.alloc (Below.refl w.heap.size w) (Nat.le_refl _) (.cells #[.slice a n ca, .slice al nl cl] 31)) (by rw [hs1]; omega) (.cells #[.int .u8 (c.1 : Int), .int .u16 (c.2 : Int)] 25)) (by rw [hs2]; omega) (.cells #[.slice none 0 0, .slice none 0 0] 31)
  clear g1 g2 hs1 hs2
  have HV := Lib.hid (fun W => word_Valid (c.1 : Int) (c.2 : Int) W (by omega) (by omega))
  have hd : (decide ((c.1 : Int) ≤ 2)) = false := decide_eq_false (by omega)
  rw [hd] at HV
  clear hd h1 h2 bm
  go_enter Try.func18, Try.ntmps18
  go_upto_region 1 with fail
  generalize (((w.alloc (.cells #[.slice a n ca, .slice al nl cl] 31)).alloc (.cells #[.int .u8 (c.1 : Int), .int .u16 (c.2 : Int)] 25)).alloc (.cells #[.slice none 0 0, .slice none 0 0] 31)) = W0 at *
  have c0 := (bc 0 (by simp)).1
  have c1 := (bc 1 (by simp)).1
  go_wp2_with fail
  refine (HV.out _).mono ?_
  rintro e W1 ⟨rfl, hb1⟩
  have hB1 := hB.trans (hb1.mono hB.size)
  have br := br.later hb1
  clear c0 c1 bc HV hB
  have r0 := (br 0 (by simp)).1
  have r1 := (br 1 (by simp)).1
  have f0 := (br 0 (by simp)).2
  have f1 := (br 1 (by simp)).2
  have HW := Lib.hid ((hB1.setCell (p := ⟨w.heap.size + 1 + 1, 0, none⟩) (by simp; omega) (.slice none 0 0)).setCell (p := ⟨w.heap.size + 1 + 1, 1, none⟩) (by simp; omega) (.slice none 0 0))
  clear br
  go_wp2
  refine bodyPost_ret (v := .tuple #[.agg #[.slice none 0 0, .slice none 0 0], .int .i64 1]) (by simp [results, Try.results18, go_sem, r0, r1]) rfl ⟨rfl, HW.out⟩

set_option maxHeartbeats 2000000 in
set_option maxRecDepth 20000 in
theorem cache_Write_out (a al : Option Addr) (n ca nl cl : Nat) (x : Int) (c : Nat × Nat) (w : World) (h : ¬ (0 ≤ x ∧ x < 512)) (h2 : c.1 ≤ 2) :
    Calls Try.prog 18 #[.agg #[.slice a n ca, .slice al nl cl], .int .i64 x, .agg #[.int .u8 (c.1 : Int), .int .u16 (c.2 : Int)]] w fun e w' => e = .returned (.tuple #[.agg #[.slice none 0 0, .slice none 0 0], .int .i64 6]) ∧ Below w.heap.size w w' := by
  have g1 := World.grownBy_alloc (w.alloc (.cells #[.slice a n ca, .slice al nl cl] 31)) (.cells #[.int .u8 (c.1 : Int), .int .u16 (c.2 : Int)] 25) none
  have g2 := World.grownBy_alloc ((w.alloc (.cells #[.slice a n ca, .slice al nl cl] 31)).alloc (.cells #[.int .u8 (c.1 : Int), .int .u16 (c.2 : Int)] 25)) (.cells #[.slice none 0 0, .slice none 0 0] 31) none
  have hs1 : (w.alloc (.cells #[.slice a n ca, .slice al nl cl] 31)).heap.size = w.heap.size + 1 := by simp
  have hs2 : ((w.alloc (.cells #[.slice a n ca, .slice al nl cl] 31)).alloc (.cells #[.int .u8 (c.1 : Int), .int .u16 (c.2 : Int)] 25)).heap.size = w.heap.size + 1 + 1 := by simp
  have bm := ((Blk.new (W := w) #[.slice a n ca, .slice al nl cl] 31).kept g1 (by simp)).kept g2 (by simp)
  have bc := (Blk.new (W := (w.alloc (.cells #[.slice a n ca, .slice al nl cl] 31))) #[.int .u8 (c.1 : Int), .int .u16 (c.2 : Int)] 25).kept g2 (by simp)
  have br := Blk.new (W := ((w.alloc (.cells #[.slice a n ca, .slice al nl cl] 31)).alloc (.cells #[.int .u8 (c.1 : Int), .int .u16 (c.2 : Int)] 25))) #[.slice none 0 0, .slice none 0 0] 31
  rw [hs1] at bc
  rw [hs2] at br
  have hB := Below.alloc (Below.alloc (Below.alloc (Below.refl w.heap.size w) (Nat.le_refl _) (.cells #[.slice a n ca, .slice al nl cl] 31)) (by rw [hs1]; omega) (.cells #[.int .u8 (c.1 : Int), .int .u16 (c.2 : Int)] 25)) (by rw [hs2]; omega) (.cells #[.slice none 0 0, .slice none 0 0] 31)
  clear g1 g2 hs1 hs2
  have HV := Lib.hid (fun W => word_Valid (c.1 : Int) (c.2 : Int) W (by omega) (by omega))
  have hd : (decide ((c.1 : Int) ≤ 2)) = true := decide_eq_true (by omega)
  rw [hd] at HV
  have H := Lib.hid (fun W => cache_has_false a al n ca nl cl x W h)
  have HX := Lib.hid h
  clear hd h2 h
  go_enter Try.func18, Try.ntmps18
  go_upto_region 1 with fail
  generalize (((w.alloc (.cells #[.slice a n ca, .slice al nl cl] 31)).alloc (.cells #[.int .u8 (c.1 : Int), .int .u16 (c.2 : Int)] 25)).alloc (.cells #[.slice none 0 0, .slice none 0 0] 31)) = W0 at *
  have c0 := (bc 0 (by simp)).1
  have c1 := (bc 1 (by simp)).1
  go_wp2_with fail
  refine (HV.out _).mono ?_
  rintro e W1 ⟨rfl, hb1⟩
  have bm1 := bm.later hb1
  have m0 := (bm1 0 (by simp)).1
  have m1 := (bm1 1 (by simp)).1
  go_wp2_with fail
  refine (H.out _).mono ?_
  rintro e W2 ⟨rfl, hb2⟩
  have hb2 := hb1.trans (hb2.mono hb1.size)
  have hB1 := hB.trans (hb2.mono hB.size)
  have br := br.later hb2
  clear c0 c1 m0 m1 bm bm1 bc H HV hB
  have r0 := (br 0 (by simp)).1
  have r1 := (br 1 (by simp)).1
  have f0 := (br 0 (by simp)).2
  have f1 := (br 1 (by simp)).2
  have HW := Lib.hid ((hB1.setCell (p := ⟨w.heap.size + 1 + 1, 0, none⟩) (by simp; omega) (.slice none 0 0)).setCell (p := ⟨w.heap.size + 1 + 1, 1, none⟩) (by simp; omega) (.slice none 0 0))
  clear br
  go_wp2
  refine bodyPost_ret (v := .tuple #[.agg #[.slice none 0 0, .slice none 0 0], .int .i64 6]) (by simp [results, Try.results18, go_sem, r0, r1]) rfl ⟨rfl, HW.out⟩

set_option maxHeartbeats 2000000 in
set_option maxRecDepth 20000 in
theorem ref05_Write_bad (a al : Option Addr) (n ca nl cl : Nat) (x : Int) (c : Nat × Nat) (w : World) (h1 : c.1 < 256) (h2 : ¬ c.1 ≤ 2) :
    Calls Try.prog 19 #[.agg #[.slice a n ca, .slice al nl cl], .int .i64 x, .agg #[.int .u8 (c.1 : Int), .int .u16 (c.2 : Int)]] w fun e w' => e = .returned (.tuple #[.agg #[.slice none 0 0, .slice none 0 0], .int .i64 1]) ∧ Below w.heap.size w w' := by
  have g1 := World.grownBy_alloc (w.alloc (.cells #[.slice a n ca, .slice al nl cl] 31)) (.cells #[.int .u8 (c.1 : Int), .int .u16 (c.2 : Int)] 25) none
  have g2 := World.grownBy_alloc ((w.alloc (.cells #[.slice a n ca, .slice al nl cl] 31)).alloc (.cells #[.int .u8 (c.1 : Int), .int .u16 (c.2 : Int)] 25)) (.cells #[.slice none 0 0, .slice none 0 0] 31) none
  have hs1 : (w.alloc (.cells #[.slice a n ca, .slice al nl cl] 31)).heap.size = w.heap.size + 1 := by simp
  have hs2 : ((w.alloc (.cells #[.slice a n ca, .slice al nl cl] 31)).alloc (.cells #[.int .u8 (c.1 : Int), .int .u16 (c.2 : Int)] 25)).heap.size = w.heap.size + 1 + 1 := by simp
  have bm := ((Blk.new (W := w) #[.slice a n ca, .slice al nl cl] 31).kept g1 (by simp)).kept g2 (by simp)
  have bc := (Blk.new (W := (w.alloc (.cells #[.slice a n ca, .slice al nl cl] 31))) #[.int .u8 (c.1 : Int), .int .u16 (c.2 : Int)] 25).kept g2 (by simp)
  have br := Blk.new (W := ((w.alloc (.cells #[.slice a n ca, .slice al nl cl] 31)).alloc (.cells #[.int .u8 (c.1 : Int), .int .u16 (c.2 : Int)] 25))) #[.slice none 0 0, .slice none 0 0] 31
  rw [hs1] at bc
  rw [hs2] at br
  have hB := Below.alloc (Below.alloc (Below.alloc (Below.refl w.heap.size w) (Nat.le_refl _) (.cells #[.slice a n ca, .slice al nl cl] 31)) (by rw [hs1]; omega) (.cells #[.int .u8 (c.1 : Int), .int .u16 (c.2 : Int)] 25)) (by rw [hs2]; omega) (.cells #[.slice none 0 0, .slice none 0 0] 31)
  clear g1 g2 hs1 hs2
  have HV := Lib.hid (fun W => ref01_Valid (c.1 : Int) (c.2 : Int) W (by omega) (by omega))
  have hd : (decide ((c.1 : Int) ≤ 2)) = false := decide_eq_false (by omega)
  rw [hd] at HV
  clear hd h1 h2 bm
  go_enter Try.func19, Try.ntmps19
  go_upto_region 1 with fail
  generalize (((w.alloc (.cells #[.slice a n ca, .slice al nl cl] 31)).alloc (.cells #[.int .u8 (c.1 : Int), .int .u16 (c.2 : Int)] 25)).alloc (.cells #[.slice none 0 0, .slice none 0 0] 31)) = W0 at *
  have c0 := (bc 0 (by simp)).1
  have c1 := (bc 1 (by simp)).1
  go_wp2_with fail
  refine (HV.out _).mono ?_
  rintro e W1 ⟨rfl, hb1⟩
  have hB1 := hB.trans (hb1.mono hB.size)
  have br := br.later hb1
  clear c0 c1 bc HV hB
  have r0 := (br 0 (by simp)).1
  have r1 := (br 1 (by simp)).1
  have f0 := (br 0 (by simp)).2
  have f1 := (br 1 (by simp)).2
  have HW := Lib.hid ((hB1.setCell (p := ⟨w.heap.size + 1 + 1, 0, none⟩) (by simp; omega) (.slice none 0 0)).setCell (p := ⟨w.heap.size + 1 + 1, 1, none⟩) (by simp; omega) (.slice none 0 0))
  clear br
  go_wp2
  refine bodyPost_ret (v := .tuple #[.agg #[.slice none 0 0, .slice none 0 0], .int .i64 1]) (by simp [results, Try.results19, go_sem, r0, r1]) rfl ⟨rfl, HW.out⟩

set_option maxHeartbeats 2000000 in
set_option maxRecDepth 20000 in
theorem ref05_Write_out (a al : Option Addr) (n ca nl cl : Nat) (x : Int) (c : Nat × Nat) (w : World) (h : ¬ (0 ≤ x ∧ x < 512)) (h2 : c.1 ≤ 2) :
    Calls Try.prog 19 #[.agg #[.slice a n ca, .slice al nl cl], .int .i64 x, .agg #[.int .u8 (c.1 : Int), .int .u16 (c.2 : Int)]] w fun e w' => e = .returned (.tuple #[.agg #[.slice none 0 0, .slice none 0 0], .int .i64 6]) ∧ Below w.heap.size w w' := by
  have g1 := World.grownBy_alloc (w.alloc (.cells #[.slice a n ca, .slice al nl cl] 31)) (.cells #[.int .u8 (c.1 : Int), .int .u16 (c.2 : Int)] 25) none
  have g2 := World.grownBy_alloc ((w.alloc (.cells #[.slice a n ca, .slice al nl cl] 31)).alloc (.cells #[.int .u8 (c.1 : Int), .int .u16 (c.2 : Int)] 25)) (.cells #[.slice none 0 0, .slice none 0 0] 31) none
  have hs1 : (w.alloc (.cells #[.slice a n ca, .slice al nl cl] 31)).heap.size = w.heap.size + 1 := by simp
  have hs2 : ((w.alloc (.cells #[.slice a n ca, .slice al nl cl] 31)).alloc (.cells #[.int .u8 (c.1 : Int), .int .u16 (c.2 : Int)] 25)).heap.size = w.heap.size + 1 + 1 := by simp
  have bm := ((Blk.new (W := w) #[.slice a n ca, .slice al nl cl] 31).kept g1 (by simp)).kept g2 (by simp)
  have bc := (Blk.new (W := (w.alloc (.cells #[.slice a n ca, .slice al nl cl] 31))) #[.int .u8 (c.1 : Int), .int .u16 (c.2 : Int)] 25).kept g2 (by simp)
  have br := Blk.new (W := ((w.alloc (.cells #[.slice a n ca, .slice al nl cl] 31)).alloc (.cells #[.int .u8 (c.1 : Int), .int .u16 (c.2 : Int)] 25))) #[.slice none 0 0, .slice none 0 0] 31
  rw [hs1] at bc
  rw [hs2] at br
  have hB := Below.alloc (Below.alloc (Below.alloc (Below.refl w.heap.size w) (Nat.le_refl _) (.cells #[.slice a n ca, .slice al nl cl] 31)) (by rw [hs1]; omega) (.cells #[.int .u8 (c.1 : Int), .int .u16 (c.2 : Int)] 25)) (by rw [hs2]; omega) (.cells #[.slice none 0 0, .slice none 0 0] 31)
  clear g1 g2 hs1 hs2
  have HV := Lib.hid (fun W => ref01_Valid (c.1 : Int) (c.2 : Int) W (by omega) (by omega))
  have hd : (decide ((c.1 : Int) ≤ 2)) = true := decide_eq_true (by omega)
  rw [hd] at HV
  have H := Lib.hid (fun W => cache_has_false a al n ca nl cl x W h)
  have HX := Lib.hid h
  clear hd h2 h
  go_enter Try.func19, Try.ntmps19
  go_upto_region 1 with fail
  generalize (((w.alloc (.cells #[.slice a n ca, .slice al nl cl] 31)).alloc (.cells #[.int .u8 (c.1 : Int), .int .u16 (c.2 : Int)] 25)).alloc (.cells #[.slice none 0 0, .slice none 0 0] 31)) = W0 at *
  have c0 := (bc 0 (by simp)).1
  have c1 := (bc 1 (by simp)).1
  by_cases h0 : x < 0
  · go_wp2_with fail
    refine (HV.out _).mono ?_
    rintro e W1 ⟨rfl, hb1⟩
    have hB1 := hB.trans (hb1.mono hB.size)
    have br := br.later hb1
    clear c0 c1 bm bc H HV hB
    have r0 := (br 0 (by simp)).1
    have r1 := (br 1 (by simp)).1
    have f0 := (br 0 (by simp)).2
    have f1 := (br 1 (by simp)).2
    have HW := Lib.hid ((hB1.setCell (p := ⟨w.heap.size + 1 + 1, 0, none⟩) (by simp; omega) (.slice none 0 0)).setCell (p := ⟨w.heap.size + 1 + 1, 1, none⟩) (by simp; omega) (.slice none 0 0))
    clear br
    go_wp2
    refine bodyPost_ret (v := .tuple #[.agg #[.slice none 0 0, .slice none 0 0], .int .i64 6]) (by simp [results, Try.results19, go_sem, r0, r1]) rfl ⟨rfl, HW.out⟩
  · have h1 : (512 : Int) ≤ x := by have := HX.out; omega
    go_wp2_with fail
    refine (HV.out _).mono ?_
    rintro e W1 ⟨rfl, hb1⟩
    have hB1 := hB.trans (hb1.mono hB.size)
    have br := br.later hb1
    clear c0 c1 bm bc H HV hB
    have r0 := (br 0 (by simp)).1
    have r1 := (br 1 (by simp)).1
    have f0 := (br 0 (by simp)).2
    have f1 := (br 1 (by simp)).2
    have HW := Lib.hid ((hB1.setCell (p := ⟨w.heap.size + 1 + 1, 0, none⟩) (by simp; omega) (.slice none 0 0)).setCell (p := ⟨w.heap.size + 1 + 1, 1, none⟩) (by simp; omega) (.slice none 0 0))
    clear br
    go_wp2
    refine bodyPost_ret (v := .tuple #[.agg #[.slice none 0 0, .slice none 0 0], .int .i64 6]) (by simp [results, Try.results19, go_sem, r0, r1]) rfl ⟨rfl, HW.out⟩

/-- Words and lines that may be none. -/
def MemR (w : World) (a : Option Addr) (na : Nat) (al : Option Addr) (nl : Nat) : Option Mem → Prop
  | some m => na = 512 ∧ nl = 4 ∧ MemAt w a al m
  | none => na = 0 ∧ nl = 0

theorem MemR.later {w w' : World} {a al : Option Addr} {na nl : Nat} {o : Option Mem} (h : MemR w a na al nl o) (hb : Below w.heap.size w w') : MemR w' a na al nl o := by
  cases o with
  | none => exact h
  | some m => exact ⟨h.1, h.2.1, h.2.2.later hb⟩

def rdO (m : Mem) (x : Int) : Option Mem := if 0 ≤ x ∧ x < 512 then some (fetchM m (x.toNat / 4)) else none
def wrO (m : Mem) (x : Int) (c : Nat × Nat) : Option Mem := if c.1 ≤ 2 then if 0 ≤ x ∧ x < 512 then some (writeM m x.toNat c) else none else none
def wrE (x : Int) (c : Nat × Nat) : Int := if c.1 ≤ 2 then if 0 ≤ x ∧ x < 512 then 0 else 6 else 1

def GivesR (m : Mem) (x : Int) (w : World) (e : Ending) (w' : World) : Prop :=
  ∃ a na ca al nl cl, e = .returned (.tuple #[.agg #[.slice a na ca, .slice al nl cl], .agg #[.int .u8 ((seeV m x).1 : Int), .int .u16 ((seeV m x).2 : Int)], .int .i64 (rngE x)]) ∧ MemR w' a na al nl (rdO m x) ∧ Below w.heap.size w w'

def GivesW (m : Mem) (x : Int) (c : Nat × Nat) (w : World) (e : Ending) (w' : World) : Prop :=
  ∃ a na ca al nl cl, e = .returned (.tuple #[.agg #[.slice a na ca, .slice al nl cl], .int .i64 (wrE x c)]) ∧ MemR w' a na al nl (wrO m x c) ∧ Below w.heap.size w w'

theorem givesR_in {m : Mem} {x : Nat} (hx : x < 512) {w w' : World} {e : Ending} (h : GivesRead m x w e w') : GivesR m (x : Int) w e w' := by
  obtain ⟨g, cg, h, ch, vs, he, hO, hb⟩ := h
  refine ⟨some ⟨g, 0, none⟩, 512, cg, some ⟨h, 0, none⟩, 4, ch, ?_, ?_, hb⟩
  · rw [(see_in m hx).1, (see_in m hx).2]; exact he
  · unfold rdO; rw [if_pos (by omega), Int.toNat_natCast]; exact ⟨rfl, rfl, hO.at⟩

theorem givesR_out {m : Mem} {x : Int} (hx : ¬ (0 ≤ x ∧ x < 512)) {w w' : World} {e : Ending} (h : e = .returned (.tuple #[.agg #[.slice none 0 0, .slice none 0 0], .agg #[.int .u8 0, .int .u16 0], .int .i64 6]) ∧ Below w.heap.size w w') : GivesR m x w e w' := by
  refine ⟨none, 0, 0, none, 0, 0, ?_, ?_, h.2⟩
  · rw [(see_out m hx).1, (see_out m hx).2]; exact h.1
  · unfold rdO; rw [if_neg hx]; exact ⟨rfl, rfl⟩

theorem givesW_in {m : Mem} {x : Nat} {c : Nat × Nat} (hx : x < 512) (hc : c.1 ≤ 2) {w w' : World} {e : Ending} (h : GivesWrite m x c w e w') : GivesW m (x : Int) c w e w' := by
  obtain ⟨g, cg, h, ch, vs, he, hO, hb⟩ := h
  refine ⟨some ⟨g, 0, none⟩, 512, cg, some ⟨h, 0, none⟩, 4, ch, ?_, ?_, hb⟩
  · unfold wrE; rw [if_pos hc, if_pos (by omega)]; exact he
  · unfold wrO; rw [if_pos hc, if_pos (by omega), Int.toNat_natCast]; exact ⟨rfl, rfl, hO.at⟩

theorem givesW_out {m : Mem} {x : Int} {c : Nat × Nat} (hx : ¬ (0 ≤ x ∧ x < 512)) (hc : c.1 ≤ 2) {w w' : World} {e : Ending} (h : e = .returned (.tuple #[.agg #[.slice none 0 0, .slice none 0 0], .int .i64 6]) ∧ Below w.heap.size w w') : GivesW m x c w e w' := by
  refine ⟨none, 0, 0, none, 0, 0, ?_, ?_, h.2⟩
  · unfold wrE; rw [if_pos hc, if_neg hx]; exact h.1
  · unfold wrO; rw [if_pos hc, if_neg hx]; exact ⟨rfl, rfl⟩

theorem givesW_bad {m : Mem} {x : Int} {c : Nat × Nat} (hc : ¬ c.1 ≤ 2) {w w' : World} {e : Ending} (h : e = .returned (.tuple #[.agg #[.slice none 0 0, .slice none 0 0], .int .i64 1]) ∧ Below w.heap.size w w') : GivesW m x c w e w' := by
  refine ⟨none, 0, 0, none, 0, 0, ?_, ?_, h.2⟩
  · unfold wrE; rw [if_neg hc]; exact h.1
  · unfold wrO; rw [if_neg hc]; exact ⟨rfl, rfl⟩

theorem cache_Read (a al : Option Addr) (ca cl : Nat) (m : Mem) (x : Int) (w : World) (hM : MemAt w a al m) (hV : MV m) :
    Calls Try.prog 12 #[.agg #[.slice a 512 ca, .slice al 4 cl], .int .i64 x] w (GivesR m x w) := by
  by_cases h : 0 ≤ x ∧ x < 512
  · obtain ⟨k, rfl⟩ : ∃ k : Nat, x = (k : Int) := ⟨x.toNat, by omega⟩
    exact (cache_Read_in a al ca cl m k w hM hV (by omega)).mono fun e w' h => givesR_in (by omega) h
  · exact (cache_Read_out a al 512 ca 4 cl x w h).mono fun e w' h2 => givesR_out h h2

theorem cache_Write (a al : Option Addr) (ca cl : Nat) (m : Mem) (x : Int) (c : Nat × Nat) (w : World) (hM : MemAt w a al m) (hV : MV m) (h1 : c.1 < 256) (h2 : c.2 < 65536) :
    Calls Try.prog 18 #[.agg #[.slice a 512 ca, .slice al 4 cl], .int .i64 x, .agg #[.int .u8 (c.1 : Int), .int .u16 (c.2 : Int)]] w (GivesW m x c w) := by
  by_cases hc : c.1 ≤ 2
  · by_cases h : 0 ≤ x ∧ x < 512
    · obtain ⟨k, rfl⟩ : ∃ k : Nat, x = (k : Int) := ⟨x.toNat, by omega⟩
      exact (cache_Write_in a al ca cl m k c w hM hV (by omega) ⟨hc, h2⟩).mono fun e w' h => givesW_in (by omega) hc h
    · exact (cache_Write_out a al 512 ca 4 cl x c w h hc).mono fun e w' h2 => givesW_out h hc h2
  · exact (cache_Write_bad a al 512 ca 4 cl x c w h1 hc).mono fun e w' h2 => givesW_bad hc h2

theorem ref05_Read (a al : Option Addr) (ca cl : Nat) (m : Mem) (x : Int) (w : World) (hM : MemAt w a al m) (hV : MV m) :
    Calls Try.prog 13 #[.agg #[.slice a 512 ca, .slice al 4 cl], .int .i64 x] w (GivesR m x w) := by
  by_cases h : 0 ≤ x ∧ x < 512
  · obtain ⟨k, rfl⟩ : ∃ k : Nat, x = (k : Int) := ⟨x.toNat, by omega⟩
    exact (ref05_Read_in a al ca cl m k w hM hV (by omega)).mono fun e w' h => givesR_in (by omega) h
  · exact (ref05_Read_out a al 512 ca 4 cl x w h).mono fun e w' h2 => givesR_out h h2

theorem ref05_Write (a al : Option Addr) (ca cl : Nat) (m : Mem) (x : Int) (c : Nat × Nat) (w : World) (hM : MemAt w a al m) (hV : MV m) (h1 : c.1 < 256) (h2 : c.2 < 65536) :
    Calls Try.prog 19 #[.agg #[.slice a 512 ca, .slice al 4 cl], .int .i64 x, .agg #[.int .u8 (c.1 : Int), .int .u16 (c.2 : Int)]] w (GivesW m x c w) := by
  by_cases hc : c.1 ≤ 2
  · by_cases h : 0 ≤ x ∧ x < 512
    · obtain ⟨k, rfl⟩ : ∃ k : Nat, x = (k : Int) := ⟨x.toNat, by omega⟩
      exact (ref05_Write_in a al ca cl m k c w hM hV (by omega) ⟨hc, h2⟩).mono fun e w' h => givesW_in (by omega) hc h
    · exact (ref05_Write_out a al 512 ca 4 cl x c w h hc).mono fun e w' h2 => givesW_out h hc h2
  · exact (ref05_Write_bad a al 512 ca 4 cl x c w h1 hc).mono fun e w' h2 => givesW_bad hc h2
end Go.Proofs.Ytkffeibjleiaoaa
