/-
  Contracts: Look and See of the document's own cache; Read and Write for any address and any cell, both the program's and the document's.
-/
import Derived.Test.YtkffeibjleiaoaaRC3
namespace Go.Proofs.Ytkffeibjleiaoaa
open Go.RowKit

set_option maxHeartbeats 2000000 in
theorem ref05_Look (a al : Option Addr) (ca cl : Nat) (m : Mem) (x : Nat) (w : World) (hM : MemAt w a al m) (hV : MV m) (hx : x < 512) :
    Calls Try.prog 34 #[.agg #[.slice a 512 ca, .slice al 4 cl], .int .i64 (x : Int)] w fun e w' => e = .returned (.agg #[.int .u8 ((lookM m x).1 : Int), .int .u16 ((lookM m x).2 : Int)]) ∧ Below w.heap.size w w' := by
  have bm := (Blk.new (W := w) #[.slice a 512 ca, .slice al 4 cl] 31).kept (World.grownBy_alloc (w.alloc (.cells #[.slice a 512 ca, .slice al 4 cl] 31)) (.cells #[.int .u8 0, .int .u16 0] 25) none) (by simp)
  have bc := Blk.new (W := w.alloc (.cells #[.slice a 512 ca, .slice al 4 cl] 31)) #[.int .u8 0, .int .u16 0] 25
  have hs1 : (w.alloc (.cells #[.slice a 512 ca, .slice al 4 cl] 31)).heap.size = w.heap.size + 1 := by simp
  rw [hs1] at bc
  have hB := Below.alloc (Below.alloc (Below.refl w.heap.size w) (Nat.le_refl _) (.cells #[.slice a 512 ca, .slice al 4 cl] 31)) (by rw [hs1]; omega) (.cells #[.int .u8 0, .int .u16 0] 25)
  have hs2 : ((w.alloc (.cells #[.slice a 512 ca, .slice al 4 cl] 31)).alloc (.cells #[.int .u8 0, .int .u16 0] 25)).heap.size = w.heap.size + 2 := by simp
  have hM0 := hM.later hB
  obtain ⟨n, hn⟩ : ∃ n, x / 4 = n := ⟨_, rfl⟩
  obtain ⟨k, hk⟩ : ∃ k, n % 4 = k := ⟨_, rfl⟩
  obtain ⟨j, hj⟩ : ∃ j, x % 4 = j := ⟨_, rfl⟩
  have n1 : (x : Int) / 4 = (n : Int) := by omega
  have n2 : (n : Int) % 4 = (k : Int) := by omega
  have n3 : (x : Int) % 4 = (j : Int) := by omega
  have hk4 : k < 4 := by omega
  have hj4 : j < 4 := by omega
  have h5 := hV.len
  have hkl : k < m.lines.length := by have := hV.lines; omega
  obtain ⟨b, o, rfl, hc⟩ := hM0.2.some hkl
  obtain ⟨c0, c1, a2, k2, c2, hcx⟩ := hc k hkl
  have hL : lineM m n = m.lines[k] := by unfold lineM; rw [hk, getD_in _ _ hkl]
  have ht := (hV.line n).tag
  have hlook : lookM m x = if (lineM m n).tag = (n : Int) then (lineM m n).cells.getD j (0, 0) else m.cells.getD x (0, 0) := by unfold lookM; rw [hn, hj]
  rw [← hL] at c0 c1 c2 hcx
  have HM := Lib.hid hM0.1
  have H5 := Lib.hid h5
  have HT := Lib.hid ht
  have HK := Lib.hid hlook
  have HN := Lib.hid (And.intro hn (And.intro hk hj))
  have HS2 := Lib.hid hs2
  clear hs2 hL hc hkl h5 hM0 ht hlook hn hk hj hs1 hM
  generalize lineM m n = l at *
  generalize lookM m x = r at *
  go_enter Try.func34, Try.ntmps34
  go_upto_region 1 with fail
  generalize (w.alloc (.cells #[.slice a 512 ca, .slice (some ⟨b, o, none⟩) 4 cl] 31)).alloc (.cells #[.int .u8 0, .int .u16 0] 25) = W0 at *
  have m0 := (bm 0 (by simp)).1
  have m1 := (bm 1 (by simp)).1
  have i1 : (k : Int) < 4 := by omega
  have i2 : 0 ≤ (k : Int) := by omega
  have i3 : 0 ≤ (j : Int) := by omega
  have i4 : 0 ≤ (x : Int) := by omega
  have i5 : (x : Int) < 512 := by omega
  have hA := Below.alloc (Below.refl W0.heap.size W0) (Nat.le_refl _) (.cells #[.int .i64 l.tag, .bool l.dirty, .slice a2 l.cells.length k2] 53)
  have bl := Blk.new (W := W0) #[.int .i64 l.tag, .bool l.dirty, .slice a2 l.cells.length k2] 53
  go_upto_region 3 with fail
  clear c0 c1 c2 m0 m1
  generalize W0.alloc (.cells #[.int .i64 l.tag, .bool l.dirty, .slice a2 l.cells.length k2] 53) = W1 at *
  have hB1 := hB.trans (hA.mono (by have := HS2.out; omega))
  have bm1 := bm.later hA
  have bc1 := bc.later hA
  have m0 := (bm1 0 (by simp)).1
  have r0 := (bc1 0 (by simp)).1
  have r1 := (bc1 1 (by simp)).1
  have f0 := (bc1 0 (by simp)).2
  have f1 := (bc1 1 (by simp)).2
  have l0 := (bl 0 (by simp)).1
  have l2 := (bl 2 (by simp)).1
  have HW := Lib.hid (fun (r : Nat × Nat) => (hB1.setCell (p := ⟨w.heap.size + 1, 0, none⟩) (by simp) (.int .u8 (r.1 : Int))).setCell (p := ⟨w.heap.size + 1, 1, none⟩) (by simp) (.int .u16 (r.2 : Int)))
  by_cases hh : l.tag = (n : Int)
  · have g0 : (l.tag == (n : Int)) = true := by rw [beq_iff_eq]; exact hh
    have hr := HK.out
    rw [if_pos hh] at hr
    have hlen : l.cells.length = 4 := by
      rcases HT.out with ⟨h1, _⟩ | ⟨_, _, _, _, h1⟩
      · omega
      · exact h1
    have hjl : j < l.cells.length := by omega
    rw [getD_in _ _ hjl] at hr
    obtain ⟨b2, o2, rfl, hc⟩ := (hcx.later hA).some hjl
    obtain ⟨d0, d1⟩ := hc j hjl
    rw [← hr] at d0 d1
    have j1 : (j : Int) < (l.cells.length : Int) := by omega
    clear hc hcx hr hlen HK hh hB bm bc bl hA hB1 bm1 bc1 m0 HM
    go_wp2
    refine bodyPost_ret (v := .agg #[.int .u8 (r.1 : Int), .int .u16 (r.2 : Int)]) (by simp [results, Try.results34, go_sem, r0, r1]) rfl ⟨rfl, HW.out r⟩
  · have g0 : (l.tag == (n : Int)) = false := by rw [beq_eq_false_iff_ne]; exact hh
    have hr := HK.out
    rw [if_neg hh] at hr
    have hxl : x < m.cells.length := by have := H5.out; omega
    rw [getD_in _ _ hxl] at hr
    obtain ⟨b2, o2, rfl, hc⟩ := (HM.out.later hA).some hxl
    obtain ⟨d0, d1⟩ := hc x hxl
    rw [← hr] at d0 d1
    clear hc hcx hr HK hh hB bm bc bl hA hB1 bm1 bc1 HM
    go_wp2
    refine bodyPost_ret (v := .agg #[.int .u8 (r.1 : Int), .int .u16 (r.2 : Int)]) (by simp [results, Try.results34, go_sem, r0, r1]) rfl ⟨rfl, HW.out r⟩

set_option maxHeartbeats 1000000 in
theorem ref05_See_out (a al : Option Addr) (n ca nl cl : Nat) (x : Int) (w : World) (h : ¬ (0 ≤ x ∧ x < 512)) :
    Calls Try.prog 15 #[.agg #[.slice a n ca, .slice al nl cl], .int .i64 x] w fun e w' => e = .returned (.tuple #[.agg #[.int .u8 0, .int .u16 0], .int .i64 6]) ∧ Below w.heap.size w w' := by
  have bm := (Blk.new (W := w) #[.slice a n ca, .slice al nl cl] 31).kept (World.grownBy_alloc (w.alloc (.cells #[.slice a n ca, .slice al nl cl] 31)) (.cells #[.int .u8 0, .int .u16 0] 25) none) (by simp)
  have bc := Blk.new (W := w.alloc (.cells #[.slice a n ca, .slice al nl cl] 31)) #[.int .u8 0, .int .u16 0] 25
  have hs1 : (w.alloc (.cells #[.slice a n ca, .slice al nl cl] 31)).heap.size = w.heap.size + 1 := by simp
  rw [hs1] at bc
  have hB := Below.alloc (Below.alloc (Below.refl w.heap.size w) (Nat.le_refl _) (.cells #[.slice a n ca, .slice al nl cl] 31)) (by rw [hs1]; omega) (.cells #[.int .u8 0, .int .u16 0] 25)
  clear hs1
  have HW := Lib.hid ((hB.setCell (p := ⟨w.heap.size + 1, 0, none⟩) (by simp) (.int .u8 0)).setCell (p := ⟨w.heap.size + 1, 1, none⟩) (by simp) (.int .u16 0))
  have c0 := (bc 0 (by simp)).1
  have c1 := (bc 1 (by simp)).1
  have f0 := (bc 0 (by simp)).2
  have f1 := (bc 1 (by simp)).2
  go_enter Try.func15, Try.ntmps15
  go_upto_region 1 with fail
  generalize (w.alloc (.cells #[.slice a n ca, .slice al nl cl] 31)).alloc (.cells #[.int .u8 0, .int .u16 0] 25) = W0 at *
  by_cases h0 : x < 0
  · go_wp2
    refine bodyPost_ret (v := .tuple #[.agg #[.int .u8 0, .int .u16 0], .int .i64 6]) (by simp [results, Try.results15, go_sem, c0, c1]) rfl ⟨rfl, HW.out⟩
  · have h1 : (512 : Int) ≤ x := by omega
    go_wp2
    refine bodyPost_ret (v := .tuple #[.agg #[.int .u8 0, .int .u16 0], .int .i64 6]) (by simp [results, Try.results15, go_sem, c0, c1]) rfl ⟨rfl, HW.out⟩

set_option maxHeartbeats 1000000 in
theorem ref05_See_in (a al : Option Addr) (ca cl : Nat) (m : Mem) (x : Nat) (w : World) (hM : MemAt w a al m) (hV : MV m) (hx : x < 512) :
    Calls Try.prog 15 #[.agg #[.slice a 512 ca, .slice al 4 cl], .int .i64 (x : Int)] w fun e w' => e = .returned (.tuple #[.agg #[.int .u8 ((lookM m x).1 : Int), .int .u16 ((lookM m x).2 : Int)], .int .i64 0]) ∧ Below w.heap.size w w' := by
  have bm := (Blk.new (W := w) #[.slice a 512 ca, .slice al 4 cl] 31).kept (World.grownBy_alloc (w.alloc (.cells #[.slice a 512 ca, .slice al 4 cl] 31)) (.cells #[.int .u8 0, .int .u16 0] 25) none) (by simp)
  have bc := Blk.new (W := w.alloc (.cells #[.slice a 512 ca, .slice al 4 cl] 31)) #[.int .u8 0, .int .u16 0] 25
  have hs1 : (w.alloc (.cells #[.slice a 512 ca, .slice al 4 cl] 31)).heap.size = w.heap.size + 1 := by simp
  rw [hs1] at bc
  have hB := Below.alloc (Below.alloc (Below.refl w.heap.size w) (Nat.le_refl _) (.cells #[.slice a 512 ca, .slice al 4 cl] 31)) (by rw [hs1]; omega) (.cells #[.int .u8 0, .int .u16 0] 25)
  have hM0 := hM.later hB
  have H2 := Lib.hid (fun W (hW : Below ((w.alloc (.cells #[.slice a 512 ca, .slice al 4 cl] 31)).alloc (.cells #[.int .u8 0, .int .u16 0] 25)).heap.size ((w.alloc (.cells #[.slice a 512 ca, .slice al 4 cl] 31)).alloc (.cells #[.int .u8 0, .int .u16 0] 25)) W) => ref05_Look a al ca cl m x W (hM0.later hW) hV hx)
  have i1 : ¬ (x : Int) < 0 := by omega
  have i2 : ¬ (512 : Int) ≤ (x : Int) := by omega
  clear hs1 hM hM0
  generalize lookM m x = r at *
  go_enter Try.func15, Try.ntmps15
  go_upto_region 1 with fail
  generalize (w.alloc (.cells #[.slice a 512 ca, .slice al 4 cl] 31)).alloc (.cells #[.int .u8 0, .int .u16 0] 25) = W0 at *
  have m0 := (bm 0 (by simp)).1
  have m1 := (bm 1 (by simp)).1
  go_wp2_with fail
  refine (H2.out _ (Below.refl _ _)).mono ?_
  rintro e W2 ⟨rfl, hb2⟩
  have hB1 := hB.trans (hb2.mono hB.size)
  have bc := bc.later hb2
  have c0 := (bc 0 (by simp)).1
  have c1 := (bc 1 (by simp)).1
  have f0 := (bc 0 (by simp)).2
  have f1 := (bc 1 (by simp)).2
  have HW := Lib.hid ((hB1.setCell (p := ⟨w.heap.size + 1, 0, none⟩) (by simp) (.int .u8 (r.1 : Int))).setCell (p := ⟨w.heap.size + 1, 1, none⟩) (by simp) (.int .u16 (r.2 : Int)))
  clear H2 hB hb2 bm bc m0 m1 hB1
  go_wp2
  refine bodyPost_ret (v := .tuple #[.agg #[.int .u8 (r.1 : Int), .int .u16 (r.2 : Int)], .int .i64 0]) (by simp [results, Try.results15, go_sem, c0, c1]) rfl ⟨rfl, HW.out⟩

theorem ref05_See (a al : Option Addr) (ca cl : Nat) (m : Mem) (x : Int) (w : World) (hM : MemAt w a al m) (hV : MV m) :
    Calls Try.prog 15 #[.agg #[.slice a 512 ca, .slice al 4 cl], .int .i64 x] w fun e w' => e = .returned (.tuple #[.agg #[.int .u8 ((seeV m x).1 : Int), .int .u16 ((seeV m x).2 : Int)], .int .i64 (rngE x)]) ∧ Below w.heap.size w w' := by
  by_cases h : 0 ≤ x ∧ x < 512
  · obtain ⟨k, rfl⟩ : ∃ k : Nat, x = (k : Int) := ⟨x.toNat, by omega⟩
    rw [(see_in m (k := k) (by omega)).1, (see_in m (k := k) (by omega)).2]
    exact ref05_See_in a al ca cl m k w hM hV (by omega)
  · rw [(see_out m h).1, (see_out m h).2]
    exact ref05_See_out a al 512 ca 4 cl x w h

end Go.Proofs.Ytkffeibjleiaoaa
