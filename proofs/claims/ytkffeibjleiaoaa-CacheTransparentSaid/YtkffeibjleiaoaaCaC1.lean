/-
  Contracts of package cache: hasAddress, seen, See, writeBack, fetch.
-/
import Derived.Test.YtkffeibjleiaoaaCaCopy
import Derived.Test.YtkffeibjleiaoaaMem1
import Derived.Deep.RegionHeldLaw
import Derived.Deep.DeepCutAuto
import Derived.BigQuiet
import Derived.Deep.QuietTactic
namespace Go.Proofs.Ytkffeibjleiaoaa
open Go.RowKit

theorem memory_Valid_MV (a al : Option Addr) (ca cl : Nat) (m : Mem) (w : World) (hM : MemAt w a al m) (hV : MV m) :
    Calls Try.prog 41 #[.agg #[.slice a 512 ca, .slice al 4 cl]] w fun e w' => e = .returned (.bool true) ∧ Below w.heap.size w w' := by
  have h1 := hV.len
  have h2 := hV.lines
  have h := memory_Valid a al m.cells m.lines ca cl w hM.1 hM.2 hV.fit hV.fits (by omega) (by omega) (fun x hx => by have := hV.short x hx; omega)
  rw [h1, h2, show (⟨m.cells, m.lines⟩ : Mem) = m from rfl, hV.valid] at h
  exact h

set_option maxHeartbeats 1000000 in
theorem cache_has_true (a al : Option Addr) (ca cl : Nat) (m : Mem) (x : Int) (w : World) (hM : MemAt w a al m) (hV : MV m) (h0 : 0 ≤ x) (h1 : x < 512) :
    Calls Try.prog 30 #[.agg #[.slice a 512 ca, .slice al 4 cl], .int .i64 x] w fun e w' => e = .returned (.bool true) ∧ Below w.heap.size w w' := by
  have hA := Below.alloc (Below.refl w.heap.size w) (Nat.le_refl _) (.cells #[.slice a 512 ca, .slice al 4 cl] 31)
  have bm := Blk.new (W := w) #[.slice a 512 ca, .slice al 4 cl] 31
  have HV := Lib.hid (memory_Valid_MV a al ca cl m _ (hM.later hA) hV)
  clear hM
  go_enter Try.func30, Try.ntmps30
  go_upto_region 1 with fail
  have hs1 : (w.alloc (.cells #[.slice a 512 ca, .slice al 4 cl] 31)).heap.size = w.heap.size + 1 := by simp
  generalize w.alloc (.cells #[.slice a 512 ca, .slice al 4 cl] 31) = W0 at *
  have m0 := (bm 0 (by simp)).1
  have m1 := (bm 1 (by simp)).1
  go_wp2_with (go_at_call 41; (with_reducible refine HV.out.mono ?_); rintro e W1 ⟨rfl, hb1⟩)
  go_ret
  exact ⟨rfl, hA.trans (hb1.mono (by omega))⟩

set_option maxHeartbeats 1000000 in
theorem cache_has_false (a al : Option Addr) (n ca nl cl : Nat) (x : Int) (w : World) (h : ¬ (0 ≤ x ∧ x < 512)) :
    Calls Try.prog 30 #[.agg #[.slice a n ca, .slice al nl cl], .int .i64 x] w fun e w' => e = .returned (.bool false) ∧ Below w.heap.size w w' := by
  have hA := Below.alloc (Below.refl w.heap.size w) (Nat.le_refl _) (.cells #[.slice a n ca, .slice al nl cl] 31)
  go_enter Try.func30, Try.ntmps30
  by_cases h0 : 0 ≤ x
  · have h1 : ¬ x < 512 := fun h1 => h ⟨h0, h1⟩
    go_wp2
    go_ret
    exact ⟨rfl, hA⟩
  · go_wp2
    go_ret
    exact ⟨rfl, hA⟩

set_option maxHeartbeats 2000000 in
theorem cache_seen (a al : Option Addr) (ca cl : Nat) (m : Mem) (x : Nat) (w : World) (hM : MemAt w a al m) (hV : MV m) (hx : x < 512) :
    Calls Try.prog 33 #[.agg #[.slice a 512 ca, .slice al 4 cl], .int .i64 (x : Int)] w fun e w' => e = .returned (.agg #[.int .u8 ((lookM m x).1 : Int), .int .u16 ((lookM m x).2 : Int)]) ∧ Below w.heap.size w w' := by
  have bm := (Blk.new (W := w) #[.slice a 512 ca, .slice al 4 cl] 31).kept (World.grownBy_alloc (w.alloc (.cells #[.slice a 512 ca, .slice al 4 cl] 31)) (.cells #[.int .u8 0, .int .u16 0] 25) none) (by simp)
  have bc := Blk.new (W := w.alloc (.cells #[.slice a 512 ca, .slice al 4 cl] 31)) #[.int .u8 0, .int .u16 0] 25
  have hs1 : (w.alloc (.cells #[.slice a 512 ca, .slice al 4 cl] 31)).heap.size = w.heap.size + 1 := by simp
  rw [hs1] at bc
  have hB := Below.alloc (Below.alloc (Below.refl w.heap.size w) (Nat.le_refl _) (.cells #[.slice a 512 ca, .slice al 4 cl] 31)) (by rw [hs1]; omega) (.cells #[.int .u8 0, .int .u16 0] 25)
  have hs2 : ((w.alloc (.cells #[.slice a 512 ca, .slice al 4 cl] 31)).alloc (.cells #[.int .u8 0, .int .u16 0] 25)).heap.size = w.heap.size + 2 := by simp
  have hM0 := hM.later hB
  obtain ⟨n, hn⟩ : ∃ n, x / 4 = n := ⟨_, rfl⟩
  obtain ⟨k, hk⟩ : ∃ k, n % 4 = k := ⟨_, rfl⟩
  obtain ⟨j, hj⟩ : ∃ j, x % 4 = j := ⟨_, rfl⟩
  have n1 : (x : Int) / 4 = (n : Int) := by omega
  have n2 : (n : Int) % 4 = (k : Int) := by omega
  have n3 : (x : Int) % 4 = (j : Int) := by omega
  have hk4 : k < 4 := by omega
  have hj4 : j < 4 := by omega
  have h5 := hV.len
  have hkl : k < m.lines.length := by have := hV.lines; omega
  obtain ⟨b, o, rfl, hc⟩ := hM0.2.some hkl
  obtain ⟨c0, c1, a2, k2, c2, hcx⟩ := hc k hkl
  have hL : lineM m n = m.lines[k] := by unfold lineM; rw [hk, getD_in _ _ hkl]
  have ht := (hV.line n).tag
  have hlook : lookM m x = if (lineM m n).tag = (n : Int) then (lineM m n).cells.getD j (0, 0) else m.cells.getD x (0, 0) := by unfold lookM; rw [hn, hj]
  rw [← hL] at c0 c1 c2 hcx
  have HM := Lib.hid hM0.1
  have H5 := Lib.hid h5
  have HT := Lib.hid ht
  have HK := Lib.hid hlook
  have HN := Lib.hid (And.intro hn (And.intro hk hj))
  have HS2 := Lib.hid hs2
  clear hs2 hL hc hkl h5 hM0 ht hlook hn hk hj hs1 hM
  generalize lineM m n = l at *
  generalize lookM m x = r at *
  go_enter Try.func33, Try.ntmps33
  go_upto_region 1 with fail
  generalize (w.alloc (.cells #[.slice a 512 ca, .slice (some ⟨b, o, none⟩) 4 cl] 31)).alloc (.cells #[.int .u8 0, .int .u16 0] 25) = W0 at *
  have m0 := (bm 0 (by simp)).1
  have m1 := (bm 1 (by simp)).1
  have i1 : (k : Int) < 4 := by omega
  have i2 : 0 ≤ (k : Int) := by omega
  have i3 : 0 ≤ (j : Int) := by omega
  have i4 : 0 ≤ (x : Int) := by omega
  have i5 : (x : Int) < 512 := by omega
  have hA := Below.alloc (Below.refl W0.heap.size W0) (Nat.le_refl _) (.cells #[.int .i64 l.tag, .bool l.dirty, .slice a2 l.cells.length k2] 53)
  have bl := Blk.new (W := W0) #[.int .i64 l.tag, .bool l.dirty, .slice a2 l.cells.length k2] 53
  go_upto_region 3 with fail
  clear c0 c1 c2 m0 m1
  generalize W0.alloc (.cells #[.int .i64 l.tag, .bool l.dirty, .slice a2 l.cells.length k2] 53) = W1 at *
  have hB1 := hB.trans (hA.mono (by have := HS2.out; omega))
  have bm1 := bm.later hA
  have bc1 := bc.later hA
  have m0 := (bm1 0 (by simp)).1
  have r0 := (bc1 0 (by simp)).1
  have r1 := (bc1 1 (by simp)).1
  have f0 := (bc1 0 (by simp)).2
  have f1 := (bc1 1 (by simp)).2
  have l0 := (bl 0 (by simp)).1
  have l2 := (bl 2 (by simp)).1
  have HW := Lib.hid (fun (r : Nat × Nat) => (hB1.setCell (p := ⟨w.heap.size + 1, 0, none⟩) (by simp) (.int .u8 (r.1 : Int))).setCell (p := ⟨w.heap.size + 1, 1, none⟩) (by simp) (.int .u16 (r.2 : Int)))
  by_cases hh : l.tag = (n : Int)
  · have g0 : (l.tag == (n : Int)) = true := by rw [beq_iff_eq]; exact hh
    have hr := HK.out
    rw [if_pos hh] at hr
    have hlen : l.cells.length = 4 := by
      rcases HT.out with ⟨h1, _⟩ | ⟨_, _, _, _, h1⟩
      · omega
      · exact h1
    have hjl : j < l.cells.length := by omega
    rw [getD_in _ _ hjl] at hr
    obtain ⟨b2, o2, rfl, hc⟩ := (hcx.later hA).some hjl
    obtain ⟨d0, d1⟩ := hc j hjl
    rw [← hr] at d0 d1
    have j1 : (j : Int) < (l.cells.length : Int) := by omega
    clear hc hcx hr hlen HK hh hB bm bc bl hA hB1 bm1 bc1 m0 HM
    go_wp2
    refine bodyPost_ret (v := .agg #[.int .u8 (r.1 : Int), .int .u16 (r.2 : Int)]) (by simp [results, Try.results33, go_sem, r0, r1]) rfl ⟨rfl, HW.out r⟩
  · have g0 : (l.tag == (n : Int)) = false := by rw [beq_eq_false_iff_ne]; exact hh
    have hr := HK.out
    rw [if_neg hh] at hr
    have hxl : x < m.cells.length := by have := H5.out; omega
    rw [getD_in _ _ hxl] at hr
    obtain ⟨b2, o2, rfl, hc⟩ := (HM.out.later hA).some hxl
    obtain ⟨d0, d1⟩ := hc x hxl
    rw [← hr] at d0 d1
    clear hc hcx hr HK hh hB bm bc bl hA hB1 bm1 bc1 HM
    go_wp2
    refine bodyPost_ret (v := .agg #[.int .u8 (r.1 : Int), .int .u16 (r.2 : Int)]) (by simp [results, Try.results33, go_sem, r0, r1]) rfl ⟨rfl, HW.out r⟩

/-- What See returns, and its error. -/
def seeV (m : Mem) (x : Int) : Nat × Nat := if 0 ≤ x ∧ x < 512 then lookM m x.toNat else (0, 0)
def rngE (x : Int) : Int := if 0 ≤ x ∧ x < 512 then 0 else 6

theorem see_in (m : Mem) {k : Nat} (h : k < 512) : seeV m (k : Int) = lookM m k ∧ rngE (k : Int) = 0 := by
  unfold seeV rngE
  rw [if_pos (by omega), if_pos (by omega), Int.toNat_natCast]
  exact ⟨rfl, rfl⟩

theorem see_out (m : Mem) {x : Int} (h : ¬ (0 ≤ x ∧ x < 512)) : seeV m x = (0, 0) ∧ rngE x = 6 := by
  unfold seeV rngE
  rw [if_neg h, if_neg h]
  exact ⟨rfl, rfl⟩

set_option maxHeartbeats 1000000 in
theorem cache_See_out (a al : Option Addr) (n ca nl cl : Nat) (x : Int) (w : World) (h : ¬ (0 ≤ x ∧ x < 512)) :
    Calls Try.prog 14 #[.agg #[.slice a n ca, .slice al nl cl], .int .i64 x] w fun e w' => e = .returned (.tuple #[.agg #[.int .u8 0, .int .u16 0], .int .i64 6]) ∧ Below w.heap.size w w' := by
  have bm := (Blk.new (W := w) #[.slice a n ca, .slice al nl cl] 31).kept (World.grownBy_alloc (w.alloc (.cells #[.slice a n ca, .slice al nl cl] 31)) (.cells #[.int .u8 0, .int .u16 0] 25) none) (by simp)
  have bc := Blk.new (W := w.alloc (.cells #[.slice a n ca, .slice al nl cl] 31)) #[.int .u8 0, .int .u16 0] 25
  have hs1 : (w.alloc (.cells #[.slice a n ca, .slice al nl cl] 31)).heap.size = w.heap.size + 1 := by simp
  rw [hs1] at bc
  have hB := Below.alloc (Below.alloc (Below.refl w.heap.size w) (Nat.le_refl _) (.cells #[.slice a n ca, .slice al nl cl] 31)) (by rw [hs1]; omega) (.cells #[.int .u8 0, .int .u16 0] 25)
  have H := Lib.hid (fun W => cache_has_false a al n ca nl cl x W h)
  clear hs1 h
  go_enter Try.func14, Try.ntmps14
  go_upto_region 1 with fail
  generalize (w.alloc (.cells #[.slice a n ca, .slice al nl cl] 31)).alloc (.cells #[.int .u8 0, .int .u16 0] 25) = W0 at *
  have m0 := (bm 0 (by simp)).1
  have m1 := (bm 1 (by simp)).1
  go_wp2_with fail
  refine (H.out _).mono ?_
  rintro e W1 ⟨rfl, hb1⟩
  have hB1 := hB.trans (hb1.mono hB.size)
  have bc := bc.later hb1
  have c0 := (bc 0 (by simp)).1
  have c1 := (bc 1 (by simp)).1
  have f0 := (bc 0 (by simp)).2
  have f1 := (bc 1 (by simp)).2
  have HW := Lib.hid ((hB1.setCell (p := ⟨w.heap.size + 1, 0, none⟩) (by simp) (.int .u8 0)).setCell (p := ⟨w.heap.size + 1, 1, none⟩) (by simp) (.int .u16 0))
  clear H hB hb1 bm bc m0 m1 hB1
  go_wp2
  refine bodyPost_ret (v := .tuple #[.agg #[.int .u8 0, .int .u16 0], .int .i64 6]) (by simp [results, Try.results14, go_sem, c0, c1]) rfl ⟨rfl, HW.out⟩

set_option maxHeartbeats 1000000 in
theorem cache_See_in (a al : Option Addr) (ca cl : Nat) (m : Mem) (x : Nat) (w : World) (hM : MemAt w a al m) (hV : MV m) (hx : x < 512) :
    Calls Try.prog 14 #[.agg #[.slice a 512 ca, .slice al 4 cl], .int .i64 (x : Int)] w fun e w' => e = .returned (.tuple #[.agg #[.int .u8 ((lookM m x).1 : Int), .int .u16 ((lookM m x).2 : Int)], .int .i64 0]) ∧ Below w.heap.size w w' := by
  have bm := (Blk.new (W := w) #[.slice a 512 ca, .slice al 4 cl] 31).kept (World.grownBy_alloc (w.alloc (.cells #[.slice a 512 ca, .slice al 4 cl] 31)) (.cells #[.int .u8 0, .int .u16 0] 25) none) (by simp)
  have bc := Blk.new (W := w.alloc (.cells #[.slice a 512 ca, .slice al 4 cl] 31)) #[.int .u8 0, .int .u16 0] 25
  have hs1 : (w.alloc (.cells #[.slice a 512 ca, .slice al 4 cl] 31)).heap.size = w.heap.size + 1 := by simp
  rw [hs1] at bc
  have hB := Below.alloc (Below.alloc (Below.refl w.heap.size w) (Nat.le_refl _) (.cells #[.slice a 512 ca, .slice al 4 cl] 31)) (by rw [hs1]; omega) (.cells #[.int .u8 0, .int .u16 0] 25)
  have hM0 := hM.later hB
  have H := Lib.hid (fun W (hW : Below ((w.alloc (.cells #[.slice a 512 ca, .slice al 4 cl] 31)).alloc (.cells #[.int .u8 0, .int .u16 0] 25)).heap.size ((w.alloc (.cells #[.slice a 512 ca, .slice al 4 cl] 31)).alloc (.cells #[.int .u8 0, .int .u16 0] 25)) W) => cache_has_true a al ca cl m x W (hM0.later hW) hV (by omega) (by omega))
  have H2 := Lib.hid (fun W (hW : Below ((w.alloc (.cells #[.slice a 512 ca, .slice al 4 cl] 31)).alloc (.cells #[.int .u8 0, .int .u16 0] 25)).heap.size ((w.alloc (.cells #[.slice a 512 ca, .slice al 4 cl] 31)).alloc (.cells #[.int .u8 0, .int .u16 0] 25)) W) => cache_seen a al ca cl m x W (hM0.later hW) hV hx)
  clear hs1 hM hM0
  generalize lookM m x = r at *
  go_enter Try.func14, Try.ntmps14
  go_upto_region 1 with fail
  generalize (w.alloc (.cells #[.slice a 512 ca, .slice al 4 cl] 31)).alloc (.cells #[.int .u8 0, .int .u16 0] 25) = W0 at *
  have m0 := (bm 0 (by simp)).1
  have m1 := (bm 1 (by simp)).1
  go_wp2_with fail
  refine (H.out _ (Below.refl _ _)).mono ?_
  rintro e W1 ⟨rfl, hb1⟩
  have bm := bm.later hb1
  have m0 := (bm 0 (by simp)).1
  have m1 := (bm 1 (by simp)).1
  go_wp2_with fail
  refine (H2.out _ hb1).mono ?_
  rintro e W2 ⟨rfl, hb2⟩
  have hb2 := hb1.trans (hb2.mono hb1.size)
  have hB1 := hB.trans (hb2.mono hB.size)
  have bc := bc.later hb2
  have c0 := (bc 0 (by simp)).1
  have c1 := (bc 1 (by simp)).1
  have f0 := (bc 0 (by simp)).2
  have f1 := (bc 1 (by simp)).2
  have HW := Lib.hid ((hB1.setCell (p := ⟨w.heap.size + 1, 0, none⟩) (by simp) (.int .u8 (r.1 : Int))).setCell (p := ⟨w.heap.size + 1, 1, none⟩) (by simp) (.int .u16 (r.2 : Int)))
  clear H H2 hB hb1 hb2 bm bc m0 m1 hB1
  go_wp2
  refine bodyPost_ret (v := .tuple #[.agg #[.int .u8 (r.1 : Int), .int .u16 (r.2 : Int)], .int .i64 0]) (by simp [results, Try.results14, go_sem, c0, c1]) rfl ⟨rfl, HW.out⟩

theorem cache_See (a al : Option Addr) (ca cl : Nat) (m : Mem) (x : Int) (w : World) (hM : MemAt w a al m) (hV : MV m) :
    Calls Try.prog 14 #[.agg #[.slice a 512 ca, .slice al 4 cl], .int .i64 x] w fun e w' => e = .returned (.tuple #[.agg #[.int .u8 ((seeV m x).1 : Int), .int .u16 ((seeV m x).2 : Int)], .int .i64 (rngE x)]) ∧ Below w.heap.size w w' := by
  by_cases h : 0 ≤ x ∧ x < 512
  · obtain ⟨k, rfl⟩ : ∃ k : Nat, x = (k : Int) := ⟨x.toNat, by omega⟩
    rw [(see_in m (k := k) (by omega)).1, (see_in m (k := k) (by omega)).2]
    exact cache_See_in a al ca cl m k w hM hV (by omega)
  · rw [(see_out m h).1, (see_out m h).2]
    exact cache_See_out a al 512 ca 4 cl x w h

theorem splice_take {α : Type} (L : List α) (o : Nat) (cs : List α) (N : Nat) (h1 : o + cs.length ≤ N) (h2 : N ≤ L.length) : (splice L o cs).take N = splice (L.take N) o cs := by
  have hl : (L.take o).length = o := by rw [List.length_take]; omega
  unfold splice
  rw [List.take_append, List.take_append, List.take_take, List.take_take, hl, List.drop_take, Nat.min_eq_right (by omega), Nat.min_eq_left (by omega), List.take_of_length_le (l := cs) (by omega)]
  congr 3
  omega

theorem cell_size2 : (Try.prog.info? 25).map (·.size) = some 2 := by
  obtain ⟨i0, hi, _, h1, _⟩ := info_parts info_cell4
  rw [hi]; simp [h1]

theorem own_cap {w : World} {base : Nat} {e : TypeId} {k g n cap : Nat} {xs : List Value} (h : w.ownsRow base e k (.slice (some ⟨g, 0, none⟩) n cap) n xs) : n ≤ cap := by
  rcases h.2 with ⟨h', _⟩ | ⟨g', cap', cur, h', hb, hg, hnc, _⟩
  · simp at h'
  · simp only [Value.slice.injEq, Option.some.injEq, Addr.mk.injEq, and_true, true_and] at h'
    obtain ⟨rfl, rfl⟩ := h'
    exact hnc

/-- A row of the call's own behind a copy. -/
theorem own_splice2 {w : World} {base : Nat} {e : TypeId} {k g n cap : Nat} {xs : List Value} (h : w.ownsRow base e k (.slice (some ⟨g, 0, none⟩) n cap) n xs) (o : Nat) (cs : List Value) (hfit : o + cs.length ≤ n * k) :
    ∃ cur, w.heap[g]? = some (.cells cur e (0, 0)) ∧ o + cs.length ≤ cur.size ∧ (w.setRow g (cur.toList.take o ++ cs ++ cur.toList.drop (o + cs.length)).toArray).ownsRow base e k (.slice (some ⟨g, 0, none⟩) n cap) n (splice xs o cs) ∧
      w.grownBy (w.setRow g (cur.toList.take o ++ cs ++ cur.toList.drop (o + cs.length)).toArray) (some g) := by
  obtain ⟨hl, h⟩ := h
  rcases h with ⟨h', _⟩ | ⟨g', cap', cur, h', hb, hg, hnc, hcm, hcs, htake⟩
  · simp at h'
  · simp only [Value.slice.injEq, Option.some.injEq, Addr.mk.injEq, and_true, true_and] at h'
    obtain ⟨rfl, rfl⟩ := h'
    have hle : n * k ≤ cur.size := by rw [hcs]; exact Nat.mul_le_mul_right _ hnc
    have e1 : (cur.toList.take o ++ cs ++ cur.toList.drop (o + cs.length)) = splice cur.toList o cs := by simp [splice]
    have hlen : (splice cur.toList o cs).length = cur.size := by rw [length_splice _ _ _ (Nat.le_trans hfit (by simpa using hle)), Array.length_toList]
    refine ⟨cur, hg, by omega, ⟨by rw [length_splice _ _ _ (by omega), hl], .inr ⟨g, cap, _, rfl, hb, setRow_heap w g _ _ e _ hg, hnc, hcm, ?_, ?_⟩⟩, ⟨rfl, rfl, rfl, by simp [World.setRow], fun j _ hj => setRow_other w g j _ (fun e => hj (by rw [e]))⟩⟩
    · rw [e1]; simp [hlen, hcs]
    · rw [e1, ← htake]
      exact splice_take _ _ _ _ hfit (by rw [Array.length_toList]; exact hle)

/-- copy into a row of the call's own, as one step of a region that draws its order. -/
theorem step_copy_wide2 {P : Program} {ops : Array Oper} {o : Oper} {a : Act} {w : World} {K : Act → World → Prop} {Q : Exit → Act → World → Prop} {E : Prop} (hgd : o.guard = none) (d s : Operand) (dT sT : TypeId)
    (ho : o.op = .call { callee := .builtin .copy, args := #[d, s], argTypes := #[dT, sT] }) (elem : TypeId) (k : Nat) (hu : P.underlying dT = some (.slice elem)) (hsz : (P.info? elem).map (·.size) = some k)
    (g off dLen dCap : Nat) (sp : Option Addr) (sLen sCap : Nat) (hd : a.eval d = .slice (some ⟨g, off, none⟩) dLen dCap) (hs : a.eval s = .slice sp sLen sCap)
    (base N cap : Nat) (xs : List Value) (hown : w.ownsRow base elem k (.slice (some ⟨g, 0, none⟩) N cap) N xs) (n : Nat) (hn : n = Nat.min sLen dLen) (cs : List Value) (hl : cs.length = n * k)
    (hsrc : cs = [] ∨ ∃ ad, sp = some ad ∧ ∀ j v, cs[j]? = some v → w.cell? (ad.add j) = some v) (hfit : off + cs.length ≤ N * k) (h1 : ∀ v ∈ cs, v.oneCell' = true)
    (h : ∀ w', Hid (w'.ownsRow base elem k (.slice (some ⟨g, 0, none⟩) N cap) N (splice xs off cs)) → w.grownBy w' (some g) → K (a.put o.dst (goInt n)) w') :
    if Region.wanted o (yielded ops a.tmps) = true then Oper.wp P o a w K Q else E := by
  have hw : Region.wanted o (yielded ops a.tmps) = true := by simp [Region.wanted, hgd]
  rw [if_pos hw]
  obtain ⟨cur, hg, hsize, ho1, ho2⟩ := own_splice2 hown off cs hfit
  have hrun := run_copy_wide (P := P) w dT sT o.type elem k g off dLen dCap sp sLen sCap n cur elem cs hu hsz hg hn hl hsrc hsize h1
  unfold Oper.wp
  simp [execOp, ho, resolve, invoke, builtin, hd, hs, hrun, Result.andThen]
  have h9 := h _ ho1 ho2
  simp only [List.append_assoc] at h9
  exact h9

end Go.Proofs.Ytkffeibjleiaoaa
