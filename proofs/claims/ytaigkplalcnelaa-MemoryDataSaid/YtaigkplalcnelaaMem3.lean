/-
  Contracts of package memory: hasAddress, Peek.
-/
import Derived.Test.YtaigkplalcnelaaRM3
import Derived.BigQuiet
namespace Go.Proofs.Ytaigkplalcnelaa
open Go.RowKit

/-- There is such an address. -/
def hasB (x : Int) (n : Nat) : Bool := decide (0 ≤ x ∧ x < 512 ∧ x < (n : Int))

theorem hasB_true {x : Int} {n : Nat} (h : 0 ≤ x ∧ x < 512 ∧ x < (n : Int)) : hasB x n = true := decide_eq_true h
theorem hasB_false {x : Int} {n : Nat} (h : ¬ (0 ≤ x ∧ x < 512 ∧ x < (n : Int))) : hasB x n = false := decide_eq_false h

set_option maxHeartbeats 1000000 in
theorem memory_hasAddress (a al : Option Addr) (n ca nl cl : Nat) (x : Int) (w : World) :
    Calls Try.prog 34 #[.agg #[.slice a n ca, .slice al nl cl], .int .i64 x] w fun e w' => e = .returned (.bool (hasB x n)) ∧ Below w.heap.size w w' := by
  have hB := Below.alloc (Below.refl w.heap.size w) (Nat.le_refl _) (.cells #[.slice a n ca, .slice al nl cl] 40)
  go_enter Try.func34, Try.ntmps34
  by_cases h0 : x < 0
  · have i0 : ¬ 0 ≤ x := by omega
    go_wp2
    go_ret
    exact ⟨ret_bool (hasB_false (by omega)).symm, hB⟩
  · have i0 : 0 ≤ x := by omega
    by_cases h1 : x < 512
    · by_cases h2 : x < (n : Int)
      · go_wp2
        go_ret
        exact ⟨ret_bool (hasB_true (by omega)).symm, hB⟩
      · go_wp2
        go_ret
        exact ⟨ret_bool (hasB_false (by omega)).symm, hB⟩
    · go_wp2
      go_ret
      exact ⟨ret_bool (hasB_false (by omega)).symm, hB⟩

theorem peek_some {cs : List (Nat × Nat)} {k : Nat} (hl : cs.length = 512) (hk : k < cs.length) : peekC cs (k : Int) = cs[k] ∧ peekE (k : Int) = 0 := by
  unfold peekC peekE
  rw [if_pos (by omega), Int.toNat_natCast, getD_at cs (0, 0) hk, if_pos (by omega)]
  exact ⟨rfl, rfl⟩

theorem peek_none {cs : List (Nat × Nat)} {x : Int} (h : ¬ (0 ≤ x ∧ x < 512)) : peekC cs x = (0, 0) ∧ peekE x = 6 := by
  unfold peekC peekE
  rw [if_neg h, if_neg h]
  exact ⟨rfl, rfl⟩

theorem memory_Peek_has (a al : Option Addr) (n ca nl cl : Nat) (x : Int) (B : Bool) (w : World) (h : hasB x n = B) :
    Calls Try.prog 34 #[.agg #[.slice a n ca, .slice al nl cl], .int .i64 x] w fun e w' => e = .returned (.bool B) ∧ Below w.heap.size w w' := by
  subst h
  exact memory_hasAddress a al n ca nl cl x w

set_option maxHeartbeats 1000000 in
theorem memory_Peek_none (a al : Option Addr) (n ca nl cl : Nat) (x : Int) (w : World) (h : ¬ (0 ≤ x ∧ x < 512)) :
    Calls Try.prog 27 #[.agg #[.slice a n ca, .slice al nl cl], .int .i64 x] w fun e w' => e = .returned (.tuple #[.agg #[.int .u8 0, .int .u16 0], .int .i64 6]) ∧ Below w.heap.size w w' := by
  have bm := (Blk.new (W := w) #[.slice a n ca, .slice al nl cl] 40).kept (World.grownBy_alloc (w.alloc (.cells #[.slice a n ca, .slice al nl cl] 40)) (.cells #[.int .u8 0, .int .u16 0] 44) none) (by simp)
  have bc := Blk.new (W := w.alloc (.cells #[.slice a n ca, .slice al nl cl] 40)) #[.int .u8 0, .int .u16 0] 44
  have hs1 : (w.alloc (.cells #[.slice a n ca, .slice al nl cl] 40)).heap.size = w.heap.size + 1 := by simp
  rw [hs1] at bc
  have hB := Below.alloc (Below.alloc (Below.refl w.heap.size w) (Nat.le_refl _) (.cells #[.slice a n ca, .slice al nl cl] 40)) (by rw [hs1]; omega) (.cells #[.int .u8 0, .int .u16 0] 44)
  have H := Lib.hid (fun W => memory_Peek_has a al n ca nl cl x false W (hasB_false (by omega)))
  clear hs1
  go_enter Try.func27, Try.ntmps27
  go_upto_region 1 with fail
  generalize (w.alloc (.cells #[.slice a n ca, .slice al nl cl] 40)).alloc (.cells #[.int .u8 0, .int .u16 0] 44) = W0 at *
  have m0 := (bm 0 (by simp)).1
  have m1 := (bm 1 (by simp)).1
  go_wp2_with fail
  refine (H.out _).mono ?_
  rintro e W1 ⟨rfl, hb1⟩
  have hB1 := hB.trans (hb1.mono hB.size)
  have bc := bc.later hb1
  have c0 := (bc 0 (by simp)).1
  have c1 := (bc 1 (by simp)).1
  have f0 := (bc 0 (by simp)).2
  have f1 := (bc 1 (by simp)).2
  have HW := Lib.hid ((hB1.setCell (p := ⟨w.heap.size + 1, 0, none⟩) (by simp) (.int .u8 0)).setCell (p := ⟨w.heap.size + 1, 1, none⟩) (by simp) (.int .u16 0))
  clear H hB hb1 bm bc m0 m1 hB1 h
  go_wp2
  refine bodyPost_ret (v := .tuple #[.agg #[.int .u8 0, .int .u16 0], .int .i64 6]) (by simp [results, Try.results27, go_sem, c0, c1]) rfl ⟨rfl, HW.out⟩

set_option maxHeartbeats 1000000 in
theorem memory_Peek_some (a al : Option Addr) (cs : List (Nat × Nat)) (ca nl cl k : Nat) (y : Nat × Nat) (w : World) (ha : CellsAt w a cs) (hk : k < cs.length) (h5 : k < 512) (hy : cs[k] = y) :
    Calls Try.prog 27 #[.agg #[.slice a cs.length ca, .slice al nl cl], .int .i64 (k : Int)] w fun e w' => e = .returned (.tuple #[.agg #[.int .u8 (y.1 : Int), .int .u16 (y.2 : Int)], .int .i64 0]) ∧ Below w.heap.size w w' := by
  have bm := (Blk.new (W := w) #[.slice a cs.length ca, .slice al nl cl] 40).kept (World.grownBy_alloc (w.alloc (.cells #[.slice a cs.length ca, .slice al nl cl] 40)) (.cells #[.int .u8 0, .int .u16 0] 44) none) (by simp)
  have bc := Blk.new (W := w.alloc (.cells #[.slice a cs.length ca, .slice al nl cl] 40)) #[.int .u8 0, .int .u16 0] 44
  have hs1 : (w.alloc (.cells #[.slice a cs.length ca, .slice al nl cl] 40)).heap.size = w.heap.size + 1 := by simp
  rw [hs1] at bc
  have hB := Below.alloc (Below.alloc (Below.refl w.heap.size w) (Nat.le_refl _) (.cells #[.slice a cs.length ca, .slice al nl cl] 40)) (by rw [hs1]; omega) (.cells #[.int .u8 0, .int .u16 0] 44)
  have H := Lib.hid (fun W => memory_Peek_has a al cs.length ca nl cl (k : Int) true W (hasB_true (by omega)))
  have ha0 := ha.later hB
  obtain ⟨b, o, rfl, hc⟩ := ha0.some hk
  obtain ⟨d0, d1⟩ := hc k hk
  rw [hy] at d0 d1
  have i1 : (k : Int) < (cs.length : Int) := by omega
  have i2 : 0 ≤ (k : Int) := by omega
  clear hs1 hc ha ha0 hy
  go_enter Try.func27, Try.ntmps27
  go_upto_region 1 with fail
  generalize (w.alloc (.cells #[.slice (some ⟨b, o, none⟩) cs.length ca, .slice al nl cl] 40)).alloc (.cells #[.int .u8 0, .int .u16 0] 44) = W0 at *
  have m0 := (bm 0 (by simp)).1
  have m1 := (bm 1 (by simp)).1
  go_wp2_with fail
  refine (H.out _).mono ?_
  rintro e W1 ⟨rfl, hb1⟩
  have hB1 := hB.trans (hb1.mono hB.size)
  have bm := bm.later hb1
  have m0 := (bm 0 (by simp)).1
  have bc := bc.later hb1
  have c0 := (bc 0 (by simp)).1
  have c1 := (bc 1 (by simp)).1
  have f0 := (bc 0 (by simp)).2
  have f1 := (bc 1 (by simp)).2
  have d0 := cell_later hb1 d0
  have d1 := cell_later hb1 d1
  have HW := Lib.hid ((hB1.setCell (p := ⟨w.heap.size + 1, 0, none⟩) (by simp) (.int .u8 (y.1 : Int))).setCell (p := ⟨w.heap.size + 1, 1, none⟩) (by simp) (.int .u16 (y.2 : Int)))
  clear H hB hb1 bm bc m1 hB1
  go_wp2
  refine bodyPost_ret (v := .tuple #[.agg #[.int .u8 (y.1 : Int), .int .u16 (y.2 : Int)], .int .i64 0]) (by simp [results, Try.results27, go_sem, c0, c1]) rfl ⟨rfl, HW.out⟩

theorem memory_Peek (a al : Option Addr) (cs : List (Nat × Nat)) (ca nl cl : Nat) (x : Int) (w : World) (ha : CellsAt w a cs) (hl : cs.length = 512) :
    Calls Try.prog 27 #[.agg #[.slice a cs.length ca, .slice al nl cl], .int .i64 x] w fun e w' => e = .returned (.tuple #[.agg #[.int .u8 ((peekC cs x).1 : Int), .int .u16 ((peekC cs x).2 : Int)], .int .i64 (peekE x)]) ∧ Below w.heap.size w w' := by
  by_cases h0 : 0 ≤ x ∧ x < 512
  · obtain ⟨k, rfl⟩ : ∃ k : Nat, x = (k : Int) := ⟨x.toNat, by omega⟩
    have hk : k < cs.length := by omega
    rw [(peek_some hl hk).1, (peek_some hl hk).2]
    exact memory_Peek_some a al cs ca nl cl k _ w ha hk (by omega) rfl
  · rw [(peek_none (cs := cs) h0).1, (peek_none (cs := cs) h0).2]
    exact memory_Peek_none a al cs.length ca nl cl x w h0
end Go.Proofs.Ytaigkplalcnelaa
