/-
  Contract: awake of the law of the cache.
-/
import Derived.Test.YtkffeibjleiaoaaCaWk
namespace Go.Proofs.Ytkffeibjleiaoaa
open Go.RowKit

theorem con_aw : (writeM freshM 0 (0, 7)).cells.getD 0 (0, 0) = (0, 0) ∧ (fetchM (writeM freshM 0 (0, 7)) 4).cells.getD 0 (0, 0) = (0, 7) := by decide +kernel

theorem OwnM.word {B g cg h ch : Nat} {w : World} {vs : List Value} {m : Mem} (H : OwnM B w g cg h ch vs m) (x : Nat) (hx : x < 512) (c : Nat × Nat) (hc : m.cells.getD x (0, 0) = c) :
    w.cell? ⟨g, x * 2, none⟩ = some (.int .u8 (c.1 : Int)) ∧ w.cell? ⟨g, x * 2 + 1, none⟩ = some (.int .u16 (c.2 : Int)) := by
  have hl : x < m.cells.length := by rw [H.len]; exact hx
  rw [getD_in _ _ hl] at hc
  subst hc
  exact own_cell H.cells x hl

/-- Words and lines behind a box. -/
def MemBox (w : World) (X g cg h ch : Nat) (m : Mem) : Prop := Blk w X [.slice (some ⟨g, 0, none⟩) 512 cg, .slice (some ⟨h, 0, none⟩) 4 ch] ∧ MemAt w (some ⟨g, 0, none⟩) (some ⟨h, 0, none⟩) m

theorem MemBox.later {w w' : World} {X g cg h ch : Nat} {m : Mem} (H : MemBox w X g cg h ch m) (hb : Below w.heap.size w w') : MemBox w' X g cg h ch m := ⟨H.1.later hb, H.2.later hb⟩

theorem MemBox.new {B : Nat} {w : World} {g cg h ch : Nat} {vs : List Value} {m : Mem} (H : OwnM B w g cg h ch vs m) : MemBox (w.alloc (.cells #[.slice (some ⟨g, 0, none⟩) 512 cg, .slice (some ⟨h, 0, none⟩) 4 ch] 31)) w.heap.size g cg h ch m :=
  ⟨Blk.new _ _, H.at.later (Below.alloc (Below.refl _ _) (Nat.le_refl _) _)⟩

/-- A cell behind a box. -/
def CellBox (w : World) (X : Nat) (c : Nat × Nat) : Prop := Blk w X [.int .u8 (c.1 : Int), .int .u16 (c.2 : Int)]

theorem CellBox.later {w w' : World} {X : Nat} {c : Nat × Nat} (H : CellBox w X c) (hb : Below w.heap.size w w') : CellBox w' X c := Blk.later H hb

set_option maxHeartbeats 4000000 in
set_option maxRecDepth 20000 in
theorem law05_awake (w : World) : Calls Try.prog 24 #[] w fun e w' => e = .returned (.bool true) ∧ Below w.heap.size w w' := by
  have HF := Lib.hid (law05_fresh w)
  have HC := Lib.hid con_aw
  have HMV : MV (writeM freshM 0 (0, 7)) := fresh_MV.write (by omega) ⟨by simp, by simp⟩
  have HW := Lib.hid (fun (W : World) (a al : Option Addr) (ca cl : Nat) (h : MemAt W a al freshM) => show Calls Try.prog 18 #[.agg #[.slice a 512 ca, .slice al 4 cl], .int .i64 0, .agg #[.int .u8 0, .int .u16 7]] W (GivesWrite freshM 0 (0, 7) W) from cache_Write_in a al ca cl freshM 0 (0, 7) W h fresh_MV (by omega) ⟨by simp, by simp⟩)
  have HR := Lib.hid (fun (W : World) (a al : Option Addr) (ca cl : Nat) (h : MemAt W a al (writeM freshM 0 (0, 7))) => show Calls Try.prog 12 #[.agg #[.slice a 512 ca, .slice al 4 cl], .int .i64 16] W (GivesRead (writeM freshM 0 (0, 7)) 16 W) from cache_Read_in a al ca cl _ 16 W h HMV (by omega))
  generalize hm : writeM freshM 0 (0, 7) = m at *
  have HM := Lib.hid hm
  clear hm
  go_enter Try.func24, Try.ntmps24
  go_wp2_with fail
  with_reducible refine HF.out.mono ?_
  rintro e W1 ⟨g, cg, h, ch, vs, rfl, hO1, hb1⟩
  have HW1 := Lib.hid (HW.out W1 _ _ cg ch hO1.at)
  go_wp2_with fail
  with_reducible refine HW1.out.mono ?_
  rintro e W2 ⟨g2, cg2, h2, ch2, vs2, rfl, hO2, hb2⟩
  rw [HM.out] at hO2
  have hA := Below.alloc (Below.refl W2.heap.size W2) (Nat.le_refl _) (.cells #[.slice (some ⟨g2, 0, none⟩) 512 cg2, .slice (some ⟨h2, 0, none⟩) 4 ch2] 31)
  have b2 := Blk.new (W := W2) #[.slice (some ⟨g2, 0, none⟩) 512 cg2, .slice (some ⟨h2, 0, none⟩) 4 ch2] 31
  have hB3 := (hb1.trans (hb2.mono hb1.size)).trans (hA.mono (Nat.le_trans hb1.size hb2.size))
  have hO3 := hO2.later hA
  clear hO1 hO2 hb1 hb2 hA HW1 HW HF
  go_upto_region 2 with fail
  generalize W2.alloc (.cells #[.slice (some ⟨g2, 0, none⟩) 512 cg2, .slice (some ⟨h2, 0, none⟩) 4 ch2] 31) = W3 at *
  generalize W2.heap.size = X at *
  have b20 := (b2 0 (by simp)).1
  have b21 := (b2 1 (by simp)).1
  have HR1 := Lib.hid (HR.out W3 _ _ cg2 ch2 hO3.at)
  go_wp2_with fail
  with_reducible refine HR1.out.mono ?_
  rintro e W4 ⟨g3, cg3, h3, ch3, vs3, rfl, hO4, hb4⟩
  have hA1 := Below.alloc (Below.refl W4.heap.size W4) (Nat.le_refl _) (.cells #[.slice (some ⟨g3, 0, none⟩) 512 cg3, .slice (some ⟨h3, 0, none⟩) 4 ch3] 31)
  have hs1 : (W4.alloc (.cells #[.slice (some ⟨g3, 0, none⟩) 512 cg3, .slice (some ⟨h3, 0, none⟩) 4 ch3] 31)).heap.size = W4.heap.size + 1 := by simp
  have b3 := (Blk.new (W := W4) #[.slice (some ⟨g3, 0, none⟩) 512 cg3, .slice (some ⟨h3, 0, none⟩) 4 ch3] 31).kept (World.grownBy_alloc (W4.alloc (.cells #[.slice (some ⟨g3, 0, none⟩) 512 cg3, .slice (some ⟨h3, 0, none⟩) 4 ch3] 31)) (.cells #[.int .u8 ((lookM m 16).1 : Int), .int .u16 ((lookM m 16).2 : Int)] 25) none) (by simp)
  have hA2 := hA1.alloc (by rw [hs1]; omega) (.cells #[.int .u8 ((lookM m 16).1 : Int), .int .u16 ((lookM m 16).2 : Int)] 25)
  have hO5 := hO4.later hA2
  have hb5 := hb4.trans (hA2.mono hb4.size)
  have hO6 := hO3.later hb5
  have hB5 := hB3.trans (hb5.mono hB3.size)
  have b5 := b2.later hb5
  clear hO4 hb4 hA1 hs1 hA2 hb5 hO3 hB3 b2 b20 b21 HR1 HR
  go_upto_region 3 with fail
  generalize (W4.alloc (.cells #[.slice (some ⟨g3, 0, none⟩) 512 cg3, .slice (some ⟨h3, 0, none⟩) 4 ch3] 31)).alloc (.cells #[.int .u8 ((lookM m 16).1 : Int), .int .u16 ((lookM m 16).2 : Int)] 25) = W5 at *
  generalize W4.heap.size = Y at *
  obtain ⟨p0, p1⟩ := hO6.word 0 (by omega) (0, 0) HC.out.1
  obtain ⟨q0, q1⟩ := hO5.word 0 (by omega) (0, 7) HC.out.2
  simp only [Nat.zero_mul, Nat.zero_add] at p0 p1 q0 q1
  have x0 := (b5 0 (by simp)).1
  have y0 := (b3 0 (by simp)).1
  have p1 : W5.cell? ⟨g2, 1, none⟩ = some (.int .u16 0) := p1
  have q1 : W5.cell? ⟨g3, 1, none⟩ = some (.int .u16 7) := q1
  clear p0 q0 hO5 hO6
  go_wp2
  go_ret
  exact ⟨rfl, hB5⟩
end Go.Proofs.Ytkffeibjleiaoaa
