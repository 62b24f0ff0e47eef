/-
  Contracts of package cache: Read, Write.
-/
import Derived.Test.YtkffeibjleiaoaaCaC2
import Derived.RegionTactic
import Derived.BigRegion
import Derived.Deep.RegionWith
namespace Go.Proofs.Ytkffeibjleiaoaa
open Go.RowKit

/-- The call gives words and lines of its own, in which the line was fetched, and the cell. -/
def GivesRead (m : Mem) (x : Nat) (w : World) (e : Ending) (w' : World) : Prop :=
  ∃ g cg h ch vs, e = .returned (.tuple #[.agg #[.slice (some ⟨g, 0, none⟩) 512 cg, .slice (some ⟨h, 0, none⟩) 4 ch], .agg #[.int .u8 ((lookM m x).1 : Int), .int .u16 ((lookM m x).2 : Int)], .int .i64 0]) ∧ OwnM w.heap.size w' g cg h ch vs (fetchM m (x / 4)) ∧ Below w.heap.size w w'

def GivesWrite (m : Mem) (x : Nat) (c : Nat × Nat) (w : World) (e : Ending) (w' : World) : Prop :=
  ∃ g cg h ch vs, e = .returned (.tuple #[.agg #[.slice (some ⟨g, 0, none⟩) 512 cg, .slice (some ⟨h, 0, none⟩) 4 ch], .int .i64 0]) ∧ OwnM w.heap.size w' g cg h ch vs (writeM m x c) ∧ Below w.heap.size w w'

/-- The cells of a line that was fetched. -/
theorem OwnM.line4 {B g cg h ch : Nat} {w : World} {vs : List Value} {m : Mem} (H : OwnM B w g cg h ch vs m) (k : Nat) (h1 : k < m.lines.length) (h2 : k < vs.length) (h4 : m.lines[k].cells.length = 4) :
    ∃ b c, vs[k] = .slice (some ⟨b, 0, none⟩) 4 c ∧ B ≤ b ∧ b < w.heap.size ∧ b ≠ g ∧ b ≠ h ∧ w.ownsRow B 25 2 (.slice (some ⟨b, 0, none⟩) 4 c) 4 (cellRows m.lines[k].cells).flatten := by
  obtain ⟨e1, e2, e3⟩ := H.each k h1 h2
  rw [h4] at e1
  obtain ⟨b, c, hv, hb1, hb2⟩ := e1.form (by omega)
  rw [hv] at e1 e2 e3
  exact ⟨b, c, hv, hb1, hb2, fun e => e2 (by rw [← e]; rfl), fun e => e3 (by rw [← e]; rfl), e1⟩

theorem own_cell {w : World} {B b c n : Nat} {xs : List (Nat × Nat)} (h : w.ownsRow B 25 2 (.slice (some ⟨b, 0, none⟩) n c) n (cellRows xs).flatten) (j : Nat) (hj : j < xs.length) :
    w.cell? ⟨b, j * 2, none⟩ = some (.int .u8 (xs[j].1 : Int)) ∧ w.cell? ⟨b, j * 2 + 1, none⟩ = some (.int .u16 (xs[j].2 : Int)) := by
  have hl := h.1
  rw [length_flatten (wide_cells _), length_cellRows] at hl
  have k0 := h.cellAt (j * 2 + 0) (by omega)
  have k1 := h.cellAt (j * 2 + 1) (by omega)
  rw [cellRows_at xs j _ hj (by omega)] at k0 k1
  exact ⟨k0, k1⟩

set_option maxHeartbeats 4000000 in
set_option maxRecDepth 20000 in
theorem cache_Read_in (a al : Option Addr) (ca cl : Nat) (m : Mem) (x : Nat) (w : World) (hM : MemAt w a al m) (hV : MV m) (hx : x < 512) :
    Calls Try.prog 12 #[.agg #[.slice a 512 ca, .slice al 4 cl], .int .i64 (x : Int)] w (GivesRead m x w) := by
  have g1 := World.grownBy_alloc (w.alloc (.cells #[.slice a 512 ca, .slice al 4 cl] 31)) (.cells #[.slice none 0 0, .slice none 0 0] 31) none
  have g2 := World.grownBy_alloc ((w.alloc (.cells #[.slice a 512 ca, .slice al 4 cl] 31)).alloc (.cells #[.slice none 0 0, .slice none 0 0] 31)) (.cells #[.int .u8 0, .int .u16 0] 25) none
  have hs1 : (w.alloc (.cells #[.slice a 512 ca, .slice al 4 cl] 31)).heap.size = w.heap.size + 1 := by simp
  have hs2 : ((w.alloc (.cells #[.slice a 512 ca, .slice al 4 cl] 31)).alloc (.cells #[.slice none 0 0, .slice none 0 0] 31)).heap.size = w.heap.size + 1 + 1 := by simp
  have hs3 : (((w.alloc (.cells #[.slice a 512 ca, .slice al 4 cl] 31)).alloc (.cells #[.slice none 0 0, .slice none 0 0] 31)).alloc (.cells #[.int .u8 0, .int .u16 0] 25)).heap.size = w.heap.size + 3 := by simp
  have bm := ((Blk.new (W := w) #[.slice a 512 ca, .slice al 4 cl] 31).kept g1 (by simp)).kept g2 (by simp)
  have br := (Blk.new (W := w.alloc (.cells #[.slice a 512 ca, .slice al 4 cl] 31)) #[.slice none 0 0, .slice none 0 0] 31).kept g2 (by simp)
  have bc := Blk.new (W := (w.alloc (.cells #[.slice a 512 ca, .slice al 4 cl] 31)).alloc (.cells #[.slice none 0 0, .slice none 0 0] 31)) #[.int .u8 0, .int .u16 0] 25
  rw [hs1] at br
  rw [hs2] at bc
  have hB := Below.alloc (Below.alloc (Below.alloc (Below.refl w.heap.size w) (Nat.le_refl _) (.cells #[.slice a 512 ca, .slice al 4 cl] 31)) (by rw [hs1]; omega) (.cells #[.slice none 0 0, .slice none 0 0] 31)) (by rw [hs2]; omega) (.cells #[.int .u8 0, .int .u16 0] 25)
  have hM0 := hM.later hB
  have HS3 := Lib.hid hs3
  obtain ⟨n, hn⟩ : ∃ n, x / 4 = n := ⟨_, rfl⟩
  obtain ⟨k, hk⟩ : ∃ k, n % 4 = k := ⟨_, rfl⟩
  obtain ⟨j, hj⟩ : ∃ j, x % 4 = j := ⟨_, rfl⟩
  have n3 : (x : Int) % 4 = (j : Int) := by omega
  have hn8 : n < 128 := by omega
  have hk4 : k < 4 := by omega
  have hj4 : j < 4 := by omega
  have hrd := fetch_read (a := x) hV hx
  have hG := Lib.hid (fun e w' => show (∃ g cg h ch vs, e = .returned (.tuple #[.agg #[.slice (some ⟨g, 0, none⟩) 512 cg, .slice (some ⟨h, 0, none⟩) 4 ch], .agg #[.int .u8 ((lookM m x).1 : Int), .int .u16 ((lookM m x).2 : Int)], .int .i64 0]) ∧ OwnM w.heap.size w' g cg h ch vs (fetchM m n) ∧ Below w.heap.size w w') → GivesRead m x w e w' by unfold GivesRead; rw [hn]; exact id)
  rw [hn, hj] at hrd
  have h4 := fetch_four hV hn8
  have hMV := (hV.fetch hn8)
  have hlm : lineM (fetchM m n) n = (fetchM m n).lines.getD k emptyL := by unfold lineM; rw [hk]
  have hkl : k < (fetchM m n).lines.length := by have := hMV.lines; omega
  rw [getD_in _ _ hkl] at hlm
  rw [hlm] at hrd h4
  have HT := Lib.hid (fun W (h : Below (((w.alloc (.cells #[.slice a 512 ca, .slice al 4 cl] 31)).alloc (.cells #[.slice none 0 0, .slice none 0 0] 31)).alloc (.cells #[.int .u8 0, .int .u16 0] 25)).heap.size (((w.alloc (.cells #[.slice a 512 ca, .slice al 4 cl] 31)).alloc (.cells #[.slice none 0 0, .slice none 0 0] 31)).alloc (.cells #[.int .u8 0, .int .u16 0] 25)) W) => cache_has_true a al ca cl m x W (hM0.later h) hV (by omega) (by omega))
  have HF := Lib.hid (fun W (h : Below (((w.alloc (.cells #[.slice a 512 ca, .slice al 4 cl] 31)).alloc (.cells #[.slice none 0 0, .slice none 0 0] 31)).alloc (.cells #[.int .u8 0, .int .u16 0] 25)).heap.size (((w.alloc (.cells #[.slice a 512 ca, .slice al 4 cl] 31)).alloc (.cells #[.slice none 0 0, .slice none 0 0] 31)).alloc (.cells #[.int .u8 0, .int .u16 0] 25)) W) => cache_fetch a al ca cl m x n k W (hM0.later h) hV hx hn hk)
  generalize lookM m x = r at *
  have HRD := Lib.hid hrd
  have H4 := Lib.hid h4
  clear g1 g2 hs1 hs2 hs3 hn hk hj hrd h4 hlm hMV hM hM0
  generalize hfm : fetchM m n = f at *
  have HFE := Lib.hid hfm
  clear hfm
  go_enter Try.func12, Try.ntmps12
  go_upto_region 1 with fail
  generalize ((w.alloc (.cells #[.slice a 512 ca, .slice al 4 cl] 31)).alloc (.cells #[.slice none 0 0, .slice none 0 0] 31)).alloc (.cells #[.int .u8 0, .int .u16 0] 25) = W0 at *
  have m0 := (bm 0 (by simp)).1
  have m1 := (bm 1 (by simp)).1
  go_wp2_with fail
  refine (HT.out _ (Below.refl _ _)).mono ?_
  rintro e W1 ⟨rfl, hb1⟩
  have bm1 := bm.later hb1
  have m0 := (bm1 0 (by simp)).1
  have m1 := (bm1 1 (by simp)).1
  go_wp2_with fail
  refine (HF.out _ hb1).mono ?_
  rintro e W2 ⟨g, cg, h, ch, vs, rfl, hO, hb2⟩
  rw [HFE.out] at hO
  have hO := hO.mono hb1.size
  have hb2 := hb1.trans (hb2.mono hb1.size)
  have hA := Below.alloc (Below.refl W2.heap.size W2) (Nat.le_refl _) (.cells #[.slice (some ⟨g, 0, none⟩) 512 cg, .slice (some ⟨h, 0, none⟩) 4 ch] 31)
  have bF := Blk.new (W := W2) #[.slice (some ⟨g, 0, none⟩) 512 cg, .slice (some ⟨h, 0, none⟩) 4 ch] 31
  have hb3 := hb2.trans (hA.mono hb2.size)
  have hO3 := hO.later hA
  have br3 := br.later hb3
  have bc3 := bc.later hb3
  have hB3 := hB.trans (hb3.mono (by rw [HS3.out]; omega))
  go_upto_region 4 with fail
  generalize W2.alloc (.cells #[.slice (some ⟨g, 0, none⟩) 512 cg, .slice (some ⟨h, 0, none⟩) 4 ch] 31) = W3 at *
  have hsz2 : W0.heap.size ≤ W2.heap.size := hb2.size
  generalize W2.heap.size = F at *
  have hkv : k < vs.length := by have := hO3.four; omega
  obtain ⟨t0, t1, t2, t3⟩ := hO3.head k hkl hkv
  obtain ⟨b, c, hv, hb4, hb5, hbg, hbh, hrow⟩ := hO3.line4 k hkl hkv H4.out
  have hjl : j < f.lines[k].cells.length := by rw [H4.out]; exact hj4
  obtain ⟨d0, d1⟩ := own_cell hrow j hjl
  have hrr : f.lines[k].cells[j] = r := by have := HRD.out; rw [getD_in _ _ hjl] at this; exact this
  rw [hrr] at d0 d1
  rw [hv] at t2
  have F0 := (bF 0 (by simp)).1
  have F1 := (bF 1 (by simp)).1
  have r0 := (br3 0 (by simp)).1
  have r1 := (br3 1 (by simp)).1
  have f0 := (br3 0 (by simp)).2
  have f1 := (br3 1 (by simp)).2
  have u0 := (bc3 0 (by simp)).1
  have u1 := (bc3 1 (by simp)).1
  have e0 := (bc3 0 (by simp)).2
  have e1 := (bc3 1 (by simp)).2
  have hbo := hO3.bounds
  have hHS := HS3.out
  have x1 : ¬ F = w.heap.size + 1 := by omega
  have x2 : ¬ F = w.heap.size + 1 + 1 := by omega
  have x3 : ¬ h = w.heap.size + 1 := by omega
  have x4 : ¬ h = w.heap.size + 1 + 1 := by omega
  have x5 : ¬ b = w.heap.size + 1 := by omega
  have x6 : ¬ b = w.heap.size + 1 + 1 := by omega
  have x7 : ¬ w.heap.size + 1 + 1 = w.heap.size + 1 := by omega
  have y1 : (j : Int) < 4 := by omega
  have y2 : 0 ≤ (j : Int) := by omega
  have HR := Lib.hid (hG.out _ ((((W3.setCell ⟨w.heap.size + 1, 0, none⟩ (.slice (some ⟨g, 0, none⟩) 512 cg)).setCell ⟨w.heap.size + 1, 1, none⟩ (.slice (some ⟨h, 0, none⟩) 4 ch)).setCell ⟨w.heap.size + 1 + 1, 0, none⟩ (.int .u8 (r.1 : Int))).setCell ⟨w.heap.size + 1 + 1, 1, none⟩ (.int .u16 (r.2 : Int))).drew
    ⟨g, cg, h, ch, vs, rfl, ((((((hO3.far (grownBy_cell _ _ _ _) (by omega)).far (grownBy_cell _ _ _ _) (by omega)).far (grownBy_cell _ _ _ _) (by omega)).far (grownBy_cell _ _ _ _) (by omega)).mono (by omega)).later (Below.refl _ _).drew),
      ((((hB3.setCell (p := ⟨w.heap.size + 1, 0, none⟩) (by simp) _).setCell (p := ⟨w.heap.size + 1, 1, none⟩) (by simp) _).setCell (p := ⟨w.heap.size + 1 + 1, 0, none⟩) (by simp; omega) _).setCell (p := ⟨w.heap.size + 1 + 1, 1, none⟩) (by simp; omega) _).drew⟩)
  clear hHS hG HRD hrr hjl hrow hv t0 t1 bF br3 bc3 hO3 hB3 hb3 hA hO hb2 hb1 bm1 bm m0 m1 HF HT hbg hbh hb4 hb5 bc br hB hbo
  go_region
  go_wp2
  refine bodyPost_ret (v := .tuple #[.agg #[.slice (some ⟨g, 0, none⟩) 512 cg, .slice (some ⟨h, 0, none⟩) 4 ch], .agg #[.int .u8 (r.1 : Int), .int .u16 (r.2 : Int)], .int .i64 0]) (by simp [results, Try.results12, go_sem, r0, r1, u0, u1]) rfl HR.out

/-- A cell is put into its line, in memory of the call's own. -/
theorem OwnM.put {B g cg h ch : Nat} {w : World} {vs : List Value} {f : Mem} (H : OwnM B w g cg h ch vs f) (x n k j : Nat) (hn : x / 4 = n) (hk : n % 4 = k) (hj : x % 4 = j) (hkl : k < f.lines.length) (hkv : k < vs.length) (h4 : f.lines[k].cells.length = 4) {b c : Nat}
    (hv : vs[k] = .slice (some ⟨b, 0, none⟩) 4 c) (d : Nat × Nat) : OwnM B (((w.setCell ⟨b, j * 2, none⟩ (.int .u8 (d.1 : Int))).setCell ⟨b, j * 2 + 1, none⟩ (.int .u16 (d.2 : Int))).setCell ⟨h, k * 3 + 1, none⟩ (.bool true)) g cg h ch vs (putM f x d) := by
  have T1 := H.cell_set k hkl hkv (by rw [h4]; exact hv) j d.1 d.2 (by omega)
  have T2 := T1.dirty_set k (by simpa using hkl) true
  have e : lineM f n = f.lines[k] := by unfold lineM; rw [hk, getD_in _ _ hkl]
  unfold putM
  rw [hn, hk, hj, e]
  simpa using T2

set_option maxHeartbeats 4000000 in
set_option maxRecDepth 20000 in
theorem cache_Write_in (a al : Option Addr) (ca cl : Nat) (m : Mem) (x : Nat) (c : Nat × Nat) (w : World) (hM : MemAt w a al m) (hV : MV m) (hx : x < 512) (hc : VC c) :
    Calls Try.prog 18 #[.agg #[.slice a 512 ca, .slice al 4 cl], .int .i64 (x : Int), .agg #[.int .u8 (c.1 : Int), .int .u16 (c.2 : Int)]] w (GivesWrite m x c w) := by
  have g1 := World.grownBy_alloc (w.alloc (.cells #[.slice a 512 ca, .slice al 4 cl] 31)) (.cells #[.int .u8 (c.1 : Int), .int .u16 (c.2 : Int)] 25) none
  have g2 := World.grownBy_alloc ((w.alloc (.cells #[.slice a 512 ca, .slice al 4 cl] 31)).alloc (.cells #[.int .u8 (c.1 : Int), .int .u16 (c.2 : Int)] 25)) (.cells #[.slice none 0 0, .slice none 0 0] 31) none
  have hs1 : (w.alloc (.cells #[.slice a 512 ca, .slice al 4 cl] 31)).heap.size = w.heap.size + 1 := by simp
  have hs2 : ((w.alloc (.cells #[.slice a 512 ca, .slice al 4 cl] 31)).alloc (.cells #[.int .u8 (c.1 : Int), .int .u16 (c.2 : Int)] 25)).heap.size = w.heap.size + 1 + 1 := by simp
  have hs3 : (((w.alloc (.cells #[.slice a 512 ca, .slice al 4 cl] 31)).alloc (.cells #[.int .u8 (c.1 : Int), .int .u16 (c.2 : Int)] 25)).alloc (.cells #[.slice none 0 0, .slice none 0 0] 31)).heap.size = w.heap.size + 3 := by simp
  have bm := ((Blk.new (W := w) #[.slice a 512 ca, .slice al 4 cl] 31).kept g1 (by simp)).kept g2 (by simp)
  have bc := (Blk.new (W := (w.alloc (.cells #[.slice a 512 ca, .slice al 4 cl] 31))) #[.int .u8 (c.1 : Int), .int .u16 (c.2 : Int)] 25).kept g2 (by simp)
  have br := Blk.new (W := ((w.alloc (.cells #[.slice a 512 ca, .slice al 4 cl] 31)).alloc (.cells #[.int .u8 (c.1 : Int), .int .u16 (c.2 : Int)] 25))) #[.slice none 0 0, .slice none 0 0] 31
  rw [hs1] at bc
  rw [hs2] at br
  have hB := Below.alloc (Below.alloc (Below.alloc (Below.refl w.heap.size w) (Nat.le_refl _) (.cells #[.slice a 512 ca, .slice al 4 cl] 31)) (by rw [hs1]; omega) (.cells #[.int .u8 (c.1 : Int), .int .u16 (c.2 : Int)] 25)) (by rw [hs2]; omega) (.cells #[.slice none 0 0, .slice none 0 0] 31)
  have hM0 := hM.later hB
  have HS3 := Lib.hid hs3
  obtain ⟨n, hn⟩ : ∃ n, x / 4 = n := ⟨_, rfl⟩
  obtain ⟨k, hk⟩ : ∃ k, n % 4 = k := ⟨_, rfl⟩
  obtain ⟨j, hj⟩ : ∃ j, x % 4 = j := ⟨_, rfl⟩
  have n3 : (x : Int) % 4 = (j : Int) := by omega
  have hn8 : n < 128 := by omega
  have hk4 : k < 4 := by omega
  have hj4 : j < 4 := by omega
  have hG := Lib.hid (fun e w' => show (∃ g cg h ch vs, e = .returned (.tuple #[.agg #[.slice (some ⟨g, 0, none⟩) 512 cg, .slice (some ⟨h, 0, none⟩) 4 ch], .int .i64 0]) ∧ OwnM w.heap.size w' g cg h ch vs (putM (fetchM m n) x c) ∧ Below w.heap.size w w') → GivesWrite m x c w e w' by unfold GivesWrite writeM; rw [hn]; exact id)
  have h4 := fetch_four hV hn8
  have hMV := (hV.fetch hn8)
  have hlm : lineM (fetchM m n) n = (fetchM m n).lines.getD k emptyL := by unfold lineM; rw [hk]
  have hkl : k < (fetchM m n).lines.length := by have := hMV.lines; omega
  rw [getD_in _ _ hkl] at hlm
  rw [hlm] at h4
  have HV := Lib.hid (fun W => word_Valid (c.1 : Int) (c.2 : Int) W (by have := hc.1; have := hc.2; omega) (by have := hc.1; have := hc.2; omega))
  have hd : (decide ((c.1 : Int) ≤ 2)) = true := decide_eq_true (by have := hc.1; omega)
  rw [hd] at HV
  have HT := Lib.hid (fun W (h : Below (((w.alloc (.cells #[.slice a 512 ca, .slice al 4 cl] 31)).alloc (.cells #[.int .u8 (c.1 : Int), .int .u16 (c.2 : Int)] 25)).alloc (.cells #[.slice none 0 0, .slice none 0 0] 31)).heap.size (((w.alloc (.cells #[.slice a 512 ca, .slice al 4 cl] 31)).alloc (.cells #[.int .u8 (c.1 : Int), .int .u16 (c.2 : Int)] 25)).alloc (.cells #[.slice none 0 0, .slice none 0 0] 31)) W) => cache_has_true a al ca cl m x W (hM0.later h) hV (by omega) (by omega))
  have HF := Lib.hid (fun W (h : Below (((w.alloc (.cells #[.slice a 512 ca, .slice al 4 cl] 31)).alloc (.cells #[.int .u8 (c.1 : Int), .int .u16 (c.2 : Int)] 25)).alloc (.cells #[.slice none 0 0, .slice none 0 0] 31)).heap.size (((w.alloc (.cells #[.slice a 512 ca, .slice al 4 cl] 31)).alloc (.cells #[.int .u8 (c.1 : Int), .int .u16 (c.2 : Int)] 25)).alloc (.cells #[.slice none 0 0, .slice none 0 0] 31)) W) => cache_fetch a al ca cl m x n k W (hM0.later h) hV hx hn hk)
  have H4 := Lib.hid h4
  have HPU := Lib.hid (fun (W : World) (B g cg h ch : Nat) (vs : List Value) (b cc : Nat) (hO : OwnM B W g cg h ch vs (fetchM m n)) (hkv : k < vs.length) (hv : vs[k] = .slice (some ⟨b, 0, none⟩) 4 cc) => hO.put x n k j hn hk hj hkl hkv H4.out hv c)
  clear g1 g2 hs1 hs2 hs3 hn hk hj h4 hlm hMV hM hM0 hd hc
  generalize hfm : fetchM m n = f at *
  have HFE := Lib.hid hfm
  clear hfm
  go_enter Try.func18, Try.ntmps18
  go_upto_region 1 with fail
  generalize (((w.alloc (.cells #[.slice a 512 ca, .slice al 4 cl] 31)).alloc (.cells #[.int .u8 (c.1 : Int), .int .u16 (c.2 : Int)] 25)).alloc (.cells #[.slice none 0 0, .slice none 0 0] 31)) = W0 at *
  have c0 := (bc 0 (by simp)).1
  have c1 := (bc 1 (by simp)).1
  go_wp2_with fail
  refine (HV.out _).mono ?_
  rintro e W9 ⟨rfl, hb9⟩
  have bm9 := bm.later hb9
  have m0 := (bm9 0 (by simp)).1
  have m1 := (bm9 1 (by simp)).1
  go_wp2_with fail
  refine (HT.out _ hb9).mono ?_
  rintro e W1 ⟨rfl, hb1⟩
  have hb1 := hb9.trans (hb1.mono hb9.size)
  have bm1 := bm.later hb1
  have m0 := (bm1 0 (by simp)).1
  have m1 := (bm1 1 (by simp)).1
  go_wp2_with fail
  refine (HF.out _ hb1).mono ?_
  rintro e W2 ⟨g, cg, h, ch, vs, rfl, hO, hb2⟩
  rw [HFE.out] at hO
  have hO := hO.mono hb1.size
  have hb2 := hb1.trans (hb2.mono hb1.size)
  have hA := Below.alloc (Below.refl W2.heap.size W2) (Nat.le_refl _) (.cells #[.slice (some ⟨g, 0, none⟩) 512 cg, .slice (some ⟨h, 0, none⟩) 4 ch] 31)
  have bF := Blk.new (W := W2) #[.slice (some ⟨g, 0, none⟩) 512 cg, .slice (some ⟨h, 0, none⟩) 4 ch] 31
  have hb3 := hb2.trans (hA.mono hb2.size)
  have hO3 := hO.later hA
  have br3 := br.later hb3
  have bc3 := bc.later hb3
  have hB3 := hB.trans (hb3.mono (by rw [HS3.out]; omega))
  go_upto_region 6 with fail
  generalize W2.alloc (.cells #[.slice (some ⟨g, 0, none⟩) 512 cg, .slice (some ⟨h, 0, none⟩) 4 ch] 31) = W3 at *
  have hsz2 : W0.heap.size ≤ W2.heap.size := hb2.size
  have hbo := hO.bounds
  have hbl := fun (hkv : k < vs.length) (b : Nat) (hb : vs[k].ownBlock = some b) => ((hO.each k hkl hkv).1.lt b hb).2
  generalize W2.heap.size = F at *
  have hkv : k < vs.length := by have := hO3.four; omega
  obtain ⟨t0, t1, t2, t3⟩ := hO3.head k hkl hkv
  obtain ⟨b, cc, hv, hb4, hb5, hbg, hbh, hrow⟩ := hO3.line4 k hkl hkv H4.out
  have hjl : j < f.lines[k].cells.length := by rw [H4.out]; exact hj4
  obtain ⟨d0, d1⟩ := own_cell hrow j hjl
  obtain ⟨y, hy⟩ : ∃ y, f.lines[k].cells[j] = y := ⟨_, rfl⟩
  rw [hy] at d0 d1
  have d2 := hrow.frozenAt (j * 2)
  have d3 := hrow.frozenAt (j * 2 + 1)
  have t4 := t3 (k * 3 + 1)
  rw [hv] at t2
  have hHS := HS3.out
  have c0 := (bc3 0 (by simp)).1
  have c1 := (bc3 1 (by simp)).1
  have x5 : ¬ b = w.heap.size + 1 := by omega
  have y1 : (j : Int) < 4 := by omega
  have y2 : 0 ≤ (j : Int) := by omega
  have HO9 := Lib.hid (HPU.out W3 _ g cg h ch vs b cc hO3 hkv hv)
  have HB9 := Lib.hid ((((hB3.setCell (p := ⟨b, j * 2, none⟩) (by simp; omega) (.int .u8 (c.1 : Int))).setCell (p := ⟨b, j * 2 + 1, none⟩) (by simp; omega) (.int .u16 (c.2 : Int))).setCell (p := ⟨h, k * 3 + 1, none⟩) (by simp; omega) (.bool true)))
  have hbF : b ≠ F := by
    have := hbl hkv b (by rw [hv]; rfl)
    omega
  have gg1 := grownBy_cell W3 b (j * 2) (.int .u8 (c.1 : Int))
  have gg2 := grownBy_cell (W3.setCell ⟨b, j * 2, none⟩ (.int .u8 (c.1 : Int))) b (j * 2 + 1) (.int .u16 (c.2 : Int))
  have gg3 := grownBy_cell ((W3.setCell ⟨b, j * 2, none⟩ (.int .u8 (c.1 : Int))).setCell ⟨b, j * 2 + 1, none⟩ (.int .u16 (c.2 : Int))) h (k * 3 + 1) (.bool true)
  have bF9 := Lib.hid (((bF.kept gg1 (by simp; omega)).kept gg2 (by simp; omega)).kept gg3 (by simp; omega))
  have br9 := Lib.hid (((br3.kept gg1 (by simp; omega)).kept gg2 (by simp; omega)).kept gg3 (by simp; omega))
  have hbh2 : ¬ b = h := hbh
  clear hHS hy hjl hrow hv t0 t3 hbl bF br3 bc3 hO3 hB3 hb3 hA hO hb2 hb1 hb9 bm9 bm1 bm m0 m1 HF HT HV HPU hbg hbh hb4 hb5 bc br hB hbo gg1 gg2 gg3
  go_region
  go_upto_region 8 with fail
  have HO9 := Lib.hid (HO9.out.later (Below.refl _ _).drew)
  have HB9 := Lib.hid (HB9.out.drew)
  have bF9 := bF9.out.later (Below.refl _ _).drew
  have br9 := br9.out.later (Below.refl _ _).drew
  clear c0 c1 d0 d1 d2 d3 t1 t2 t4
  generalize (((W3.setCell ⟨b, j * 2, none⟩ (.int .u8 (c.1 : Int))).setCell ⟨b, j * 2 + 1, none⟩ (.int .u16 (c.2 : Int))).setCell ⟨h, k * 3 + 1, none⟩ (.bool true)).drew = W9 at *
  have hHS := HS3.out
  have F0 := (bF9 0 (by simp)).1
  have F1 := (bF9 1 (by simp)).1
  have r0 := (br9 0 (by simp)).1
  have r1 := (br9 1 (by simp)).1
  have f0 := (br9 0 (by simp)).2
  have f1 := (br9 1 (by simp)).2
  have HR := Lib.hid (hG.out _ ((W9.setCell ⟨w.heap.size + 1 + 1, 0, none⟩ (.slice (some ⟨g, 0, none⟩) 512 cg)).setCell ⟨w.heap.size + 1 + 1, 1, none⟩ (.slice (some ⟨h, 0, none⟩) 4 ch))
    ⟨g, cg, h, ch, vs, rfl, ((HO9.out.far (grownBy_cell _ _ _ _) (by omega)).far (grownBy_cell _ _ _ _) (by omega)).mono (by omega), (HB9.out.setCell (p := ⟨w.heap.size + 1 + 1, 0, none⟩) (by simp; omega) _).setCell (p := ⟨w.heap.size + 1 + 1, 1, none⟩) (by simp; omega) _⟩)
  clear hHS HO9 HB9 bF9 br9 hG
  go_wp2
  refine bodyPost_ret (v := .tuple #[.agg #[.slice (some ⟨g, 0, none⟩) 512 cg, .slice (some ⟨h, 0, none⟩) 4 ch], .int .i64 0]) (by simp [results, Try.results18, go_sem, r0, r1]) rfl HR.out
end Go.Proofs.Ytkffeibjleiaoaa
