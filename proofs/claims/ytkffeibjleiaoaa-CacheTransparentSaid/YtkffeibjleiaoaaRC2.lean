/-
  Contracts of the document's own cache: Load, Store.
-/
import Derived.Test.YtkffeibjleiaoaaRC1
namespace Go.Proofs.Ytkffeibjleiaoaa
open Go.RowKit

theorem fresh_block {B g cg h ch : Nat} {vs : List Value} {m : Mem} {w : World} (H : OwnM B w g cg h ch vs m) {r : Nat} (hr : w.heap.size ≤ r) : r ≠ g ∧ r ≠ h ∧ ∀ i (hi : i < vs.length), vs[i].ownBlock ≠ some r := by
  have hb := H.bounds
  refine ⟨by omega, by omega, fun i hi e => ?_⟩
  have := ((H.each i (by have := H.four; omega) hi).1.lt r e).2
  omega

set_option maxHeartbeats 4000000 in
set_option maxRecDepth 20000 in
theorem ref05_Load (B P g cg h ch : Nat) (vs : List Value) (m : Mem) (x : Nat) (w : World) (H : RefS B P g cg h ch vs m w) (hV : MV m) (hx : x < 512) :
    Calls Try.prog 32 #[.pointer (some ⟨P, 0, none⟩), .int .i64 (x : Int)] w fun e w' => e = .returned (.agg #[.int .u8 ((lookM m x).1 : Int), .int .u16 ((lookM m x).2 : Int)]) ∧ (∃ vs', RefS B P g cg h ch vs' (fetchM m (x / 4)) w') ∧ Below B w w' := by
  obtain ⟨n, hn⟩ : ∃ n, x / 4 = n := ⟨_, rfl⟩
  obtain ⟨k, hk⟩ : ∃ k, n % 4 = k := ⟨_, rfl⟩
  obtain ⟨j, hj⟩ : ∃ j, x % 4 = j := ⟨_, rfl⟩
  have n3 : (x : Int) % 4 = (j : Int) := by omega
  have hn8 : n < 128 := by omega
  have hk4 : k < 4 := by omega
  have hj4 : j < 4 := by omega
  have hrd := fetch_read (a := x) hV hx
  rw [hn, hj] at hrd
  rw [hn]
  have h4 := fetch_four hV hn8
  have hMV := (hV.fetch hn8)
  have hlm : lineM (fetchM m n) n = (fetchM m n).lines.getD k emptyL := by unfold lineM; rw [hk]
  have hkl : k < (fetchM m n).lines.length := by have := hMV.lines; omega
  rw [getD_in _ _ hkl] at hlm
  rw [hlm] at hrd h4
  have hA := Below.alloc (Below.refl w.heap.size w) (Nat.le_refl _) (.cells #[.int .u8 0, .int .u16 0] 25)
  have hAB := Below.alloc (Below.refl B w) H.hB (.cells #[.int .u8 0, .int .u16 0] 25)
  have br := Blk.new (W := w) #[.int .u8 0, .int .u16 0] 25
  have hs1 : (w.alloc (.cells #[.int .u8 0, .int .u16 0] 25)).heap.size = w.heap.size + 1 := by simp
  have HF := Lib.hid (ref05_Fetch B P g cg h ch vs m x n k _ (H.later hA) hV hx hn hk)
  have HR := Lib.hid (fresh_block H.own (Nat.le_refl w.heap.size))
  have HPR : w.heap.size ≠ P := by have := World.block_lt_of_cell? _ _ (H.box 0 (by simp)).1; simp at this; omega
  have HHB := Lib.hid H.hB
  generalize lookM m x = r at *
  have HRD := Lib.hid hrd
  have H4 := Lib.hid h4
  clear hn hk hj hrd h4 hlm hMV H
  generalize hfm : fetchM m n = f at *
  have HFE := Lib.hid hfm
  clear hfm
  go_enter Try.func32, Try.ntmps32
  go_upto_region 1 with fail
  have HS1 := Lib.hid hs1
  generalize w.alloc (.cells #[.int .u8 0, .int .u16 0] 25) = W0 at *
  clear hs1
  go_wp2_with (go_at_call 47; (with_reducible refine HF.out.mono ?_); rintro e W1 ⟨vs', rfl, H1, hb1, hv1, hs9⟩; rw [HFE.out] at H1; have hkv : k < vs'.length := (by have := H1.own.four; omega); obtain ⟨t0, t1, t2, t3⟩ := H1.own.head k hkl hkv; obtain ⟨b, c, hv, hb4, hb5, hbg, hbh, hrow⟩ := H1.own.line4 k hkl hkv H4.out; have hjl : j < f.lines[k].cells.length := (by rw [H4.out]; exact hj4); obtain ⟨d0, d1⟩ := own_cell hrow j hjl; have hrr : f.lines[k].cells[j] = r := (by have := HRD.out; rw [getD_in _ _ hjl] at this; exact this); rw [hrr] at d0 d1; rw [hv] at t2; have y1 : (j : Int) < 4 := (by omega); have y2 : 0 ≤ (j : Int) := (by omega); have hvR := Lib.hid (hv1 w.heap.size (by rw [HS1.out]; omega) HR.out.2.2); have br1 := (show Blk W1 w.heap.size [.int .u8 0, .int .u16 0] from br.same (hs9 _ (by rw [HS1.out]; omega) HR.out.1 HR.out.2.1)); have r0 := (br1 0 (by simp)).1; have r1 := (br1 1 (by simp)).1; have f0 := (br1 0 (by simp)).2; have f1 := (br1 1 (by simp)).2; clear t0 t1 t3 hrr hjl hrow hv)
  have HW := Lib.hid ((((hAB.trans hb1).setCell (p := ⟨w.heap.size, 0, none⟩) HHB.out (.int .u8 (r.1 : Int)))).setCell (p := ⟨w.heap.size, 1, none⟩) HHB.out (.int .u16 (r.2 : Int)))
  have HX := Lib.hid ((H1.write (grownBy_cell W1 w.heap.size 0 (.int .u8 (r.1 : Int))) HPR HR.out.1 HR.out.2.1 hvR.out).write (grownBy_cell _ w.heap.size 1 (.int .u16 (r.2 : Int))) HPR HR.out.1 HR.out.2.1 hvR.out)
  clear H1 hb1 hv1 hs9 br1 br hA hAB hbg hbh hb4 hb5
  refine bodyPost_ret (v := .agg #[.int .u8 (r.1 : Int), .int .u16 (r.2 : Int)]) (by simp [results, Try.results32, go_sem, r0, r1]) rfl ⟨rfl, ⟨_, HX.out⟩, HW.out⟩

set_option maxHeartbeats 4000000 in
set_option maxRecDepth 20000 in
theorem ref05_Store (B P g cg h ch : Nat) (vs : List Value) (m : Mem) (x : Nat) (c : Nat × Nat) (w : World) (H : RefS B P g cg h ch vs m w) (hV : MV m) (hx : x < 512) :
    Calls Try.prog 39 #[.pointer (some ⟨P, 0, none⟩), .int .i64 (x : Int), .agg #[.int .u8 (c.1 : Int), .int .u16 (c.2 : Int)]] w fun e w' => e = .returned (.tuple #[]) ∧ (∃ vs', RefS B P g cg h ch vs' (writeM m x c) w') ∧ Below B w w' := by
  obtain ⟨n, hn⟩ : ∃ n, x / 4 = n := ⟨_, rfl⟩
  obtain ⟨k, hk⟩ : ∃ k, n % 4 = k := ⟨_, rfl⟩
  obtain ⟨j, hj⟩ : ∃ j, x % 4 = j := ⟨_, rfl⟩
  have n3 : (x : Int) % 4 = (j : Int) := by omega
  have hn8 : n < 128 := by omega
  have hk4 : k < 4 := by omega
  have hj4 : j < 4 := by omega
  have hwr : writeM m x c = putM (fetchM m n) x c := by unfold writeM; rw [hn]
  rw [hwr]
  have h4 := fetch_four hV hn8
  have hMV := (hV.fetch hn8)
  have hlm : lineM (fetchM m n) n = (fetchM m n).lines.getD k emptyL := by unfold lineM; rw [hk]
  have hkl : k < (fetchM m n).lines.length := by have := hMV.lines; omega
  rw [getD_in _ _ hkl] at hlm
  rw [hlm] at h4
  have hA := Below.alloc (Below.refl w.heap.size w) (Nat.le_refl _) (.cells #[.int .u8 (c.1 : Int), .int .u16 (c.2 : Int)] 25)
  have hAB := Below.alloc (Below.refl B w) H.hB (.cells #[.int .u8 (c.1 : Int), .int .u16 (c.2 : Int)] 25)
  have bc := Blk.new (W := w) #[.int .u8 (c.1 : Int), .int .u16 (c.2 : Int)] 25
  have hs1 : (w.alloc (.cells #[.int .u8 (c.1 : Int), .int .u16 (c.2 : Int)] 25)).heap.size = w.heap.size + 1 := by simp
  have HF := Lib.hid (ref05_Fetch B P g cg h ch vs m x n k _ (H.later hA) hV hx hn hk)
  have HR := Lib.hid (fresh_block H.own (Nat.le_refl w.heap.size))
  have HPR : w.heap.size ≠ P := by have := World.block_lt_of_cell? _ _ (H.box 0 (by simp)).1; simp at this; omega
  have HHB := Lib.hid H.hB
  have H4 := Lib.hid h4
  have HPU := Lib.hid (fun (W : World) (vs : List Value) (b cc : Nat) (hO : OwnM B W g cg h ch vs (fetchM m n)) (hkv : k < vs.length) (hv : vs[k] = .slice (some ⟨b, 0, none⟩) 4 cc) => hO.put x n k j hn hk hj hkl hkv H4.out hv c)
  clear hn hk hj h4 hlm hMV H hwr
  generalize hfm : fetchM m n = f at *
  have HFE := Lib.hid hfm
  clear hfm
  go_enter Try.func39, Try.ntmps39
  go_upto_region 1 with fail
  have HS1 := Lib.hid hs1
  generalize w.alloc (.cells #[.int .u8 (c.1 : Int), .int .u16 (c.2 : Int)] 25) = W0 at *
  clear hs1
  go_upto_region 2 with (go_at_call 47; (with_reducible refine HF.out.mono ?_); rintro e W1 ⟨vs', rfl, H1, hb1, hv1, hs9⟩; rw [HFE.out] at H1)
  have hkv : k < vs'.length := by have := H1.own.four; omega
  obtain ⟨t0, t1, t2, t3⟩ := H1.own.head k hkl hkv
  obtain ⟨b, cc, hv, hb4, hb5, hbg, hbh, hrow⟩ := H1.own.line4 k hkl hkv H4.out
  have hjl : j < f.lines[k].cells.length := by rw [H4.out]; exact hj4
  obtain ⟨d0, d1⟩ := own_cell hrow j hjl
  obtain ⟨y, hy⟩ : ∃ y, f.lines[k].cells[j] = y := ⟨_, rfl⟩
  rw [hy] at d0 d1
  have d2 := hrow.frozenAt (j * 2)
  have d3 := hrow.frozenAt (j * 2 + 1)
  have t4 := t3 (k * 3 + 1)
  have bc1 := bc.same (hs9 _ (by rw [HS1.out]; omega) HR.out.1 HR.out.2.1)
  have c0 := (bc1 0 (by simp)).1
  have c1 := (bc1 1 (by simp)).1
  have hbR : ¬ b = w.heap.size := fun e => hv1 w.heap.size (by rw [HS1.out]; omega) HR.out.2.2 k hkv (by rw [hv, e]; rfl)
  have hhR : ¬ h = w.heap.size := fun e => HR.out.2.1 e.symm
  have hbP : b ≠ P := fun e => H1.pv k hkv (by rw [hv, e]; rfl)
  have hbh2 : ¬ b = h := hbh
  have hhb2 : ¬ h = b := fun e => hbh e.symm
  have y1 : (j : Int) < 4 := by omega
  have y2 : 0 ≤ (j : Int) := by omega
  have gg1 := grownBy_cell W1 b (j * 2) (.int .u8 (c.1 : Int))
  have gg2 := grownBy_cell (W1.setCell ⟨b, j * 2, none⟩ (.int .u8 (c.1 : Int))) b (j * 2 + 1) (.int .u16 (c.2 : Int))
  have gg3 := grownBy_cell ((W1.setCell ⟨b, j * 2, none⟩ (.int .u8 (c.1 : Int))).setCell ⟨b, j * 2 + 1, none⟩ (.int .u16 (c.2 : Int))) h (k * 3 + 1) (.bool true)
  have hhP : h ≠ P := fun e => H1.ph e.symm
  have hBox := ((H1.box.kept gg1 (by simp; omega)).kept gg2 (by simp; omega)).kept gg3 (by simp; omega)
  have hhB := H1.own.bounds.2.2.1
  have HX := Lib.hid (show RefS B P g cg h ch vs' (putM f x c) ((((W1.setCell ⟨b, j * 2, none⟩ (.int .u8 (c.1 : Int))).setCell ⟨b, j * 2 + 1, none⟩ (.int .u16 (c.2 : Int))).setCell ⟨h, k * 3 + 1, none⟩ (.bool true)).drew) from
    RefS.later ⟨HPU.out W1 vs' b cc H1.own hkv hv, hBox, H1.pg, H1.ph, H1.pv, Nat.le_trans H1.hB (Nat.le_trans gg1.size (Nat.le_trans gg2.size gg3.size))⟩ (Below.refl _ _).drew)
  have HW := Lib.hid (((((hAB.trans hb1).setCell (p := ⟨b, j * 2, none⟩) hb4 (.int .u8 (c.1 : Int))).setCell (p := ⟨b, j * 2 + 1, none⟩) hb4 (.int .u16 (c.2 : Int))).setCell (p := ⟨h, k * 3 + 1, none⟩) hhB (.bool true)).drew)
  rw [hv] at t2
  clear gg1 gg2 gg3 hBox hhB H1 hb1 hv1 hs9 bc bc1 hA hAB hbg hb4 hb5 hv hrow hy hjl t0 t3 HF HPU
  go_region
  exact bodyPost_end (results_none (by rfl) _ _ _) rfl ⟨rfl, ⟨_, HX.out⟩, HW.out⟩
end Go.Proofs.Ytkffeibjleiaoaa
