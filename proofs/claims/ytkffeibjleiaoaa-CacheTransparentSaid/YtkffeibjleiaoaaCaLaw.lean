/-
  Contracts of the laws of the cache: fresh; the document's Poke.
-/
import Derived.Test.YtkffeibjleiaoaaRC3
import Derived.Test.YtkffeibjleiaoaaDeck2
namespace Go.Proofs.Ytkffeibjleiaoaa
open Go.RowKit

/-- A new memory. -/
def freshM : Mem := ⟨List.replicate 512 (0, 0), emptyM⟩

theorem fresh_MV : MV freshM := .empty List.length_replicate (fun c hc => by rw [(List.mem_replicate.1 hc).2]; exact ⟨by omega, by omega⟩)

theorem fresh_Coh : Coh freshM := .empty _

theorem fresh_close {w W : World} {z g cl B' : Nat} (hc : W.ownsRow w.heap.size 25 2 (.slice (some ⟨z, 0, none⟩) 512 512) 512 (cellRows (List.replicate 512 (0, 0))).flatten)
    (hl : W.ownsRow B' 53 3 (.slice (some ⟨g, 0, none⟩) 4 cl) 4 (emptyRows 4).flatten) (hB' : w.heap.size ≤ B') (hz : z ≠ w.heap.size) (hg : g ≠ w.heap.size) (hzg : z ≠ g) (hb : Below w.heap.size w W) :
    GivesMem freshM w (.returned (.agg #[.slice (some ⟨z, 0, none⟩) 512 512, .slice (some ⟨g, 0, none⟩) 4 cl])) ((W.setCell ⟨w.heap.size, 0, none⟩ (.slice (some ⟨z, 0, none⟩) 512 512)).setCell ⟨w.heap.size, 1, none⟩ (.slice (some ⟨g, 0, none⟩) 4 cl)) := by
  have g1 := grownBy_cell W w.heap.size 0 (.slice (some ⟨z, 0, none⟩) 512 512)
  have g2 := grownBy_cell (W.setCell ⟨w.heap.size, 0, none⟩ (.slice (some ⟨z, 0, none⟩) 512 512)) w.heap.size 1 (.slice (some ⟨g, 0, none⟩) 4 cl)
  have c2 := (hc.kept g1 (.inr (fun e => hz (Option.some.inj e)))).kept g2 (.inr (fun e => hz (Option.some.inj e)))
  have l2 := (hl.kept g1 (.inr (fun e => hg (Option.some.inj e)))).kept g2 (.inr (fun e => hg (Option.some.inj e)))
  refine ⟨z, 512, g, cl, List.replicate 4 (.slice none 0 0), rfl, ⟨c2, ?_, ⟨rfl, rfl⟩, hzg, fun i h1 h2 => ?_, fun i j h1 h2 _ => .inl ?_⟩, (hb.setCell (p := ⟨w.heap.size, 0, none⟩) (Nat.le_refl _) _).setCell (p := ⟨w.heap.size, 1, none⟩) (Nat.le_refl _) _⟩
  · exact l2.mono hB'
  · have e1 : (List.replicate 4 (Value.slice none 0 0))[i] = .slice none 0 0 := List.getElem_replicate _
    have e2 : freshM.lines[i] = emptyL := List.getElem_replicate (a := emptyL) (n := 4) h1
    have key : ∀ (x : MLine) (v : Value) (W : World), x = emptyL → v = .slice none 0 0 → W.ownsRow w.heap.size 25 2 v x.cells.length (cellRows x.cells).flatten ∧ v.ownBlock ≠ some z ∧ v.ownBlock ≠ some g := by
      rintro x v W rfl rfl
      exact ⟨World.ownsRow_nil _ _ _ _, by simp [Value.ownBlock], by simp [Value.ownBlock]⟩
    exact key _ _ _ e2 e1
  · rw [List.getElem_replicate]; rfl

set_option maxHeartbeats 2000000 in
theorem law05_fresh (w : World) : Calls Try.prog 25 #[] w (GivesMem freshM w) := by
  have HE := Lib.hid ref04_Empty
  obtain ⟨Z, hZ1, hZ2, hZ⟩ := made512
  have HZ := Lib.hid (And.intro hZ1 hZ2)
  have hA := Below.alloc (Below.refl w.heap.size w) (Nat.le_refl _) (.cells #[.slice none 0 0, .slice none 0 0] 31)
  have br := Blk.new (W := w) #[.slice none 0 0, .slice none 0 0] 31
  have hs : (w.alloc (.cells #[.slice none 0 0, .slice none 0 0] 31)).heap.size = w.heap.size + 1 := by simp
  have HS := Lib.hid hs
  clear hZ1 hZ2 hs
  go_enter Try.func25, Try.ntmps25
  go_upto_region 1 with fail
  generalize w.alloc (.cells #[.slice none 0 0, .slice none 0 0] 31) = W0 at *
  have bA : ∀ w2, Below (W0.drew.alloc (.cells Z 25)).heap.size (W0.drew.alloc (.cells Z 25)) w2 → Blk w2 w.heap.size [.slice none 0 0, .slice none 0 0] := fun w2 h => ((br.later (Below.refl _ _).drew).kept (World.grownBy_alloc W0.drew _ none) (by simp)).later h
  have bB : ∀ w2, Below W0.drew.heap.size W0.drew w2 → Blk w2 w.heap.size [.slice none 0 0, .slice none 0 0] ∧ Blk (w2.alloc (.cells Z 25)) w.heap.size [.slice none 0 0, .slice none 0 0] := fun w2 h => ⟨(br.later (Below.refl _ _).drew).later h, ((br.later (Below.refl _ _).drew).later h).kept (World.grownBy_alloc w2 _ none) (by simp)⟩
  have BA := Lib.hid bA
  have BB := Lib.hid bB
  clear bA bB br
  go_region_with (go_at_call 44; (with_reducible refine (HE.out _).mono ?_); rintro e w2 ⟨g, cl, rfl, hown2, hb2⟩; first
    | (have bx := BA.out w2 hb2; have x0 := (bx 0 (by simp)).1; have x1 := (bx 1 (by simp)).1; have y0 := (bx 0 (by simp)).2; have y1 := (bx 1 (by simp)).2)
    | (have bx := BB.out w2 hb2; have x0 := (bx.1 0 (by simp)).1; have x1 := (bx.1 1 (by simp)).1; have y0 := (bx.1 0 (by simp)).2; have y1 := (bx.1 1 (by simp)).2; have z0 := (bx.2 0 (by simp)).1; have z1 := (bx.2 1 (by simp)).1; have z2 := (bx.2 0 (by simp)).2; have z3 := (bx.2 1 (by simp)).2))
  · have hR : W0.drew.heap.size = W0.heap.size := rfl
    have hO := own512 W0.drew HZ.out (b := w.heap.size) (by have := HS.out; omega)
    have F := fresh_close (w := w) (hO.late hb2) hown2 (Nat.le_trans (show w.heap.size ≤ W0.drew.heap.size by have := HS.out; rw [hR]; omega) (World.grownBy_alloc W0.drew (.cells Z 25) none).size) (by have := HS.out; rw [hR]; omega) (by
      have h9 : (W0.drew.alloc (.cells Z 25)).heap.size ≤ g := (hown2.lt g rfl).1
      have h8 := (World.grownBy_alloc W0.drew (.cells Z 25) none).size
      have := HS.out
      omega) (by
      have h9 : (W0.drew.alloc (.cells Z 25)).heap.size ≤ g := (hown2.lt g rfl).1
      have h8 := World.block_lt_of_cell? _ _ (hO.cellAt 0 (by omega) |>.trans (by rfl : _ = some (Value.int .u8 0)))
      simp only at h8
      omega) ((hA.drew.alloc (by have := HS.out; rw [hR]; omega) _).trans (hb2.mono (by have := HS.out; simp; omega)))
    rw [hR] at F
    have HF := Lib.hid F
    clear F hO hb2 hown2 HE HZ
    go_wp2
    refine bodyPost_ret (v := .agg #[.slice (some ⟨W0.heap.size, 0, none⟩) 512 512, .slice (some ⟨g, 0, none⟩) 4 cl]) (by simp [results, Try.results25, go_sem, x0, x1]) rfl HF.out
  · have hR : W0.drew.heap.size = W0.heap.size := rfl
    have h2 := hb2.size
    have hO := own512 w2 HZ.out (b := w.heap.size) (by have := HS.out; omega)
    have F := fresh_close (w := w) hO (hown2.kept (World.grownBy_alloc w2 (.cells Z 25) none) (.inr (by simp [Value.ownBlock]))) (by have := HS.out; omega) (by have := HS.out; omega) (by
      have h9 := (hown2.lt g rfl).1
      have := HS.out
      omega) (by have := (hown2.lt g rfl).2; omega) ((hA.drew.trans (hb2.mono (by have := HS.out; omega))).alloc (by have := HS.out; omega) _)
    have HF := Lib.hid F
    clear F hO hb2 hown2 HE HZ
    go_wp2
    refine bodyPost_ret (v := .agg #[.slice (some ⟨w2.heap.size, 0, none⟩) 512 512, .slice (some ⟨g, 0, none⟩) 4 cl]) (by simp [results, Try.results25, go_sem, z0, z1]) rfl HF.out

def GivesPoke (m : Mem) (x : Nat) (c : Nat × Nat) (w : World) (e : Ending) (w' : World) : Prop :=
  ∃ g cg h ch vs, e = .returned (.tuple #[.agg #[.slice (some ⟨g, 0, none⟩) 512 cg, .slice (some ⟨h, 0, none⟩) 4 ch], .int .i64 0]) ∧ OwnM w.heap.size w' g cg h ch vs (pokeM m x c) ∧ Below w.heap.size w w'

set_option maxHeartbeats 4000000 in
set_option maxRecDepth 20000 in
theorem ref04_Poke_in (a al : Option Addr) (ca cl : Nat) (m : Mem) (x : Nat) (c : Nat × Nat) (w : World) (hM : MemAt w a al m) (hV : MV m) (hx : x < 512) (hc : VC c) :
    Calls Try.prog 28 #[.agg #[.slice a 512 ca, .slice al 4 cl], .int .i64 (x : Int), .agg #[.int .u8 (c.1 : Int), .int .u16 (c.2 : Int)]] w (GivesPoke m x c w) := by
  have g1 := World.grownBy_alloc (w.alloc (.cells #[.slice a 512 ca, .slice al 4 cl] 31)) (.cells #[.int .u8 (c.1 : Int), .int .u16 (c.2 : Int)] 25) none
  have g2 := World.grownBy_alloc ((w.alloc (.cells #[.slice a 512 ca, .slice al 4 cl] 31)).alloc (.cells #[.int .u8 (c.1 : Int), .int .u16 (c.2 : Int)] 25)) (.cells #[.slice none 0 0, .slice none 0 0] 31) none
  have hs1 : (w.alloc (.cells #[.slice a 512 ca, .slice al 4 cl] 31)).heap.size = w.heap.size + 1 := by simp
  have hs2 : ((w.alloc (.cells #[.slice a 512 ca, .slice al 4 cl] 31)).alloc (.cells #[.int .u8 (c.1 : Int), .int .u16 (c.2 : Int)] 25)).heap.size = w.heap.size + 1 + 1 := by simp
  have hs3 : (((w.alloc (.cells #[.slice a 512 ca, .slice al 4 cl] 31)).alloc (.cells #[.int .u8 (c.1 : Int), .int .u16 (c.2 : Int)] 25)).alloc (.cells #[.slice none 0 0, .slice none 0 0] 31)).heap.size = w.heap.size + 3 := by simp
  have bm := ((Blk.new (W := w) #[.slice a 512 ca, .slice al 4 cl] 31).kept g1 (by simp)).kept g2 (by simp)
  have bc := (Blk.new (W := (w.alloc (.cells #[.slice a 512 ca, .slice al 4 cl] 31))) #[.int .u8 (c.1 : Int), .int .u16 (c.2 : Int)] 25).kept g2 (by simp)
  have br := Blk.new (W := ((w.alloc (.cells #[.slice a 512 ca, .slice al 4 cl] 31)).alloc (.cells #[.int .u8 (c.1 : Int), .int .u16 (c.2 : Int)] 25))) #[.slice none 0 0, .slice none 0 0] 31
  rw [hs1] at bc
  rw [hs2] at br
  have hB := Below.alloc (Below.alloc (Below.alloc (Below.refl w.heap.size w) (Nat.le_refl _) (.cells #[.slice a 512 ca, .slice al 4 cl] 31)) (by rw [hs1]; omega) (.cells #[.int .u8 (c.1 : Int), .int .u16 (c.2 : Int)] 25)) (by rw [hs2]; omega) (.cells #[.slice none 0 0, .slice none 0 0] 31)
  have hM0 := hM.later hB
  have HS3 := Lib.hid hs3
  clear g1 g2 hs1 hs2 hs3 hM
  have i1 : ¬ (x : Int) < 0 := by omega
  have i2 : ¬ (512 : Int) ≤ (x : Int) := by omega
  have HV := Lib.hid (fun W => ref01_Valid (c.1 : Int) (c.2 : Int) W (by have := hc.1; have := hc.2; omega) (by have := hc.1; have := hc.2; omega))
  have hd : (decide ((c.1 : Int) ≤ 2)) = true := decide_eq_true (by have := hc.1; omega)
  rw [hd] at HV
  clear hd hc
  go_enter Try.func28, Try.ntmps28
  go_upto_region 1 with fail
  generalize (((w.alloc (.cells #[.slice a 512 ca, .slice al 4 cl] 31)).alloc (.cells #[.int .u8 (c.1 : Int), .int .u16 (c.2 : Int)] 25)).alloc (.cells #[.slice none 0 0, .slice none 0 0] 31)) = W0 at *
  have c0 := (bc 0 (by simp)).1
  have c1 := (bc 1 (by simp)).1
  go_wp2_with fail
  refine (HV.out _).mono ?_
  rintro e W9 ⟨rfl, hb9⟩
  have bm9 := bm.later hb9
  have m0 := (bm9 0 (by simp)).1
  have m1 := (bm9 1 (by simp)).1
  have HC := ref04_Copy a al ca cl m W9 (hM0.later hb9) hV
  have hB := hB.trans (hb9.mono hB.size)
  have bc := bc.later hb9
  have br := br.later hb9
  have HS4 : Hid (w.heap.size + 3 ≤ W9.heap.size) := Lib.hid (by have := hb9.size; have := HS3.out; omega)
  have HC := Lib.hid HC
  clear hM0 hb9 bm9 bm
  generalize W9 = W0 at *
  go_wp2_with fail
  refine HC.out.mono ?_
  rintro e W1 ⟨g, cg, h, ch, vs, rfl, hown, hb1⟩
  have hA := Below.alloc (Below.refl W1.heap.size W1) (Nat.le_refl _) (.cells #[.slice (some ⟨g, 0, none⟩) 512 cg, .slice (some ⟨h, 0, none⟩) 4 ch] 31)
  have bF := Blk.new (W := W1) #[.slice (some ⟨g, 0, none⟩) 512 cg, .slice (some ⟨h, 0, none⟩) 4 ch] 31
  have hfr := fresh_block hown (Nat.le_refl W1.heap.size)
  have H2 := hown.later hA
  go_upto_region 6 with fail
  have hsF : (W1.alloc (.cells #[.slice (some ⟨g, 0, none⟩) 512 cg, .slice (some ⟨h, 0, none⟩) 4 ch] 31)).heap.size = W1.heap.size + 1 := by simp
  have HRS : RefS W0.heap.size W1.heap.size g cg h ch vs m (W1.alloc (.cells #[.slice (some ⟨g, 0, none⟩) 512 cg, .slice (some ⟨h, 0, none⟩) 4 ch] 31)) := ⟨H2, bF, hfr.1, hfr.2.1, hfr.2.2, by rw [hsF]; have := hb1.size; omega⟩
  have hb2 := hb1.trans (hA.mono hb1.size)
  have hsz1 : W0.heap.size ≤ W1.heap.size := hb1.size
  clear hsF hfr hown hA hb1 H2
  generalize W1.alloc (.cells #[.slice (some ⟨g, 0, none⟩) 512 cg, .slice (some ⟨h, 0, none⟩) 4 ch] 31) = W2 at *
  generalize W1.heap.size = F at *
  have bc2 := bc.later hb2
  have c0 := (bc2 0 (by simp)).1
  have c1 := (bc2 1 (by simp)).1
  have hxl : x < m.cells.length := by rw [hV.len]; exact hx
  obtain ⟨d0, d1⟩ := own_cell HRS.own.cells x hxl
  obtain ⟨y, hy⟩ : ∃ y, m.cells[x] = y := ⟨_, rfl⟩
  rw [hy] at d0 d1
  have d2 := HRS.own.cells.frozenAt (x * 2)
  have d3 := HRS.own.cells.frozenAt (x * 2 + 1)
  have F0 := (HRS.box 0 (by simp)).1
  obtain ⟨o1, og⟩ := own_put HRS.own.cells x c.1 c.2 hxl
  have H3 := Lib.hid (show OwnM W0.heap.size _ g cg h ch vs (pokeM m x c) from HRS.own.cells_set og o1)
  have hgB := HRS.own.bounds.1
  have hFg := HRS.pg
  have hb3 := Lib.hid ((hb2.setCell (p := ⟨g, x * 2, none⟩) hgB (.int .u8 (c.1 : Int))).setCell (p := ⟨g, x * 2 + 1, none⟩) hgB (.int .u16 (c.2 : Int)))
  have b3 := Lib.hid (HRS.box.kept og (by simp; omega))
  have y1 : (x : Int) < 512 := by omega
  have y2 : 0 ≤ (x : Int) := by omega
  clear HRS bF hxl hy o1 og hb2
  go_upto_region 7 with fail
  clear d0 d1 d2 d3 F0 c0 c1
  generalize (W2.setCell ⟨g, x * 2, none⟩ (.int .u8 (c.1 : Int))).setCell ⟨g, x * 2 + 1, none⟩ (.int .u16 (c.2 : Int)) = W3 at *
  have hb3 := hb3.out
  have hB3 := hB.trans (hb3.mono hB.size)
  have br3 := br.later hb3
  have F0 := (b3.out 0 (by simp)).1
  have F1 := (b3.out 1 (by simp)).1
  have r0 := (br3 0 (by simp)).1
  have r1 := (br3 1 (by simp)).1
  have f0 := (br3 0 (by simp)).2
  have f1 := (br3 1 (by simp)).2
  have hHS := HS4.out
  have HR : Hid (GivesPoke m x c w (.returned (.tuple #[.agg #[.slice (some ⟨g, 0, none⟩) 512 cg, .slice (some ⟨h, 0, none⟩) 4 ch], .int .i64 0])) ((W3.setCell ⟨w.heap.size + 1 + 1, 0, none⟩ (.slice (some ⟨g, 0, none⟩) 512 cg)).setCell ⟨w.heap.size + 1 + 1, 1, none⟩ (.slice (some ⟨h, 0, none⟩) 4 ch))) :=
    Lib.hid ⟨g, cg, h, ch, vs, rfl, ((H3.out.far (grownBy_cell _ _ _ _) (by omega)).far (grownBy_cell _ _ _ _) (by omega)).mono (by omega), (hB3.setCell (p := ⟨w.heap.size + 1 + 1, 0, none⟩) (by simp; omega) _).setCell (p := ⟨w.heap.size + 1 + 1, 1, none⟩) (by simp; omega) _⟩
  clear hHS H3 hb3 hB3 br3 hB br bc bc2 HC m0 m1
  go_wp2
  refine bodyPost_ret (v := .tuple #[.agg #[.slice (some ⟨g, 0, none⟩) 512 cg, .slice (some ⟨h, 0, none⟩) 4 ch], .int .i64 0]) (by simp [results, Try.results28, go_sem, r0, r1]) rfl HR.out
end Go.Proofs.Ytkffeibjleiaoaa
