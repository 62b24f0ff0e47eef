/-
  Contracts of package cache: writeBack, fetch.
-/
import Derived.Test.YtkffeibjleiaoaaCaC1
namespace Go.Proofs.Ytkffeibjleiaoaa
open Go.RowKit

set_option maxHeartbeats 2000000 in
theorem cache_writeBack (g cg B i : Nat) (cs : List (Nat × Nat)) (x : MLine) (av : Option Addr) (cv : Nat) (w : World) (hown : w.ownsRow B 25 2 (.slice (some ⟨g, 0, none⟩) 512 cg) 512 (cellRows cs).flatten) (hx : VL i x) (hc : CellsAt w av x.cells) :
    Calls Try.prog 42 #[.slice (some ⟨g, 0, none⟩) 512 cg, .agg #[.int .i64 x.tag, .bool x.dirty, .slice av x.cells.length cv]] w fun e w' => e = .returned (.tuple #[]) ∧
      w'.ownsRow B 25 2 (.slice (some ⟨g, 0, none⟩) 512 cg) 512 (cellRows (backL cs x)).flatten ∧ w.grownBy w' (some g) := by
  have hA := Below.alloc (Below.refl w.heap.size w) (Nat.le_refl _) (.cells #[.int .i64 x.tag, .bool x.dirty, .slice av x.cells.length cv] 53)
  have bl := Blk.new (W := w) #[.int .i64 x.tag, .bool x.dirty, .slice av x.cells.length cv] 53
  have hgA := World.grownBy_alloc w (.cells #[.int .i64 x.tag, .bool x.dirty, .slice av x.cells.length cv] 53) (some g)
  have hown0 := hown.late hA
  have hc0 := hc.later hA
  have hg := hown.lt g rfl
  cases hd : x.dirty with
  | false =>
    rw [hd] at bl hgA hA hown0 hc0
    have hbk : backL cs x = cs := by unfold backL; rw [if_neg (by simp [hd])]
    rw [hbk]
    clear hbk hown hc hc0 hx
    go_enter Try.func42, Try.ntmps42
    go_upto_region 1 with fail
    generalize w.alloc (.cells #[.int .i64 x.tag, .bool false, .slice av x.cells.length cv] 53) = W0 at *
    have l1 := (bl 1 (by simp)).1
    go_wp2
    exact bodyPost_end (results_none (by rfl) _ _ _) rfl ⟨rfl, hown0, hgA⟩
  | true =>
    rw [hd] at bl hgA hA hown0 hc0
    rcases hx.tag with ⟨_, h2, _⟩ | ⟨n, ht, hn, _, hlen⟩
    · rw [h2] at hd; cases hd
    rw [ht] at bl hgA hA hown0 hc0
    rw [hlen] at bl hgA hA hown0 hc0
    have hbk : backL cs x = splice cs (n * 4) x.cells := by unfold backL; rw [if_pos hd, ht, Int.toNat_natCast]
    rw [hbk, ht, hlen]
    have HS : Hid (splice (cellRows cs).flatten (n * 4 * 2) (cellRows x.cells).flatten = (cellRows (splice cs (n * 4) x.cells)).flatten) := Lib.hid (cellRows_splice cs x.cells (n * 4))
    have hlr : (cellRows x.cells).flatten.length = 8 := by rw [length_flatten (wide_cells _), length_cellRows, hlen]
    have hone := Lib.hid (cells_one x.cells)
    have hsrc := Lib.hid (cells_src hc0)
    obtain ⟨R, hR⟩ : ∃ R, R = (cellRows x.cells).flatten := ⟨_, rfl⟩
    obtain ⟨R1, hR1⟩ : ∃ R1, R1 = (cellRows cs).flatten := ⟨_, rfl⟩
    rw [← hR] at HS hlr hone hsrc
    rw [← hR1] at HS hown0
    have hsz := cell_size2
    clear hbk hown hc hc0 hx ht hlen hd hR hR1
    generalize (cellRows (splice cs (n * 4) x.cells)).flatten = R2 at *
    obtain ⟨q, hq⟩ : ∃ q, n * 4 = q := ⟨_, rfl⟩
    rw [hq] at HS
    have i0 : (n : Int) * 4 = (q : Int) := by omega
    have i1 : (q : Int) ≤ 512 := by omega
    have i2 : 0 ≤ (q : Int) := by omega
    have i3 : q < 512 := by omega
    have i4 : q + 4 ≤ 512 := by omega
    have i5 := (own_cap hown0)
    have i7 : ¬ cg = q := by omega
    have i6 : IntKind.i64.wrap (q : Int) = (q : Int) := IntWalk.i64_in _ (by omega)
    clear hq
    go_enter Try.func42, Try.ntmps42
    go_upto_region 1 with fail
    generalize w.alloc (.cells #[.int .i64 (n : Int), .bool true, .slice av 4 cv] 53) = W0 at *
    have l0 := (bl 0 (by simp)).1
    have l1 := (bl 1 (by simp)).1
    have l2 := (bl 2 (by simp)).1
    go_upto_region 2 with fail
    go_region_held_law (fun W => W.cell? ⟨w.heap.size, 0, none⟩ = some (.int .i64 (n : Int)) ∧ W.cell? ⟨w.heap.size, 2, none⟩ = some (.slice av 4 cv))
      (first
        | exact ⟨l0, l2⟩
        | assumption
        | exact ⟨hg6.cell (by go_split_ands; assumption) (fun e => by have e2 : w.heap.size = g := Option.some.inj e; omega), hg6.cell (by go_split_ands; assumption) (fun e => by have e2 : w.heap.size = g := Option.some.inj e; omega)⟩)
      (first
        | (refine step_copy_wide2 (by rfl) (.tmp 10) (.tmp 12) 28 28 (by rfl) 25 2 Try.underlying28 hsz g (q * 2) (512 - q) (cg - q) av 4 cv (by rfl) (by rfl) B 512 cg R1 hown0.drew 4 (by show 4 = min 4 (512 - q); omega) R hlr hsrc.out (by rw [hlr]; omega) hone.out ?_; intro W6 hown6 hg6))
    have own6 := hown6.out
    rw [HS.out] at own6
    have R6 : Hid (w.grownBy W6 (some g)) := Lib.hid (grownBy_trans hgA (grownBy_trans (grownBy_drewN _ _ 1) hg6))
    clear hown6 hg6 hown0 hgA hA bl l0 l1 l2
    go_wp2
    exact bodyPost_end (results_none (by rfl) _ _ _) rfl ⟨rfl, own6, R6.out⟩

theorem OwnM.line_set {B g cg h ch : Nat} {w : World} {vs : List Value} {m : Mem} (H : OwnM B w g cg h ch vs m) (i : Nat) (hi : i < m.lines.length) (t : Int) (d : Bool) {v : Value} {xs : List (Nat × Nat)} (hv : w.ownsRow B 25 2 v xs.length (cellRows xs).flatten)
    (h1 : v.ownBlock ≠ some g) (h2 : v.ownBlock ≠ some h) (h3 : ∀ j (hj : j < vs.length), j ≠ i → vs[j].ownBlock = none ∨ vs[j].ownBlock ≠ v.ownBlock) :
    OwnM B (((w.setCell ⟨h, i * 3, none⟩ (.int .i64 t)).setCell ⟨h, i * 3 + 1, none⟩ (.bool d)).setCell ⟨h, i * 3 + 2, none⟩ v) g cg h ch (vs.set i v) ⟨m.cells, m.lines.set i ⟨t, d, xs⟩⟩ := by
  have T1 := H.tag_set i hi t
  have T2 := T1.dirty_set i (by simpa using hi) d
  have T3 := T2.slice_set i (by simpa using hi) ((hv.kept (grownBy_cell w h (i * 3) (.int .i64 t)) (.inr h2)).kept (grownBy_cell _ h (i * 3 + 1) (.bool d)) (.inr h2)) h1 h2 h3
  simpa using T3

theorem cells_part {w : World} {b o : Nat} {xs : List (Nat × Nat)} (h : ∀ i (h : i < xs.length), w.cell? ⟨b, o + i * 2, none⟩ = some (.int .u8 (xs[i].1 : Int)) ∧ w.cell? ⟨b, o + i * 2 + 1, none⟩ = some (.int .u16 (xs[i].2 : Int))) (p n : Nat) (hp : p + n ≤ xs.length) :
    CellsAt w (some ⟨b, o + p * 2, none⟩) ((xs.drop p).take n) := by
  refine .inr ⟨b, o + p * 2, rfl, fun i hi => ?_⟩
  have hi2 : i < n := by simp at hi; omega
  obtain ⟨h0, h1⟩ := h (p + i) (by omega)
  have e : ((xs.drop p).take n)[i] = xs[p + i] := by simp
  rw [e, show o + p * 2 + i * 2 = o + (p + i) * 2 by omega]
  exact ⟨h0, h1⟩

theorem OwnM.part {B g cg h ch : Nat} {w : World} {vs : List Value} {m : Mem} (H : OwnM B w g cg h ch vs m) (p n : Nat) (hp : p + n ≤ 512) : CellsAt w (some ⟨g, p * 2, none⟩) ((m.cells.drop p).take n) := by
  have hl := H.len
  rcases H.at.1 with h9 | ⟨b, o, ha, hc⟩
  · rw [h9] at hl; simp at hl
  · cases ha
    have := cells_part hc p n (by omega)
    rw [Nat.zero_add] at this
    exact this

/-- The call gives words and lines of its own, in which line n was fetched, and the line's address. -/
def GivesFetch (m : Mem) (n k : Nat) (w : World) (e : Ending) (w' : World) : Prop :=
  ∃ g cg h ch vs, e = .returned (.tuple #[.agg #[.slice (some ⟨g, 0, none⟩) 512 cg, .slice (some ⟨h, 0, none⟩) 4 ch], .pointer (some ⟨h, k * 3, none⟩)]) ∧ OwnM w.heap.size w' g cg h ch vs (fetchM m n) ∧ Below w.heap.size w w'

set_option maxHeartbeats 4000000 in
set_option maxRecDepth 20000 in
theorem cache_fetch (a al : Option Addr) (ca cl : Nat) (m : Mem) (x n k : Nat) (w : World) (hM : MemAt w a al m) (hV : MV m) (hx : x < 512) (hn : x / 4 = n) (hk : n % 4 = k) :
    Calls Try.prog 31 #[.agg #[.slice a 512 ca, .slice al 4 cl], .int .i64 (x : Int)] w (GivesFetch m n k w) := by
  have bm := (Blk.new (W := w) #[.slice a 512 ca, .slice al 4 cl] 31).kept (World.grownBy_alloc (w.alloc (.cells #[.slice a 512 ca, .slice al 4 cl] 31)) (.cells #[.slice none 0 0, .slice none 0 0] 31) none) (by simp)
  have br := Blk.new (W := w.alloc (.cells #[.slice a 512 ca, .slice al 4 cl] 31)) #[.slice none 0 0, .slice none 0 0] 31
  have hs1 : (w.alloc (.cells #[.slice a 512 ca, .slice al 4 cl] 31)).heap.size = w.heap.size + 1 := by simp
  have hs2 : ((w.alloc (.cells #[.slice a 512 ca, .slice al 4 cl] 31)).alloc (.cells #[.slice none 0 0, .slice none 0 0] 31)).heap.size = w.heap.size + 2 := by simp
  rw [hs1] at br
  have hB := Below.alloc (Below.alloc (Below.refl w.heap.size w) (Nat.le_refl _) (.cells #[.slice a 512 ca, .slice al 4 cl] 31)) (by rw [hs1]; omega) (.cells #[.slice none 0 0, .slice none 0 0] 31)
  have hM0 := hM.later hB
  have HS2 := Lib.hid hs2
  have n1 : (x : Int) / 4 = (n : Int) := by omega
  have n2 : (n : Int) % 4 = (k : Int) := by omega
  have hn8 : n < 128 := by omega
  have i1 : (k : Int) < 4 := by omega
  have i2 : 0 ≤ (k : Int) := by omega
  have hk4 : k < 4 := by omega
  have HK := Lib.hid hk
  clear hs1 hM hs2 hn hk
  go_enter Try.func31, Try.ntmps31
  go_upto_region 1 with fail
  generalize (w.alloc (.cells #[.slice a 512 ca, .slice al 4 cl] 31)).alloc (.cells #[.slice none 0 0, .slice none 0 0] 31) = W0 at *
  have HC := Lib.hid (memory_Copy a al ca cl m W0 hM0 hV)
  have m0 := (bm 0 (by simp)).1
  have m1 := (bm 1 (by simp)).1
  clear hM0
  go_wp2_with fail
  refine HC.out.mono ?_
  rintro e W1 ⟨g, cg, h, ch, vs, rfl, hown, hb1⟩
  have hA := Below.alloc (Below.refl W1.heap.size W1) (Nat.le_refl _) (.cells #[.slice (some ⟨g, 0, none⟩) 512 cg, .slice (some ⟨h, 0, none⟩) 4 ch] 31)
  have bF := Blk.new (W := W1) #[.slice (some ⟨g, 0, none⟩) 512 cg, .slice (some ⟨h, 0, none⟩) 4 ch] 31
  have hb2 := hb1.trans (hA.mono hb1.size)
  have hB2 := hB.trans (hb2.mono (by rw [HS2.out]; omega))
  have br2 := br.later hb2
  have H2 := hown.later hA
  have hbo := hown.bounds
  have hgh := hown.ne
  have hsz1 : W0.heap.size ≤ W1.heap.size := hb1.size
  go_upto_region 2 with fail
  have HSF : Hid ((W1.alloc (.cells #[.slice (some ⟨g, 0, none⟩) 512 cg, .slice (some ⟨h, 0, none⟩) 4 ch] 31)).heap.size = W1.heap.size + 1) := Lib.hid (by simp)
  generalize W1.alloc (.cells #[.slice (some ⟨g, 0, none⟩) 512 cg, .slice (some ⟨h, 0, none⟩) 4 ch] 31) = W2 at *
  generalize W1.heap.size = F at *
  have hkl : k < m.lines.length := by have := hV.lines; omega
  have hkv : k < vs.length := by have := H2.four; omega
  obtain ⟨t0, t1, t2, tf⟩ := H2.head k hkl hkv
  obtain ⟨va, vc, hve, hvc⟩ := H2.val k hkl hkv
  have hL : lineM m n = m.lines[k] := by unfold lineM; rw [HK.out, getD_in _ _ hkl]
  have hVL := hV.line n
  rw [HK.out] at hVL
  rw [hve] at t2
  rw [← hL] at t0 t1 t2 hvc
  have HL := Lib.hid hL
  have F0 := (bF 0 (by simp)).1
  have F1 := (bF 1 (by simp)).1
  have H2 := Lib.hid H2
  have HVE := Lib.hid hve
  have r0 := (br2 0 (by simp)).1
  have r1 := (br2 1 (by simp)).1
  have f0 := (br2 0 (by simp)).2
  have f1 := (br2 1 (by simp)).2
  clear hown HC m0 m1 hA hL hve
  generalize hl : lineM m n = l at *
  have hBf := Lib.hid (fun (W : World) (vs' : List Value) (m' : Mem) (hm : fetchM m n = m') (hO : OwnM W0.heap.size W g cg h ch vs' m') (hW : Below w.heap.size w W) =>
    (show GivesFetch m n k w (.returned (.tuple #[.agg #[.slice (some ⟨g, 0, none⟩) 512 cg, .slice (some ⟨h, 0, none⟩) 4 ch], .pointer (some ⟨h, k * 3, none⟩)])) ((W.setCell ⟨w.heap.size + 1, 0, none⟩ (.slice (some ⟨g, 0, none⟩) 512 cg)).setCell ⟨w.heap.size + 1, 1, none⟩ (.slice (some ⟨h, 0, none⟩) 4 ch)) from
      ⟨g, cg, h, ch, vs', rfl, by rw [hm]; exact ((hO.far (grownBy_cell _ _ _ _) (by rw [HS2.out]; omega)).far (grownBy_cell _ _ _ _) (by rw [HS2.out]; omega)).mono (by rw [HS2.out]; omega),
        (hW.setCell (p := ⟨w.heap.size + 1, 0, none⟩) (by simp) _).setCell (p := ⟨w.heap.size + 1, 1, none⟩) (by simp) _⟩))
  by_cases ht : l.tag = (n : Int)
  · have g0 : (l.tag != (n : Int)) = false := by rw [ht]; simp
    have HR := Lib.hid (hBf.out W2 vs m (fetch_held (by rw [hl]; exact ht)) H2.out hB2)
    clear ht hBf hl hvc bF br2 hB2 hb1 hb2 br hB bm hbo
    go_wp2
    refine bodyPost_ret (v := .tuple #[.agg #[.slice (some ⟨g, 0, none⟩) 512 cg, .slice (some ⟨h, 0, none⟩) 4 ch], .pointer (some ⟨h, k * 3, none⟩)]) (by simp [results, Try.results31, go_sem, r0, r1]) rfl HR.out
  · have g0 : (l.tag != (n : Int)) = true := by simpa using ht
    have hfm : fetchM m n = ⟨fetchC m n, m.lines.set (n % 4) ⟨(n : Int), false, ((fetchC m n).drop (n * 4)).take 4⟩⟩ := fetch_new (by rw [hl]; exact ht)
    have hfc : fetchC m n = backL m.cells l := by unfold fetchC; rw [hl]
    rw [HK.out] at hfm
    have HFM := Lib.hid hfm
    have HFC := Lib.hid hfc
    have hgF : g < F := hbo.2.1
    have hhF : h < F := hbo.2.2.2
    have HWB := Lib.hid (fun W (hO : OwnM W0.heap.size W g cg h ch vs m) (hv : CellsAt W va l.cells) => cache_writeBack g cg W0.heap.size k m.cells l va vc W hO.cells hVL hv)
    go_upto_region 5 with fail
    have hvD : CellsAt W2.drew va l.cells := hvc
    have H2D : OwnM W0.heap.size W2.drew g cg h ch vs m := H2.out.later (Below.refl _ _).drew
    go_region_held_law (fun W => W.cell? ⟨F, 0, none⟩ = some (.slice (some ⟨g, 0, none⟩) 512 cg) ∧ W.cell? ⟨h, k * 3, none⟩ = some (.int .i64 l.tag) ∧ W.cell? ⟨h, k * 3 + 1, none⟩ = some (.bool l.dirty) ∧ W.cell? ⟨h, k * 3 + 2, none⟩ = some (.slice va l.cells.length vc))
      (first
        | exact ⟨F0, t0, t1, t2⟩
        | assumption
        | exact ⟨hg6.cell (by go_split_ands; assumption) (fun e => by have e2 : F = g := Option.some.inj e; omega), hg6.cell (by go_split_ands; assumption) (fun e => by have e2 : h = g := Option.some.inj e; omega), hg6.cell (by go_split_ands; assumption) (fun e => by have e2 : h = g := Option.some.inj e; omega), hg6.cell (by go_split_ands; assumption) (fun e => by have e2 : h = g := Option.some.inj e; omega)⟩)
      (first
        | (go_at_call 42; (with_reducible refine (HWB.out _ H2D hvD).mono ?_); rintro e W5 ⟨rfl, hC5, hg6⟩))
    have HM5 : OwnM W0.heap.size W5 g cg h ch vs ⟨fetchC m n, m.lines⟩ := by
      have := H2D.cells_set hg6 hC5
      rw [← HFC.out] at this
      exact this
    have hgb := Lib.hid (fun q (hq : (some g : Option Nat) = some q) => show w.heap.size ≤ q by cases hq; have := hbo.1; rw [HS2.out] at this; omega)
    have hB5 : Below w.heap.size w W5 := hB2.drew.grown hg6 hB2.drew.size hgb.out
    have bF5 := (bF.later (Below.refl _ _).drew).kept hg6 (by simp; omega)
    have br5 := (br2.later (Below.refl _ _).drew).kept hg6 (by have := hbo.1; rw [HS2.out] at this; simp; omega)
    have hsz5 := hg6.size
    have hF5 : F < W5.heap.size := by have := HSF.out; have h9 : W2.drew.heap.size = W2.heap.size := rfl; omega
    clear hC5 hg6 H2D hvD hvc F0 F1 t0 t1 t2 tf H2 hB2 bF br2 r0 r1 f0 f1 HWB hb2 hb1 hB br bm HVE
    obtain ⟨q, hq⟩ : ∃ q, n * 4 = q := ⟨_, rfl⟩
    have j0 : (n : Int) * 4 = (q : Int) := by omega
    have hq5 : q + 4 ≤ 512 := by omega
    have j2 : 0 ≤ (q : Int) := by omega
    have j7 : ¬ cg = q := by have := own_cap HM5.cells; omega
    have j8 : 512 ≤ cg := own_cap HM5.cells
    have hpart := HM5.part q 4 hq5
    have hxs : ((fetchC m n).drop q).take 4 = ((fetchC m n).drop (n * 4)).take 4 := by rw [hq]
    have hlx : (((fetchC m n).drop (n * 4)).take 4).length = 4 := by
      have := HM5.len
      simp only at this
      rw [List.length_take, List.length_drop, this]; omega
    simp only at hpart
    rw [hxs] at hpart
    have HFM' := HFM.out
    generalize ((fetchC m n).drop (n * 4)).take 4 = xs at *
    have HX := Lib.hid hxs
    have HQ := Lib.hid hq
    have HFM := Lib.hid HFM'
    have HCl := slices_Clone_cells (some ⟨g, q * 2, none⟩) xs (cg - q) W5 hpart (by omega)
    rw [hlx] at HCl
    have HCl := Lib.hid HCl
    have HLX := Lib.hid hlx
    have F0 := (bF5 0 (by simp)).1
    clear hq hxs hlx hpart HFM'
    go_upto_region 7 with fail
    go_upto_region 8 with (go_at_call 46; (with_reducible refine HCl.out.mono ?_); rintro e W6 ⟨a6, c6, rfl, hown6, hb6⟩; have H6 := Lib.hid (HM5.later hb6); obtain ⟨p0, p1, p2, p3⟩ := H6.out.head k hkl hkv; have p4 := p3 (k * 3); have p5 := p3 (k * 3 + 1); have p6 := p3 (k * 3 + 2); clear p3)
    have hb5 := Lib.hid hb6
    have hO9 : Hid (OwnM W0.heap.size (((W6.setCell ⟨h, k * 3, none⟩ (.int .i64 (n : Int))).setCell ⟨h, k * 3 + 1, none⟩ (.bool false)).setCell ⟨h, k * 3 + 2, none⟩ (.slice a6 4 c6)) g cg h ch (vs.set k (.slice a6 4 c6)) ⟨fetchC m n, m.lines.set k ⟨(n : Int), false, xs⟩⟩) := Lib.hid (by
      have hgW := (HM5.cells.lt g rfl).2
      have hhW := (HM5.lines.lt h rfl).2
      refine H6.out.line_set k hkl (n : Int) false (by rw [HLX.out]; exact hown6.mono (by omega)) (fun e => by have := (hown6.lt g e).1; omega) (fun e => by have := (hown6.lt h e).1; omega) (fun j hj _ => ?_)
      exact new_block (HM5.each j (by have := HM5.four; omega) hj).1 hown6 (Nat.le_refl _))
    have hB9 : Hid (Below w.heap.size w (((W6.setCell ⟨h, k * 3, none⟩ (.int .i64 (n : Int))).setCell ⟨h, k * 3 + 1, none⟩ (.bool false)).setCell ⟨h, k * 3 + 2, none⟩ (.slice a6 4 c6))) := Lib.hid (by
      have hh0 := hbo.2.2.1
      rw [HS2.out] at hh0
      exact (((hB5.trans (hb6.mono hB5.size)).setCell (p := ⟨h, k * 3, none⟩) (by simp; omega) _).setCell (p := ⟨h, k * 3 + 1, none⟩) (by simp; omega) _).setCell (p := ⟨h, k * 3 + 2, none⟩) (by simp; omega) _)
    have g1 := grownBy_cell W6 h (k * 3) (.int .i64 (n : Int))
    have g2 := grownBy_cell (W6.setCell ⟨h, k * 3, none⟩ (.int .i64 (n : Int))) h (k * 3 + 1) (.bool false)
    have g3 := grownBy_cell ((W6.setCell ⟨h, k * 3, none⟩ (.int .i64 (n : Int))).setCell ⟨h, k * 3 + 1, none⟩ (.bool false)) h (k * 3 + 2) (.slice a6 4 c6)
    have bF9 := (((bF5.later hb6).kept g1 (by simp; omega)).kept g2 (by simp; omega)).kept g3 (by simp; omega)
    have hne : some (w.heap.size + 1) ≠ some h := by have := hbo.2.2.1; rw [HS2.out] at this; simp; omega
    have br9 := (((br5.later hb6).kept g1 hne).kept g2 hne).kept g3 hne
    clear g1 g2 g3 p0 p1 p2 p4 p5 p6 hown6 hb6 HM5 hB5 br5 bF5 F0 hne
    generalize ((W6.setCell ⟨h, k * 3, none⟩ (.int .i64 (n : Int))).setCell ⟨h, k * 3 + 1, none⟩ (.bool false)).setCell ⟨h, k * 3 + 2, none⟩ (.slice a6 4 c6) = W9 at *
    have F0 := (bF9 0 (by simp)).1
    have F1 := (bF9 1 (by simp)).1
    have r0 := (br9 0 (by simp)).1
    have r1 := (br9 1 (by simp)).1
    have f0 := (br9 0 (by simp)).2
    have f1 := (br9 1 (by simp)).2
    have HR := Lib.hid (hBf.out W9 _ _ HFM.out hO9.out hB9.out)
    clear hO9 hB9 hBf bF9 br9 H6 hb5 hF5 hsz5
    go_wp2
    refine bodyPost_ret (v := .tuple #[.agg #[.slice (some ⟨g, 0, none⟩) 512 cg, .slice (some ⟨h, 0, none⟩) 4 ch], .pointer (some ⟨h, k * 3, none⟩)]) (by simp [results, Try.results31, go_sem, r0, r1]) rfl HR.out
end Go.Proofs.Ytkffeibjleiaoaa
