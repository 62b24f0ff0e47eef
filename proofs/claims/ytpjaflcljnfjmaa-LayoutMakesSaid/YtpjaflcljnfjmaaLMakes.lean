/-
  LayoutMakes: for every layout, all lists of ints and all ints the law returns true.
-/
import Derived.Test.YtpjaflcljnfjmaaLMakes1
import Derived.Deep.RegionHeld3
import Derived.Deep.RegionHeldLaw
import Derived.Deep.RegionWith
import Derived.Deep.DeepCutAuto
import Derived.Deep.CutBlock
import Derived.Lib.SmallJoins
namespace Go.Proofs.Ytpjaflcljnfjmaa.layoutMakesLaw
open Go.RowKit Go.ChangeShapes Go.WideShapes Go.ChangeAt Go.Joins

set_option maxHeartbeats 2000000 in
set_option maxRecDepth 100000 in
theorem core (ra sa a : Option Addr) (rbs sxs xs : List Int) (rc sc ca : Nat) (rkey seed what by_ : Int) (w : World) (lr : rbs.length ≤ 30) (ls : sxs.length ≤ 30) (hrc : rbs.length ≤ rc)
    (hra : IntsAt .i64 w ra rbs) (hsa : IntsAt .i64 w sa sxs) (ha : IntsAt .i64 w a xs) (hx : ∀ x ∈ xs, -9223372036854775808 ≤ x ∧ x ≤ 9223372036854775807) (hl : xs.length ≤ 9223372036854775807)
    (hseed : -9223372036854775808 ≤ seed ∧ seed ≤ 9223372036854775807) (hwhat : -9223372036854775808 ≤ what ∧ what ≤ 9223372036854775807) (hby : -9223372036854775808 ≤ by_ ∧ by_ ≤ 9223372036854775807) :
    Calls Try.prog 3 #[.agg #[.slice ra rbs.length rc, .int .u16 rkey], .slice sa sxs.length sc, .slice a xs.length ca, .int .i64 seed, .int .i64 what, .int .i64 by_] w fun e w' => e = .returned (.bool true) ∧ Below w.heap.size w w' := by
  obtain ⟨i0, hi, hz0, hz1, hz2⟩ := info_parts info_int
  have hB0 := Below.alloc (Below.refl w.heap.size w) (Nat.le_refl _) (.cells #[.slice ra rbs.length rc, .int .u16 rkey] 25)
  have hNew := Lib.hid (make_New a xs ca _ (ha.later hB0) hx hl)
  have r0 : (w.alloc (.cells #[.slice ra rbs.length rc, .int .u16 rkey] 25)).cell? ⟨w.heap.size, 0, none⟩ = some (.slice ra rbs.length rc) := by rw [World.cell?_alloc_at _ _ _ _ rfl]; rfl
  have r1 : (w.alloc (.cells #[.slice ra rbs.length rc, .int .u16 rkey] 25)).cell? ⟨w.heap.size, 1, none⟩ = some (.int .u16 rkey) := by rw [World.cell?_alloc_at _ _ _ _ rfl]; rfl
  have hra0 := hra.later hB0
  have hsa0 := hsa.later hB0
  clear ha hx hl hra hsa
  go_enter Try.func3, Try.ntmps3
  go_upto_region 3 with fail
  generalize hW0 : w.alloc (.cells #[.slice ra rbs.length rc, .int .u16 rkey] 25) = W0 at *
  have hs0 : w.heap.size + 1 = W0.heap.size := by rw [← hW0]; simp
  clear hW0
  go_wp2_with fail
  refine hNew.out.mono ?_
  rintro e w1 ⟨rfl, hd1, hb1⟩
  have hS := Lib.hid (deck_Sizes _ w1 hd1)
  go_wp2_with fail
  refine hS.out.mono ?_
  rintro e w2 ⟨a2, c2, s, rfl, hn2, hc2, hz, hd2, hg2⟩
  have hB2' : Below W0.heap.size W0 w2 := hb1.grown hg2 hb1.size (fun k hk => by cases hk; omega)
  have hB2 : Below w.heap.size w w2 := hB0.trans (hB2'.mono (by omega))
  have r0 := cell_later hB2' r0
  have r1 := cell_later hB2' r1
  have hra2 := hra0.later hB2'
  have hsa2 := hsa0.later hB2'
  clear hd1 hb1 hg2 hNew hS hd2 hB2' hra0 hsa0 hB0
  have hM := Lib.hid (make_Mod seed 1073741824 w2 (by omega) (by omega) hseed.1 hseed.2)
  have hq0 : 0 ≤ seed % 1073741824 := Int.emod_nonneg _ (by omega)
  have hq1 : seed % 1073741824 < 1073741824 := Int.emod_lt_of_pos _ (by omega)
  obtain ⟨q, hq⟩ : ∃ q : Nat, seed % 1073741824 = (q : Int) := ⟨(seed % 1073741824).toNat, by omega⟩
  have hK := Lib.hid (ref03_Make_valid a2 s c2 q w2 hz (by omega) hn2.at)
  rw [hq] at hM
  clear hq hq0 hq1
  go_wp2_with fail
  refine hM.out.mono ?_
  rintro e w' ⟨rfl, rfl⟩
  go_wp2_with fail
  refine hK.out.mono ?_
  rintro e w3 ⟨a3, c3, bs, key, rfl, hv, _, hbs, hc3, hb3⟩
  have hA := Below.alloc (Below.refl w3.heap.size w3) (Nat.le_refl _) (.cells #[.slice a3 bs.length c3, .int .u16 (key : Int)] 25)
  have hb3' := hb3.trans (hA.mono hb3.size)
  have hB3 := hB2.trans (hb3'.mono hB2.size)
  have x0 : (w3.alloc (.cells #[.slice a3 bs.length c3, .int .u16 (key : Int)] 25)).cell? ⟨w3.heap.size, 0, none⟩ = some (.slice a3 bs.length c3) := by rw [World.cell?_alloc_at _ _ _ _ rfl]; rfl
  have x1 : (w3.alloc (.cells #[.slice a3 bs.length c3, .int .u16 (key : Int)] 25)).cell? ⟨w3.heap.size, 1, none⟩ = some (.int .u16 (key : Int)) := by rw [World.cell?_alloc_at _ _ _ _ rfl]; rfl
  have r0 := cell_later hb3' r0
  have r1 := cell_later hb3' r1
  have hra3 := hra2.later hb3'
  have hsa3 := hsa2.later hb3'
  have hn3 := hn2.at.later hb3'
  have hbs3 := hbs.at.later hA
  clear hM hK hbs hra2 hsa2 hn2 hB2 hb3 hb3' hA
  go_upto_region 6 with fail
  generalize w3.alloc (.cells #[.slice a3 bs.length c3, .int .u16 (key : Int)] 25) = W at *
  generalize w3.heap.size = X at *
  have hl4 : bs.length ≤ 4 := by have := hv.1; have := hz.2.1; omega
  have hl1 : 1 ≤ bs.length := by have := hv.1; have := hz.1; omega
  have hX : X < W.heap.size := World.block_lt_of_cell? _ _ x0
  obtain ⟨b3, o3, rfl, hc⟩ := hbs3.some (j := 0) (by omega)
  have hC : Hid (∀ j u, (bs.map fun x : Int => Value.int .i64 x)[j]? = some u → W.cell? ((⟨b3, o3, none⟩ : Addr).add j) = some u) := Lib.hid fun j u hj => by
    rw [List.getElem?_map] at hj
    obtain ⟨x, hx, rfl⟩ := Option.map_eq_some_iff.1 hj
    obtain ⟨h1, rfl⟩ := List.getElem?_eq_some_iff.1 hx
    have e : (⟨b3, o3, none⟩ : Addr).add j = ⟨b3, o3 + j, none⟩ := by unfold Addr.add; split <;> simp_all
    rw [e]; exact hc j h1
  clear hc
  go_wp2_with (first
    | (at_builtin; refine wpList_append_own _ rfl _ _ 22 rfl W.heap.size 3 i0 (.int .i64 0) 1 8 Try.underlying22 hi hz0 hz1 hz2 rfl (by decide) (.slice none 0 0) 0 [] rfl (World.ownsRow_nil _ _ _ _) ⟨b3, o3, none⟩ bs.length c3 (bs.map fun x : Int => Value.int .i64 x) rfl (by simp) ?c1 ?c2 ?c3 ?c4 ?c5 ?_))
  case c1 => exact hC.out
  case c2 => exact ints_one bs
  case c3 => unfold maxLen; omega
  case c4 => omega
  case c5 => exact Nat.le_refl _
  intro v4 w4 hown4 hgrow _h4
  have HO : Hid (∃ (g cap : Nat), v4 = .slice (some ⟨g, 0, none⟩) bs.length cap ∧ w4.ownsRow W.heap.size 3 1 (.slice (some ⟨g, 0, none⟩) bs.length cap) bs.length (bs.map fun x : Int => Value.int .i64 x) ∧ W.heap.size ≤ g ∧ bs.length ≤ cap) := Lib.hid (by
    rcases hown4.2 with ⟨_, h0⟩ | ⟨g, cap, cur, hv, hbg, _, hnc, _⟩
    · omega
    · subst hv
      exact ⟨g, cap, rfl, hown4, hbg, hnc⟩)
  obtain ⟨g, c4, rfl, own4, hgb, hgc⟩ := HO.out
  have B4 : Below W.heap.size W w4 := (Below.refl _ _).grown hgrow (Nat.le_refl _) (fun k hk => by simp [Value.ownBlock] at hk)
  have hgl : g < w4.heap.size := (own4.lt _ rfl).2
  have own5 := own4.alloc (.cells #[.slice (some ⟨g, 0, none⟩) bs.length c4, .int .u16 0] 25)
  have B5 := B4.alloc B4.size (.cells #[.slice (some ⟨g, 0, none⟩) bs.length c4, .int .u16 0] 25)
  have hWs : W.heap.size ≤ w4.heap.size := B4.size
  have y0 : (w4.alloc (.cells #[.slice (some ⟨g, 0, none⟩) bs.length c4, .int .u16 0] 25)).cell? ⟨w4.heap.size, 0, none⟩ = some (.slice (some ⟨g, 0, none⟩) bs.length c4) := by rw [World.cell?_alloc_at _ _ _ _ rfl]; rfl
  have y1 : (w4.alloc (.cells #[.slice (some ⟨g, 0, none⟩) bs.length c4, .int .u16 0] 25)).cell? ⟨w4.heap.size, 1, none⟩ = some (.int .u16 0) := by rw [World.cell?_alloc_at _ _ _ _ rfl]; rfl
  have yf : (w4.alloc (.cells #[.slice (some ⟨g, 0, none⟩) bs.length c4, .int .u16 0] 25)).frozen? ⟨w4.heap.size, 0, none⟩ = false := by go_simp
  clear HO hown4 hgrow _h4 hC own4 B4
  go_upto_region 7 with fail
  generalize w4.alloc (.cells #[.slice (some ⟨g, 0, none⟩) bs.length c4, .int .u16 0] 25) = V at *
  generalize w4.heap.size = Y at *
  have hgY : g < Y := hgl
  have hb1 := Int.emod_nonneg by_ (b := ((bs.length : Nat) : Int)) (by omega)
  have hb2 := Int.emod_lt_of_pos by_ (b := ((bs.length : Nat) : Int)) (by omega)
  have hw1 := Int.emod_nonneg what (b := 4) (by omega)
  have hw2 := Int.emod_lt_of_pos what (b := 4) (by omega)
  have M1 := Lib.hid (make_Mod by_ ((bs.length : Nat) : Int) V (by omega) (by omega) hby.1 hby.2)
  have M2 := Lib.hid (make_Mod what 4 V (by omega) (by omega) hwhat.1 hwhat.2)
  obtain ⟨k, hk⟩ : ∃ k : Nat, by_ % ((bs.length : Nat) : Int) = (k : Int) := ⟨(by_ % ((bs.length : Nat) : Int)).toNat, by omega⟩
  rw [hk] at M1 hb1 hb2
  generalize what % 4 = m at *
  go_upto_block 0 with (first
    | (go_at_call 10; (with_reducible refine M1.out.mono ?_); rintro e w' ⟨rfl, rfl⟩)
    | (go_at_call 10; (with_reducible refine M2.out.mono ?_); rintro e w' ⟨rfl, rfl⟩))
  go_cut [63] (fun _ wx => ∃ (a4 : Option Addr) (c5 : Nat) (ys : List Int), wx.cell? ⟨Y, 0, none⟩ = some (.slice a4 ys.length c5) ∧ wx.cell? ⟨Y, 1, none⟩ = some (.int .u16 0) ∧ IntsAt .i64 wx a4 ys ∧ ys.length ≤ 4 ∧ ys.length ≤ c5 ∧ Below W.heap.size W wx)
  case first =>
    clear x0 x1 r0 r1 hra3 hsa3 hn3 hbs3 M1 M2
    have hm : m = 0 ∨ m = 1 ∨ m = 2 ∨ m = 3 := by omega
    rcases hm with rfl | rfl | rfl | rfl
    · have hn3 := Int.emod_nonneg by_ (b := 9) (by omega)
      have hn4 := Int.emod_lt_of_pos by_ (b := 9) (by omega)
      have M3 := Lib.hid (fun W' => make_Mod by_ 9 W' (by omega) (by omega) hby.1 hby.2)
      generalize by_ % 9 = y at *
      have hf := own5.frozenAt k
      have hkz : k < bs.length := by omega
      have hce := own5.cellAt k (by omega)
      rw [List.getElem?_map, List.getElem?_eq_getElem hkz, Option.map_some] at hce
      generalize bs[k] = z at hce
      have hst := own5.stored k (.int .i64 (IntKind.i64.wrap (z + IntKind.i64.wrap (y - 4))))
      rw [← List.map_set (f := fun x : Int => Value.int .i64 x)] at hst
      obtain ⟨a4, c5, hv, hI, hle⟩ := ints_of_row hst.1
      have hln : (bs.set k (IntKind.i64.wrap (z + IntKind.i64.wrap (y - 4)))).length = bs.length := by simp
      have hB4 := B5.grown hst.2 B5.size (fun j hj => by cases hj; exact hgb)
      have z0 := hst.2.cell y0 (by simp; omega)
      have z1 := hst.2.cell y1 (by simp; omega)
      have HF := Lib.hid (And.intro hv (And.intro hI (And.intro z0 (And.intro z1 (And.intro hB4 hle)))))
      clear hv hI z0 z1 hB4 hst own5 hk
      go_wp2
      go_region_with (go_at_call 10; (with_reducible refine (M3.out _).mono ?_); rintro e w' ⟨rfl, rfl⟩)
      all_goals
        go_wp2
        go_meet
        obtain ⟨hv, hI, z0, z1, hB4, hle⟩ := HF.out
        rw [hv] at z0
        exact ⟨a4, c5, bs.set k (IntKind.i64.wrap (z + IntKind.i64.wrap (y - 4))), z0, z1, hI, by omega, hle, hB4.drew⟩
    · have hn3 := Int.emod_nonneg by_ (b := 552) (by omega)
      have hn4 := Int.emod_lt_of_pos by_ (b := 552) (by omega)
      have M3 := Lib.hid (fun W' => make_Mod by_ 552 W' (by omega) (by omega) hby.1 hby.2)
      generalize by_ % 552 = y at *
      have hf := own5.frozenAt k
      have hkz : k < bs.length := by omega
      have hce := own5.cellAt k (by omega)
      rw [List.getElem?_map, List.getElem?_eq_getElem hkz, Option.map_some] at hce
      generalize bs[k] = z at hce
      have hst := own5.stored k (.int .i64 (IntKind.i64.wrap (y - 20)))
      rw [← List.map_set (f := fun x : Int => Value.int .i64 x)] at hst
      obtain ⟨a4, c5, hv, hI, hle⟩ := ints_of_row hst.1
      have hln : (bs.set k (IntKind.i64.wrap (y - 20))).length = bs.length := by simp
      have hB4 := B5.grown hst.2 B5.size (fun j hj => by cases hj; exact hgb)
      have z0 := hst.2.cell y0 (by simp; omega)
      have z1 := hst.2.cell y1 (by simp; omega)
      have HF := Lib.hid (And.intro hv (And.intro hI (And.intro z0 (And.intro z1 (And.intro hB4 hle)))))
      clear hv hI z0 z1 hB4 hst own5 hk
      go_wp2
      go_region_with (go_at_call 10; (with_reducible refine (M3.out _).mono ?_); rintro e w' ⟨rfl, rfl⟩)
      all_goals
        go_wp2
        go_meet
        obtain ⟨hv, hI, z0, z1, hB4, hle⟩ := HF.out
        rw [hv] at z0
        exact ⟨a4, c5, bs.set k (IntKind.i64.wrap (y - 20)), z0, z1, hI, by omega, hle, hB4.drew⟩
    · have i1 : 1 ≤ (bs.length : Int) := by omega
      have i2 : (bs.length : Int) ≤ (c4 : Int) := by omega
      by_cases h9 : c4 = 1
      · subst h9
        have hone : bs.length = 1 := by omega
        have z0 := put_same y0 (.slice (some ⟨g, 0, none⟩) 0 0)
        have z1 := put_other (q := ⟨Y, 1, none⟩) y1 (p := ⟨Y, 0, none⟩) (by simp) (.slice (some ⟨g, 0, none⟩) 0 0)
        have hB4 := B5.setCell (p := ⟨Y, 0, none⟩) hWs (.slice (some ⟨g, 0, none⟩) 0 0)
        have HF := Lib.hid (And.intro z0 (And.intro z1 hB4))
        clear z0 z1 hB4 own5 hk
        go_wp2
        go_meet
        obtain ⟨z0, z1, hB4⟩ := HF.out
        exact ⟨some ⟨g, 0, none⟩, 0, [], z0, z1, .inl rfl, by simp, by simp, hB4⟩
      · have yI : IntsAt .i64 (V.setCell ⟨Y, 0, none⟩ (.slice (some ⟨g, 1, none⟩) (bs.length - 1) (c4 - 1))) (some ⟨g, 1, none⟩) (bs.drop 1) := .inr ⟨g, 1, rfl, fun j hj => by
          rw [List.length_drop] at hj
          have h1 := own5.cellAt (1 + j) (by omega)
          rw [List.getElem?_map, List.getElem?_eq_getElem (show 1 + j < bs.length by omega), Option.map_some] at h1
          rw [List.getElem_drop]
          exact put_other h1 (by simp) _⟩
        have z0 := put_same y0 (.slice (some ⟨g, 1, none⟩) (bs.length - 1) (c4 - 1))
        have z1 := put_other (q := ⟨Y, 1, none⟩) y1 (p := ⟨Y, 0, none⟩) (by simp) (.slice (some ⟨g, 1, none⟩) (bs.length - 1) (c4 - 1))
        have hB4 := B5.setCell (p := ⟨Y, 0, none⟩) hWs (.slice (some ⟨g, 1, none⟩) (bs.length - 1) (c4 - 1))
        have HF := Lib.hid (And.intro z0 (And.intro z1 (And.intro hB4 yI)))
        clear z0 z1 hB4 yI own5 hk
        go_wp2
        go_meet
        obtain ⟨z0, z1, hB4, yI⟩ := HF.out
        exact ⟨some ⟨g, 1, none⟩, c4 - 1, bs.drop 1, by rw [List.length_drop]; exact z0, z1, yI, by rw [List.length_drop]; omega, by rw [List.length_drop]; omega, hB4⟩
    · obtain ⟨a4, c5, hv, hI, hle⟩ := ints_of_row own5
      have HF := Lib.hid (And.intro hv (And.intro hI (And.intro y0 y1)))
      clear hv hI own5 y0 y1
      go_wp2
      go_meet
      obtain ⟨hv, hI, y0, y1⟩ := HF.out
      rw [hv] at y0
      exact ⟨a4, c5, bs, y0, y1, hI, hl4, hle, B5⟩
  case rest =>
    obtain ⟨a4, c5, ys, v0, v1, hys, hyl, hyc, hB6⟩ := hcut
    have x0 := cell_later hB6 x0
    have x1 := cell_later hB6 x1
    have hBW := hB3
    have r0 := cell_later hB6 r0
    have r1 := cell_later hB6 r1
    have hBc : Below w.heap.size w wc := hB3.trans (hB6.mono hB3.size)
    have hsz : w.heap.size < wc.heap.size := World.block_lt_of_cell? _ _ r0
    have T7 := trio_new (ka := (key : Int)) (kb := 0) (kc := rkey) 25 (hbs3.later hB6) hys (hra3.later hB6) (by omega) (by omega) lr hc3 hyc hrc
    have hN := Below.alloc (Below.refl wc.heap.size wc) (Nat.le_refl _) (.cells #[.slice (some ⟨b3, o3, none⟩) bs.length c3, .int .u16 (key : Int), .slice a4 ys.length c5, .int .u16 0, .slice ra rbs.length rc, .int .u16 rkey] 25)
    have hn7 := (hn3.later hB6).later hN
    have hsa7 := (hsa3.later hB6).later hN
    have hB7 := hBc.alloc hBc.size (.cells #[.slice (some ⟨b3, o3, none⟩) bs.length c3, .int .u16 (key : Int), .slice a4 ys.length c5, .int .u16 0, .slice ra rbs.length rc, .int .u16 rkey] 25)
    have hs7 : w.heap.size < (wc.alloc (.cells #[.slice (some ⟨b3, o3, none⟩) bs.length c3, .int .u16 (key : Int), .slice a4 ys.length c5, .int .u16 0, .slice ra rbs.length rc, .int .u16 rkey] 25)).heap.size := by simp; omega
    clear hys hra3 hsa3 hn3 hbs3 hB3 hBW hB6 y0 y1 yf own5 B5 hN
    go_upto_block 1 with fail
    generalize wc.alloc (.cells #[.slice (some ⟨b3, o3, none⟩) bs.length c3, .int .u16 (key : Int), .slice a4 ys.length c5, .int .u16 0, .slice ra rbs.length rc, .int .u16 rkey] 25) = W7 at *
    generalize wc.heap.size = Q at *
    have ls4 : s.length ≤ 4 := hz.2.1
    clear x0 x1 r0 r1 v0 v1 hBc hsz
    go_wp2_with fail
    go_loopw [12, 20, 95] (fun _ _ c wr => ∃ k : Nat, k ≤ 3 ∧ c = .int .i64 k ∧ Below W7.heap.size W7 wr) (fun _ _ c _ => 3 - (intOf c).toNat)
    case atStart => exact ⟨0, by omega, rfl, Below.refl _ _⟩
    case round =>
      obtain ⟨k, hk, rfl, hw⟩ := hrel
      by_cases hlt : k < 3
      · obtain ⟨az, zs, cz, kz, e0, e1, hzs, hzl, hzc⟩ := T7 k hlt
        have k3 : (k : Int) < 3 := by omega
        have e0 := cell_later hw e0
        have e1 := cell_later hw e1
        have hA8 := Below.alloc (Below.refl wr.heap.size wr) (Nat.le_refl _) (.cells #[.slice az zs.length cz, .int .u16 kz] 25)
        have hw8 := hw.alloc hw.size (.cells #[.slice az zs.length cz, .int .u16 kz] 25)
        have z0 : (wr.alloc (.cells #[.slice az zs.length cz, .int .u16 kz] 25)).cell? ⟨wr.heap.size, 0, none⟩ = some (.slice az zs.length cz) := by rw [World.cell?_alloc_at _ _ _ _ rfl]; rfl
        have z1 : (wr.alloc (.cells #[.slice az zs.length cz, .int .u16 kz] 25)).cell? ⟨wr.heap.size, 1, none⟩ = some (.int .u16 kz) := by rw [World.cell?_alloc_at _ _ _ _ rfl]; rfl
        have hzs8 := (hzs.later hw).later hA8
        have hn8 := (hn7.later hw).later hA8
        have hsa8 := (hsa7.later hw).later hA8
        clear hA8 hzs
        go_upto_region 18 with fail
        generalize wr.alloc (.cells #[.slice az zs.length cz, .int .u16 kz] 25) = W8 at *
        generalize wr.heap.size = Z at *
        clear e0 e1
        have lN : (s.map fun x : Nat => (x : Int)).length = s.length := by simp
        have D1 : Hid (∀ W', Below W8.heap.size W8 W' → Calls Try.prog 11 #[.agg #[.slice az zs.length cz, .int .u16 kz], .slice a2 s.length c2] W' fun e w' => e = .returned (.bool (layB zs (s.map fun x : Nat => (x : Int)))) ∧ Below W'.heap.size W' w') := Lib.hid (fun W' h => by
          have := layout_Valid az zs cz kz a2 (s.map fun x : Nat => (x : Int)) c2 W' (by omega) (by rw [lN]; omega) (hzs8.later h) (hn8.later h).ints
          rw [lN] at this
          exact this)
        have D2 : Hid (∀ W', Below W8.heap.size W8 W' → Calls Try.prog 12 #[.agg #[.slice az zs.length cz, .int .u16 kz], .slice a2 s.length c2] W' fun e w' => e = .returned (.bool (layB zs (s.map fun x : Nat => (x : Int)))) ∧ Below W'.heap.size W' w') := Lib.hid (fun W' h => by
          have := ref03_Valid az zs cz kz a2 (s.map fun x : Nat => (x : Int)) c2 W' (by omega) (by rw [lN]; omega) hzc (hzs8.later h) (hn8.later h).ints
          rw [lN] at this
          exact this)
        have D3 : Hid (∀ W', Below W8.heap.size W8 W' → Calls Try.prog 11 #[.agg #[.slice az zs.length cz, .int .u16 kz], .slice sa sxs.length sc] W' fun e w' => e = .returned (.bool (layB zs sxs)) ∧ Below W'.heap.size W' w') := Lib.hid (fun W' h =>
          layout_Valid az zs cz kz sa sxs sc W' (by omega) (by omega) (hzs8.later h) (hsa8.later h))
        have D4 : Hid (∀ W', Below W8.heap.size W8 W' → Calls Try.prog 12 #[.agg #[.slice az zs.length cz, .int .u16 kz], .slice sa sxs.length sc] W' fun e w' => e = .returned (.bool (layB zs sxs)) ∧ Below W'.heap.size W' w') := Lib.hid (fun W' h =>
          ref03_Valid az zs cz kz sa sxs sc W' (by omega) (by omega) hzc (hzs8.later h) (hsa8.later h))
        generalize layB zs (s.map fun x : Nat => (x : Int)) = vz at *
        generalize layB zs sxs = vr at *
        have n1 : (vz != vz) = false := by simp
        have n2 : (vr != vr) = false := by simp
        have N1 := Lib.hid z0
        have N2 := Lib.hid z1
        have B8 := Lib.hid hw8
        have hr8 := Below.refl W8.heap.size W8
        clear lN hzs8 hn8 hsa8 hw8 hw
        go_region_held3 (fun W' => W'.cell? ⟨Z, 0, none⟩ = some (.slice az zs.length cz) ∧ W'.cell? ⟨Z, 1, none⟩ = some (.int .u16 kz) ∧ Below W8.heap.size W8 W')
          (first
            | exact ⟨z0, z1, hr8.drew⟩
            | assumption
            | exact (fun h => ⟨cell_later h N1.out, cell_later h N2.out, h⟩) (Below.trans (by go_split_ands; assumption) (hb8.mono (Below.size (by go_split_ands; assumption)))))
          (first
            | (go_at_call 11; (with_reducible refine (D1.out _ (by go_split_ands; assumption)).mono ?_); rintro e w' ⟨rfl, hb8⟩)
            | (go_at_call 12; (with_reducible refine (D2.out _ (by go_split_ands; assumption)).mono ?_); rintro e w' ⟨rfl, hb8⟩)
            | (go_at_call 11; (with_reducible refine (D3.out _ (by go_split_ands; assumption)).mono ?_); rintro e w' ⟨rfl, hb8⟩)
            | (go_at_call 12; (with_reducible refine (D4.out _ (by go_split_ands; assumption)).mono ?_); rintro e w' ⟨rfl, hb8⟩))
        all_goals
          have hBel : Below W8.heap.size W8 w' := by go_split_ands; assumption
          have HE : Hid (Below W7.heap.size W7 w') := Lib.hid (B8.out.trans (hBel.mono B8.out.size))
          go_wp2
          go_roundw
          case rel => exact ⟨k + 1, by omega, by go_num, HE.out⟩
          case measure => simp [intOf]; omega
      · obtain rfl : k = 3 := by omega
        clear T7
        have hB9 := hB7.trans (hw.mono hB7.size)
        have hn9 := hn7.later hw
        have hsa9 := hsa7.later hw
        have hs9 : w.heap.size < wr.heap.size := by have := hw.size; omega
        have P1 := Lib.hid (make_Mod seed 1073741824 wr (by omega) (by omega) hseed.1 hseed.2)
        have P2 := Lib.hid (make_Mod seed 300 wr (by omega) (by omega) hseed.1 hseed.2)
        generalize seed % 1073741824 = q1 at *
        generalize seed % 300 = q2 at *
        clear hn7 hsa7 hB7 hs7 hw
        go_wp2_with (first
          | (go_at_call 10; (with_reducible refine P1.out.mono ?_); rintro e w' ⟨rfl, rfl⟩)
          | (go_at_call 10; (with_reducible refine P2.out.mono ?_); rintro e w' ⟨rfl, rfl⟩))
        have hA := Below.alloc (Below.refl wr.heap.size wr) (Nat.le_refl _) (.cells #[.int .i64 seed, .int .i64 q1, .int .i64 q2] 3)
        have T9 := seeds_new wr seed q1 q2 3
        have hBX := hB9.alloc hB9.size (.cells #[.int .i64 seed, .int .i64 q1, .int .i64 q2] 3)
        have hnX := hn9.later hA
        have hsaX := hsa9.later hA
        have hsX : w.heap.size < (wr.alloc (.cells #[.int .i64 seed, .int .i64 q1, .int .i64 q2] 3)).heap.size := by simp; omega
        clear hA hB9 hn9 hsa9 P1 P2
        generalize wr.alloc (.cells #[.int .i64 seed, .int .i64 q1, .int .i64 q2] 3) = WX at *
        generalize wr.heap.size = QX at *
        clear hs9
        go_loopw [12, 22, 23, 24, 25, 26, 27, 28, 29, 30, 123] (fun _ _ _ _ _ _ _ _ _ _ c wr => ∃ k : Nat, k ≤ 3 ∧ c = .int .i64 k ∧ Below WX.heap.size WX wr) (fun _ _ _ _ _ _ _ _ _ _ c _ => 3 - (intOf c).toNat)
        case atStart => exact ⟨0, by omega, rfl, Below.refl _ _⟩
        case round =>
          obtain ⟨k, hk, rfl, hw⟩ := hrel
          by_cases hlt : k < 3
          · obtain ⟨qv, _, e0⟩ := T9 k hlt
            have k3 : (k : Int) < 3 := by omega
            have e0 := cell_later hw e0
            have hs0 : w.heap.size < wr.heap.size := by have := hw.size; omega
            have hnR := hnX.later hw
            have hsR := hsaX.later hw
            have lN : (s.map fun x : Nat => (x : Int)).length = s.length := by simp
            have C1 : Hid (∀ W', Below wr.heap.size wr W' → Calls Try.prog 13 #[.slice a2 s.length c2, .int .i64 qv] W' (GivesLayout (s.map fun x : Nat => (x : Int)) qv W')) := Lib.hid (fun W' h => by
              have := layout_Make a2 (s.map fun x : Nat => (x : Int)) c2 qv W' (by rw [lN]; omega) (hnR.later h).ints
              rw [lN] at this
              exact this)
            have C2 : Hid (∀ W', Below wr.heap.size wr W' → Calls Try.prog 9 #[.slice a2 s.length c2, .int .i64 qv] W' (GivesLayout (s.map fun x : Nat => (x : Int)) qv W')) := Lib.hid (fun W' h => by
              have := ref03_Make a2 (s.map fun x : Nat => (x : Int)) c2 qv W' (by rw [lN]; omega) (hnR.later h).ints
              rw [lN] at this
              exact this)
            have C3 : Hid (∀ W', Below wr.heap.size wr W' → Calls Try.prog 13 #[.slice sa sxs.length sc, .int .i64 qv] W' (GivesLayout sxs qv W')) := Lib.hid (fun W' h => layout_Make sa sxs sc qv W' (by omega) (hsR.later h))
            have C4 : Hid (∀ W', Below wr.heap.size wr W' → Calls Try.prog 9 #[.slice sa sxs.length sc, .int .i64 qv] W' (GivesLayout sxs qv W')) := Lib.hid (fun W' h => ref03_Make sa sxs sc qv W' (by omega) (hsR.later h))
            have ll1 : (mkL (s.map fun x : Nat => (x : Int)) qv).length ≤ 1000000 := by have := length_mkL (s.map fun x : Nat => (x : Int)) qv; rw [lN] at this; omega
            have ll2 : (mkL sxs qv).length ≤ 1000000 := by have := length_mkL sxs qv; omega
            unfold GivesLayout at C1 C2 C3 C4
            generalize mkL (s.map fun x : Nat => (x : Int)) qv = l1 at *
            generalize mkK (s.map fun x : Nat => (x : Int)) qv = K1 at *
            generalize mkE (s.map fun x : Nat => (x : Int)) qv = E1 at *
            generalize mkL sxs qv = l2 at *
            generalize mkK sxs qv = K2 at *
            generalize mkE sxs qv = E2 at *
            have n1 : (E1 != E1) = false := by simp
            have n2 : (E2 != E2) = false := by simp
            clear lN hnR hsR
            have c0 : Cs w.heap.size wr [] := fun p hp => by simp at hp
            have hb0 := Below.refl wr.heap.size wr
            go_wp2_with fail
            with_reducible refine (C1.out _ hb0).mono ?_
            rintro e w11 ⟨aa, cca, rfl, na, _, hb11⟩
            have hs1 : w.heap.size < w11.heap.size := by have := hb11.size; omega
            have b1 := hb11.alloc hb11.size (.cells #[.slice aa l1.length cca, .int .u16 (K1 : Int)] 25)
            have c1 := (c0.later hb11).new2 hs1 (.slice aa l1.length cca) (.int .u16 (K1 : Int)) 25
            have n1a := na.at.later (Below.alloc (Below.refl w11.heap.size w11) (Nat.le_refl _) (.cells #[.slice aa l1.length cca, .int .u16 (K1 : Int)] 25))
            have hs1 : w.heap.size < (w11.alloc (.cells #[.slice aa l1.length cca, .int .u16 (K1 : Int)] 25)).heap.size := by simp; omega
            clear na hb11 c0 hb0 e0
            go_upto_region 25 with fail
            generalize w11.alloc (.cells #[.slice aa l1.length cca, .int .u16 (K1 : Int)] 25) = V1 at *
            generalize w11.heap.size = A1 at *
            go_wp2_with fail
            with_reducible refine (C2.out _ b1).mono ?_
            rintro e w12 ⟨ab, ccb, rfl, nb, _, hb12⟩
            have b2' := b1.trans (hb12.mono b1.size)
            have b2 := b2'.alloc b2'.size (.cells #[.slice ab l1.length ccb, .int .u16 (K1 : Int)] 25)
            have c2 := (c1.later hb12).new2 (by have := hb12.size; omega) (.slice ab l1.length ccb) (.int .u16 (K1 : Int)) 25
            have hA := Below.alloc (Below.refl w12.heap.size w12) (Nat.le_refl _) (.cells #[.slice ab l1.length ccb, .int .u16 (K1 : Int)] 25)
            have n2a := (n1a.later hb12).later hA
            have n2b := nb.at.later hA
            have hs2 : w.heap.size < (w12.alloc (.cells #[.slice ab l1.length ccb, .int .u16 (K1 : Int)] 25)).heap.size := by have := hb12.size; simp; omega
            clear nb hb12 b2' c1 b1 n1a hA
            go_upto_region 26 with fail
            generalize w12.alloc (.cells #[.slice ab l1.length ccb, .int .u16 (K1 : Int)] 25) = V2 at *
            generalize w12.heap.size = A2 at *
            go_wp2_with fail
            with_reducible refine (C3.out _ b2).mono ?_
            rintro e w13 ⟨ac, ccc, rfl, nc, _, hb13⟩
            have b3' := b2.trans (hb13.mono b2.size)
            have b3 := b3'.alloc b3'.size (.cells #[.slice ac l2.length ccc, .int .u16 (K2 : Int)] 25)
            have c3 := (c2.later hb13).new2 (by have := hb13.size; omega) (.slice ac l2.length ccc) (.int .u16 (K2 : Int)) 25
            have hA := Below.alloc (Below.refl w13.heap.size w13) (Nat.le_refl _) (.cells #[.slice ac l2.length ccc, .int .u16 (K2 : Int)] 25)
            have n3a := (n2a.later hb13).later hA
            have n3b := (n2b.later hb13).later hA
            have n3c := nc.at.later hA
            have hs3 : w.heap.size < (w13.alloc (.cells #[.slice ac l2.length ccc, .int .u16 (K2 : Int)] 25)).heap.size := by have := hb13.size; simp; omega
            clear nc hb13 b3' c2 b2 n2a n2b hA
            go_upto_region 27 with fail
            generalize w13.alloc (.cells #[.slice ac l2.length ccc, .int .u16 (K2 : Int)] 25) = V3 at *
            generalize w13.heap.size = A3 at *
            go_wp2_with fail
            with_reducible refine (C4.out _ b3).mono ?_
            rintro e w14 ⟨ad, ccd, rfl, nd, _, hb14⟩
            have b4' := b3.trans (hb14.mono b3.size)
            have b4 := b4'.alloc b4'.size (.cells #[.slice ad l2.length ccd, .int .u16 (K2 : Int)] 25)
            have c4 := (c3.later hb14).new2 (by have := hb14.size; omega) (.slice ad l2.length ccd) (.int .u16 (K2 : Int)) 25
            have hA := Below.alloc (Below.refl w14.heap.size w14) (Nat.le_refl _) (.cells #[.slice ad l2.length ccd, .int .u16 (K2 : Int)] 25)
            have n4a := (n3a.later hb14).later hA
            have n4b := (n3b.later hb14).later hA
            have n4c := (n3c.later hb14).later hA
            have n4d := nd.at.later hA
            clear nd hb14 b4' c3 b3 n3a n3b n3c hA
            go_upto_region 28 with fail
            generalize w14.alloc (.cells #[.slice ad l2.length ccd, .int .u16 (K2 : Int)] 25) = V4 at *
            generalize w14.heap.size = A4 at *
            have S1 := Lib.hid (ref03_Same aa ab l1 cca ccb K1 V4 ll1 n4a n4b)
            have hc4 := c4
            simp only [Cs, List.forall_mem_cons] at hc4
            obtain ⟨⟨d0, _⟩, ⟨d1, _⟩, ⟨f0, _⟩, ⟨f1, _⟩, ⟨g0, _⟩, ⟨g1, _⟩, ⟨h0, _⟩, ⟨h1, _⟩, _⟩ := hc4
            go_wp2_with fail
            with_reducible refine S1.out.mono ?_
            rintro e w15 ⟨rfl, hb15⟩
            have d0 := cell_later hb15 d0
            have d1 := cell_later hb15 d1
            have f0 := cell_later hb15 f0
            have f1 := cell_later hb15 f1
            have S2 := Lib.hid (ref03_Same ac ad l2 ccc ccd K2 w15 ll2 (n4c.later hb15) (n4d.later hb15))
            have b5 := b4.trans (hb15.mono b4.size)
            clear n4a n4b n4c n4d c4 g0 g1 h0 h1 hb15 b4 S1
            go_wp2_with fail
            with_reducible refine S2.out.mono ?_
            rintro e w16 ⟨rfl, hb16⟩
            have HE : Hid (Below WX.heap.size WX w16) := Lib.hid (hw.trans ((b5.trans (hb16.mono b5.size)).mono hw.size))
            clear d0 d1 f0 f1 S2 b5 hb16
            go_wp2
            go_roundw
            case rel => exact ⟨k + 1, by omega, by go_num, HE.out⟩
            case measure => simp [intOf]; omega
          · obtain rfl : k = 3 := by omega
            have hAw := Lib.hid (law03_awake wr)
            have hwf := hBX.trans (hw.mono hBX.size)
            go_wp2_with (go_at_call 6; (with_reducible refine hAw.out.mono ?_); rintro e w12 ⟨rfl, hb12⟩)
            go_ret
            exact ⟨rfl, hwf.trans (hb12.mono hwf.size)⟩

theorem walk {H : Type} (enc : TypeId × Value → H) (W : World) (base : Nat) (v0 : Value) (d0 : DataW H) (p0 : List MemPlace) (o0 : Value.okWide Try.prog W .any base 25 v0) (h0 : DataW.Trod enc Try.prog W 0 (fun _ => true) true 25 v0 d0 p0)
    (v1 : Value) (d1 : DataW H) (p1 : List MemPlace) (o1 : Value.okWide Try.prog W .any base 22 v1) (h1 : DataW.Trod enc Try.prog W 0 (fun _ => true) true 22 v1 d1 p1)
    (v2 : Value) (d2 : DataW H) (p2 : List MemPlace) (o2 : Value.okWide Try.prog W .any base 22 v2) (h2 : DataW.Trod enc Try.prog W 0 (fun _ => true) true 22 v2 d2 p2)
    (v3 : Value) (d3 : DataW H) (p3 : List MemPlace) (o3 : Value.okWide Try.prog W .any base 3 v3) (h3 : DataW.Trod enc Try.prog W 0 (fun _ => true) true 3 v3 d3 p3)
    (v4 : Value) (d4 : DataW H) (p4 : List MemPlace) (o4 : Value.okWide Try.prog W .any base 3 v4) (h4 : DataW.Trod enc Try.prog W 0 (fun _ => true) true 3 v4 d4 p4)
    (v5 : Value) (d5 : DataW H) (p5 : List MemPlace) (o5 : Value.okWide Try.prog W .any base 3 v5) (h5 : DataW.Trod enc Try.prog W 0 (fun _ => true) true 3 v5 d5 p5) :
    Calls Try.prog 3 #[v0, v1, v2, v3, v4, v5] W fun e w' => e = .returned (.bool true) ∧ Below W.heap.size W w' := by
  obtain ⟨c0, c1, y0, y1, m, rfl, rfl, rfl, hy0, hy1⟩ := open_agg2 Try.underlying25 (by kernel_rfl) (by kernel_rfl) o0 h0
  obtain ⟨ra, rbs, rc, rfl, hra, _, hrc⟩ := open_cellnums hy0
  obtain ⟨rkey, e1, _, _⟩ := DataW.trod_int Try.underlying23 hy1
  simp at e1
  subst e1
  obtain ⟨sa, sxs, sc, rfl, hsa, _, _⟩ := open_nums Try.underlying22 Try.underlying3 (by kernel_rfl) o1 h1
  obtain ⟨a, xs, cap, rfl, ha, hx, hl⟩ := open_nums Try.underlying22 Try.underlying3 (by kernel_rfl) o2 h2
  obtain ⟨p, rfl, rfl, rfl, w3⟩ := open_int Try.underlying3 o3 h3
  obtain ⟨q, rfl, rfl, rfl, w4⟩ := open_int Try.underlying3 o4 h4
  obtain ⟨r, rfl, rfl, rfl, w5⟩ := open_int Try.underlying3 o5 h5
  by_cases h : 30 < rbs.length ∨ 30 < sxs.length
  · exact long ra sa a rbs sxs xs rc sc cap rkey p q r W h
  · exact core ra sa a rbs sxs xs rc sc cap rkey p q r W (by omega) (by omega) hrc hra hsa ha (fun x hx2 => int_of (hx x hx2)) (by unfold maxLen at hl; exact hl) (int_of w3) (int_of w4) (int_of w5)
end Go.Proofs.Ytpjaflcljnfjmaa.layoutMakesLaw
