/-
  CacheForgets: the law's walk: for every list of numbers, every address and every bit the call returns true, and nothing that was there before is written.
-/
import Derived.Test.YtkffeibjleiaoaaCaTurn
import Derived.Test.YtkffeibjleiaoaaOpenInts
import Derived.Lib.SmallJoins
import Derived.RegionTactic
import Derived.BigRegion
import Derived.Deep.RegionWith
import Derived.Deep.RegionHeld3
namespace Go.Proofs.Ytkffeibjleiaoaa.cacheForgetsLaw
open Go.RowKit

set_option maxHeartbeats 8000000 in
set_option maxRecDepth 100000 in
theorem core (a : Option Addr) (xs : List Int) (cap : Nat) (p q : Int) (W : World) (ha : IntsAt .i64 W a xs) (hx : ∀ x ∈ xs, -9223372036854775808 ≤ x ∧ x ≤ 9223372036854775807) (hl : xs.length ≤ 9223372036854775807)
    (hp1 : -9223372036854775808 ≤ p) (hp2 : p ≤ 9223372036854775807) (hq1 : -9223372036854775808 ≤ q) (hq2 : q ≤ 9223372036854775807) :
    Calls Try.prog 6 #[.slice a xs.length cap, .int .i64 p, .int .i64 q] W fun e w' => e = .returned (.bool true) ∧ Below W.heap.size W w' := by
  have hN := Lib.hid (make_New a xs cap W ha hx hl)
  have HP := Lib.hid (fun w => make_Mod p 496 w (by omega) (by omega) hp1 hp2)
  have HQ := Lib.hid (fun w => make_Mod q 16 w (by omega) (by omega) hq1 hq2)
  have hp0 := Int.emod_nonneg p (b := 496) (by omega)
  have hp3 := Int.emod_lt_of_pos p (b := 496) (by omega)
  have hq0 := Int.emod_nonneg q (b := 16) (by omega)
  have hq3 := Int.emod_lt_of_pos q (b := 16) (by omega)
  obtain ⟨na, hna⟩ : ∃ n : Nat, p % 496 = (n : Int) := ⟨(p % 496).toNat, by omega⟩
  obtain ⟨nb, hnb⟩ : ∃ n : Nat, q % 16 = (n : Int) := ⟨(q % 16).toNat, by omega⟩
  have hn1 : na < 496 := by omega
  have hn2 : nb < 16 := by omega
  rw [hna] at HP
  rw [hnb] at HQ
  obtain ⟨n, hn⟩ : ∃ n, na / 4 = n := ⟨_, rfl⟩
  obtain ⟨k, hk⟩ : ∃ k, n % 4 = k := ⟨_, rfl⟩
  obtain ⟨j, hj⟩ : ∃ j, na % 4 = j := ⟨_, rfl⟩
  have e1 : (na : Int) / 4 = (n : Int) := by omega
  have e2 : (n : Int) % 4 = (k : Int) := by omega
  have e3 : (na : Int) % 4 = (j : Int) := by omega
  have hn8 : n < 124 := by omega
  have hk4 : k < 4 := by omega
  have hj4 : j < 4 := by omega
  have HNK := Lib.hid (And.intro hn (And.intro hk hj))
  clear ha hx hl hp0 hp3 hq0 hq3 hna hnb hp1 hp2 hq1 hq2 hn hk hj
  go_enter Try.func6, Try.ntmps6
  go_upto_region 2 with (go_at_call 10; (with_reducible refine (HP.out _).mono ?_); rintro e w' ⟨rfl, rfl⟩)
  go_wp2_with fail
  refine hN.out.mono ?_
  rintro e w1 ⟨rfl, hd1, hb1⟩
  have HWk := Lib.hid (law05_worked W.heap.size false w1 hd1)
  clear hN
  go_wp2_with fail
  refine HWk.out.mono ?_
  rintro e w2 ⟨g, cg, h, ch, vs, M, rfl, hO2, hMV, hCoh, hd2, hg2⟩
  have hK : Coh M := hCoh rfl
  have hB2 := hb1.grown hg2 hb1.size (fun k hk => by cases hk; exact Nat.le_refl _)
  have HR := Lib.hid (cache_Read_in _ _ cg ch M na w2 hO2.at hMV (by omega))
  have hV1 := hMV.fetch (n := n) (by omega)
  have hK1 := Coh.fetch (n := n) hMV hK (by omega)
  have ht1 := fetch_tag (n := n) hMV
  have HN4 := HNK.out
  clear hCoh HWk hO2 hd1 hd2 hg2 hb1 hMV hK
  go_wp2_with fail
  refine HR.out.mono ?_
  rintro e w3 ⟨g1, cg1, h1, ch1, vs1, rfl, hO3, hb3⟩
  rw [HNK.out.1] at hO3
  generalize fetchM M n = M1 at *
  generalize lookM M na = c1 at *
  have hA3 := Below.alloc (Below.refl w3.heap.size w3) (Nat.le_refl _) (.cells #[.slice (some ⟨g1, 0, none⟩) 512 cg1, .slice (some ⟨h1, 0, none⟩) 4 ch1] 31)
  have hs3 : (w3.alloc (.cells #[.slice (some ⟨g1, 0, none⟩) 512 cg1, .slice (some ⟨h1, 0, none⟩) 4 ch1] 31)).heap.size = w3.heap.size + 1 := by simp
  have hA4 := hA3.alloc (by rw [hs3]; omega) (.cells #[.int .u8 (c1.1 : Int), .int .u16 (c1.2 : Int)] 25)
  have mM1 : MemBox _ w3.heap.size g1 cg1 h1 ch1 M1 := (MemBox.new hO3).later (Below.alloc (Below.refl _ _) (Nat.le_refl _) (.cells #[.int .u8 (c1.1 : Int), .int .u16 (c1.2 : Int)] 25))
  have hB4 := hB2.trans ((hb3.trans (hA4.mono hb3.size)).mono hB2.size)
  clear HR hO3 hb3 hA3 hs3 hA4 hB2 HN4
  go_upto_region 3 with fail
  generalize (w3.alloc (.cells #[.slice (some ⟨g1, 0, none⟩) 512 cg1, .slice (some ⟨h1, 0, none⟩) 4 ch1] 31)).alloc (.cells #[.int .u8 (c1.1 : Int), .int .u16 (c1.2 : Int)] 25) = W4 at *
  generalize w3.heap.size = X8 at *
  have m0 := (mM1.1 0 (by simp)).1
  have m1 := (mM1.1 1 (by simp)).1
  have HC := Lib.hid (ref04_Copy _ _ cg1 ch1 M1 W4 mM1.2 hV1)
  go_wp2_with fail
  refine HC.out.mono ?_
  rintro e w5 ⟨g2, cg2, h2, ch2, vs2, rfl, hO5, hb5⟩
  have hA5 := Below.alloc (Below.refl w5.heap.size w5) (Nat.le_refl _) (.cells #[.slice (some ⟨g2, 0, none⟩) 512 cg2, .slice (some ⟨h2, 0, none⟩) 4 ch2] 31)
  have bX := Blk.new (W := w5) #[.slice (some ⟨g2, 0, none⟩) 512 cg2, .slice (some ⟨h2, 0, none⟩) 4 ch2] 31
  have hO6 := hO5.later hA5
  have hfr := fresh_block hO5 (Nat.le_refl w5.heap.size)
  have hB6 := hB4.trans ((hb5.trans (hA5.mono hb5.size)).mono hB4.size)
  have hWs : W.heap.size ≤ W4.heap.size := hB4.size
  clear HC mM1 m0 m1 hO5 hb5 hA5 hB4
  go_upto_region 6 with fail
  generalize w5.alloc (.cells #[.slice (some ⟨g2, 0, none⟩) 512 cg2, .slice (some ⟨h2, 0, none⟩) 4 ch2] 31) = W6 at *
  generalize w5.heap.size = X at *
  have b0 := (bX 0 (by simp)).1
  have b1 := (bX 1 (by simp)).1
  have hkl : k < M1.lines.length := by have := hV1.lines; omega
  have hkv : k < vs2.length := by have := hO6.four; omega
  have hL : lineM M1 n = M1.lines[k] := by unfold lineM; rw [HNK.out.2.1, getD_in _ _ hkl]
  have h44 : M1.lines[k].cells.length = 4 := by
    rcases (hV1.line n).tag with ⟨h9, _⟩ | ⟨_, _, _, _, h9⟩
    · rw [ht1] at h9; omega
    · rw [hL] at h9; exact h9
  obtain ⟨t0, t1, t2, tf⟩ := hO6.head k hkl hkv
  obtain ⟨b, cc, hv, hb4, hb5, hbg, hbh, hrow⟩ := hO6.line4 k hkl hkv h44
  rw [hv] at t2
  obtain ⟨t, v, htv⟩ : ∃ t v, M1.lines[k].cells.getD j (0, 0) = (t, v) := ⟨_, _, rfl⟩
  have hjl : j < M1.lines[k].cells.length := by omega
  have hcj := htv
  rw [getD_in _ _ hjl] at hcj
  have hvc : VC (t, v) := by rw [← hcj]; exact (hV1.each k hkl).cell _ (List.getElem_mem _)
  obtain ⟨d0, d1⟩ := own_cell hrow j hjl
  rw [hcj] at d0 d1
  have d2 := hrow.frozenAt (j * 2 + 1)
  obtain ⟨d, hd⟩ : ∃ d, M1.lines[k].dirty = d := ⟨_, rfl⟩
  rw [hd] at t1
  have i1 : (k : Int) < 4 := by omega
  have i2 : 0 ≤ (k : Int) := by omega
  have y1 : (j : Int) < 4 := by omega
  have y2 : 0 ≤ (j : Int) := by omega
  have hx := xor_pow v nb hvc.2 hn2
  have hs := shl_one nb hn2
  have hlv := flip_lt v nb hvc.2 hn2
  have ht9 : (lineM M1 (na / 4)).tag = ((na / 4 : Nat) : Int) := by rw [HNK.out.1]; exact ht1
  have hcv : VC (t, v ^^^ 2 ^ nb) := ⟨hvc.1, hlv⟩
  have hd9 : (lineM M1 (na / 4)).dirty = d := by rw [HNK.out.1, hL]; exact hd
  have hold : d = false → M1.cells.getD na (0, 0) = (t, v) := fun h0 => by
    have := hK1 na (by omega) ht9 (by rw [hd9]; exact h0)
    rw [← this, HNK.out.1, hL, HNK.out.2.2]
    exact htv
  have hY := turn_back hV1 ht9 hcv hn1
  rw [hd9, HNK.out.1] at hY
  have hTV := hV1.turn ht9 hcv
  have hZ1 := look_back hTV na
  have hYV := hTV.fetch (n := n + 4) (by omega)
  have hZ2 := cells_own (b := na) (n := n) hYV (by omega) HNK.out.1
  rw [HNK.out.1] at hZ1
  have HTO := Lib.hid (fun v' => hO6.turn na n k j HNK.out.1 HNK.out.2.1 HNK.out.2.2 hkl hkv h44 hv t v v' htv)
  have HOV := Lib.hid (fun v' => own_val hrow j hjl t v v' htv)
  clear t0 tf hjl hcj hlv ht9 hd9 ht1 hK1
  go_upto_region 9 with fail
  have e4 : (na : Int).tmod 4 = (j : Int) := by rw [Int.tmod_eq_emod_of_nonneg (by omega)]; exact e3
  have hval : bits .xor .u16 (v : Int) (IntKind.u16.wrap (2 ^ min (IntKind.u64.wrap (nb : Int)).toNat 16)) = ((v ^^^ 2 ^ nb : Nat) : Int) := by
    have hw : IntKind.u64.wrap (nb : Int) = (nb : Int) := IntWalk.u64_in _ (by omega)
    rw [hw, Int.toNat_natCast, Nat.min_eq_left (by omega), hs]
    exact hx
  have HVAL := Lib.hid hval
  have hne : v ^^^ 2 ^ nb ≠ v := flip_ne v nb hn2
  have hlt := flip_lt v nb hvc.2 hn2
  clear hval hx hs
  go_cut [54] (fun _ wx => wx = (W6.setCell ⟨b, j * 2 + 1, none⟩ (.int .u16 ((v ^^^ 2 ^ nb : Nat) : Int))).drew)
  case first =>
    clear HTO HOV hY hTV hZ1 hYV hZ2 hold
    go_region_with (go_at_call 10; (with_reducible refine (HQ.out _).mono ?_); rintro e w' ⟨rfl, rfl⟩)
    all_goals
      go_wp2
      go_meet
      rw [HVAL.out]
  case rest =>
    obtain rfl := hcut
    clear hlt HP HQ
    have hT := HTO.out (v ^^^ 2 ^ nb)
    obtain ⟨p0, p1⟩ := HOV.out (v ^^^ 2 ^ nb)
    generalize v ^^^ 2 ^ nb = v' at *
    have gg := grownBy_cell W6 b (j * 2 + 1) (.int .u16 (v' : Int))
    have t1 := gg.cell t1 (by simp; omega)
    have t2 := gg.cell t2 (by simp; omega)
    have hXb : X ≠ b := fun e => hfr.2.2 k hkv (by rw [hv, e]; rfl)
    have bX7 := bX.kept gg (by simp; omega)
    have hB7 := (hB6.setCell (p := ⟨b, j * 2 + 1, none⟩) (by simp; omega) (.int .u16 (v' : Int))).drew
    have hdr := (Below.refl (W6.setCell ⟨b, j * 2 + 1, none⟩ (.int .u16 (v' : Int))).heap.size (W6.setCell ⟨b, j * 2 + 1, none⟩ (.int .u16 (v' : Int)))).drew
    have hT := hT.later hdr
    have t1 := cell_later hdr t1
    have t2 := cell_later hdr t2
    have p0 := cell_later hdr p0
    have p1 := cell_later hdr p1
    have bX7 := bX7.later hdr
    clear hdr gg bX b0 b1 d0 d1 d2 hO6 hrow hfr hB6 HTO HOV HVAL hv hL hd h44 htv hcv hkv hkl
    generalize (W6.setCell ⟨b, j * 2 + 1, none⟩ (.int .u16 (v' : Int))).drew = W7 at *
    have hAb := Below.alloc (Below.refl W7.heap.size W7) (Nat.le_refl _) (.cells #[.int .u8 (t : Int), .int .u16 (v' : Int)] 25)
    have kb : CellBox _ W7.heap.size (t, v') := Blk.new (W := W7) #[.int .u8 (t : Int), .int .u16 (v' : Int)] 25
    have hB8 := hB7.trans (hAb.mono hB7.size)
    have mX : MemBox _ X g2 cg2 h2 ch2 (turnM M1 na (t, v')) := MemBox.later ⟨bX7, hT.at⟩ hAb
    have t1 := cell_later hAb t1
    clear hB7 bX7 hT
    go_upto_region 11 with fail
    clear t2 p0 p1
    generalize W7.alloc (.cells #[.int .u8 (t : Int), .int .u16 (v' : Int)] 25) = W8 at *
    generalize W7.heap.size = Zb at *
    generalize turnM M1 na (t, v') = T at *
    have HR := cache_Read_in _ _ cg2 ch2 T (na + 16) W8 mX.2 hTV (by omega)
    have m0 := (mX.1 0 (by simp)).1
    have m1 := (mX.1 1 (by simp)).1
    rw [show ((na + 16 : Nat) : Int) = (na : Int) + 16 by omega] at HR
    have HR := Lib.hid HR
    have hn4 : (na + 16) / 4 = n + 4 := by have := HNK.out.1; omega
    have HN4 := Lib.hid hn4
    clear hAb hn4
    go_wp2_with fail
    refine HR.out.mono ?_
    rintro e w9 ⟨g3, cg3, h3, ch3, vs3, rfl, hO9, hb9⟩
    rw [HN4.out] at hO9
    generalize fetchM T (n + 4) = Y at *
    generalize lookM T (na + 16) = c9 at *
    have hA9 := Below.alloc (Below.refl w9.heap.size w9) (Nat.le_refl _) (.cells #[.slice (some ⟨g3, 0, none⟩) 512 cg3, .slice (some ⟨h3, 0, none⟩) 4 ch3] 31)
    have hs9 : (w9.alloc (.cells #[.slice (some ⟨g3, 0, none⟩) 512 cg3, .slice (some ⟨h3, 0, none⟩) 4 ch3] 31)).heap.size = w9.heap.size + 1 := by simp
    have hA10 := hA9.alloc (by rw [hs9]; omega) (.cells #[.int .u8 (c9.1 : Int), .int .u16 (c9.2 : Int)] 25)
    have mY : MemBox _ w9.heap.size g3 cg3 h3 ch3 Y := (MemBox.new hO9).later (Below.alloc (Below.refl _ _) (Nat.le_refl _) (.cells #[.int .u8 (c9.1 : Int), .int .u16 (c9.2 : Int)] 25))
    have hb10 := hb9.trans (hA10.mono hb9.size)
    have kb := kb.later hb10
    have hB10 := hB8.trans (hb10.mono hB8.size)
    clear HR hO9 hb9 hA9 hs9 hA10 hb10 hB8 m0 m1 mX t1
    go_upto_region 13 with fail
    generalize (w9.alloc (.cells #[.slice (some ⟨g3, 0, none⟩) 512 cg3, .slice (some ⟨h3, 0, none⟩) 4 ch3] 31)).alloc (.cells #[.int .u8 (c9.1 : Int), .int .u16 (c9.2 : Int)] 25) = W10 at *
    generalize w9.heap.size = XY at *
    have HR := Lib.hid (cache_Read_in _ _ cg3 ch3 Y na W10 mY.2 hYV (by omega))
    have m0 := (mY.1 0 (by simp)).1
    have m1 := (mY.1 1 (by simp)).1
    go_wp2_with fail
    refine HR.out.mono ?_
    rintro e w11 ⟨g4, cg4, h4, ch4, vs4, rfl, hO11, hb11⟩
    rw [HNK.out.1] at hO11
    have hzc := hZ2
    rw [hY] at hZ1 hzc
    have hres : ∃ r : Nat × Nat, lookM Y na = r ∧ (fetchM Y n).cells.getD na (0, 0) = r ∧ (d = true → r = (t, v')) ∧ (d = false → r = (t, v)) := by
      refine ⟨_, hZ1, hzc, fun h0 => by rw [if_pos h0], fun h0 => by rw [if_neg (by simp [h0]), hold h0]⟩
    obtain ⟨r, hr1, hr2, hr3, hr4⟩ := hres
    obtain ⟨z0, z1⟩ := hO11.word na (by omega) r hr2
    rw [hr1]
    have hA11 := Below.alloc (Below.refl w11.heap.size w11) (Nat.le_refl _) (.cells #[.slice (some ⟨g4, 0, none⟩) 512 cg4, .slice (some ⟨h4, 0, none⟩) 4 ch4] 31)
    have hs11 : (w11.alloc (.cells #[.slice (some ⟨g4, 0, none⟩) 512 cg4, .slice (some ⟨h4, 0, none⟩) 4 ch4] 31)).heap.size = w11.heap.size + 1 := by simp
    have hA12 := hA11.alloc (by rw [hs11]; omega) (.cells #[.int .u8 (r.1 : Int), .int .u16 (r.2 : Int)] 25)
    have bZ := (Blk.new (W := w11) #[.slice (some ⟨g4, 0, none⟩) 512 cg4, .slice (some ⟨h4, 0, none⟩) 4 ch4] 31).later (Below.alloc (Below.refl _ _) (Nat.le_refl _) (.cells #[.int .u8 (r.1 : Int), .int .u16 (r.2 : Int)] 25))
    have kr : CellBox ((w11.alloc (.cells #[.slice (some ⟨g4, 0, none⟩) 512 cg4, .slice (some ⟨h4, 0, none⟩) 4 ch4] 31)).alloc (.cells #[.int .u8 (r.1 : Int), .int .u16 (r.2 : Int)] 25)) (w11.heap.size + 1) r := by
      have h9 := Blk.new (W := w11.alloc (.cells #[.slice (some ⟨g4, 0, none⟩) 512 cg4, .slice (some ⟨h4, 0, none⟩) 4 ch4] 31)) #[.int .u8 (r.1 : Int), .int .u16 (r.2 : Int)] 25
      rw [hs11] at h9
      exact h9
    have hb12 := hb11.trans (hA12.mono hb11.size)
    have kb := kb.later hb12
    have z0 := cell_later hA12 z0
    have z1 := cell_later hA12 z1
    have hB12 := hB10.trans (hb12.mono hB10.size)
    clear HR hO11 hb11 hA11 hs11 hA12 hb12 hB10 m0 m1 mY hY hZ1 hZ2 hzc hold hr1 hr2
    go_upto_region 14 with fail
    generalize (w11.alloc (.cells #[.slice (some ⟨g4, 0, none⟩) 512 cg4, .slice (some ⟨h4, 0, none⟩) 4 ch4] 31)).alloc (.cells #[.int .u8 (r.1 : Int), .int .u16 (r.2 : Int)] 25) = W12 at *
    generalize w11.heap.size = XZ at *
    have Z0 := (bZ 0 (by simp)).1
    have Z1 := (bZ 1 (by simp)).1
    have a0 := (kr 0 (by simp)).1
    have a1 := (kr 1 (by simp)).1
    have b0 := (kb 0 (by simp)).1
    have b1 := (kb 1 (by simp)).1
    have q1 : (na : Int) < 512 := by omega
    have q2 : 0 ≤ (na : Int) := by omega
    go_upto_region 16 with fail
    have HAW := Lib.hid law05_awake
    clear HNK HN4 bZ kr kb
    cases d with
    | true =>
      obtain rfl := hr3 rfl
      clear hr3 hr4
      have HS := Lib.hid (fun W (hW : Below W12.heap.size W12 W) => show W.cell? ⟨XZ + 1, 0, none⟩ = some (.int .u8 (t : Int)) ∧ W.cell? ⟨XZ + 1, 1, none⟩ = some (.int .u16 (v' : Int)) ∧ W.cell? ⟨Zb, 0, none⟩ = some (.int .u8 (t : Int)) ∧ W.cell? ⟨Zb, 1, none⟩ = some (.int .u16 (v' : Int)) ∧ W.cell? ⟨XZ, 0, none⟩ = some (.slice (some ⟨g4, 0, none⟩) 512 cg4) ∧ W.cell? ⟨g4, na * 2, none⟩ = some (.int .u8 (t : Int)) ∧ W.cell? ⟨g4, na * 2 + 1, none⟩ = some (.int .u16 (v' : Int)) ∧ Below W12.heap.size W12 W from ⟨cell_later hW a0, cell_later hW a1, cell_later hW b0, cell_later hW b1, cell_later hW Z0, cell_later hW z0, cell_later hW z1, hW⟩)
      clear a0 a1 b0 b1 Z0 Z1 z0 z1
      go_region_held3 (fun W => W.cell? ⟨XZ + 1, 0, none⟩ = some (.int .u8 (t : Int)) ∧ W.cell? ⟨XZ + 1, 1, none⟩ = some (.int .u16 (v' : Int)) ∧ W.cell? ⟨Zb, 0, none⟩ = some (.int .u8 (t : Int)) ∧ W.cell? ⟨Zb, 1, none⟩ = some (.int .u16 (v' : Int)) ∧ W.cell? ⟨XZ, 0, none⟩ = some (.slice (some ⟨g4, 0, none⟩) 512 cg4) ∧ W.cell? ⟨g4, na * 2, none⟩ = some (.int .u8 (t : Int)) ∧ W.cell? ⟨g4, na * 2 + 1, none⟩ = some (.int .u16 (v' : Int)) ∧ Below W12.heap.size W12 W)
        (first
          | exact HS.out _ (Below.refl _ _).drew
          | assumption
          | exact HS.out _ (Below.trans (by go_split_ands; assumption) (hb13.mono (Below.size (by go_split_ands; assumption)))))
        (first
          | (go_at_call 24; (with_reducible refine (HAW.out _).mono ?_); rintro e w' ⟨rfl, hb13⟩))
      have hBel : Below W12.heap.size W12 w' := by go_split_ands; assumption
      have hBE := hB12.trans (hBel.mono hB12.size)
      go_wp2
      go_ret
      exact ⟨rfl, hBE⟩
    | false =>
      obtain rfl := hr4 rfl
      have x1 : ¬ (v : Int) = (v' : Int) := by omega
      have x2 : ¬ v = v' := by omega
      have x3 : ((v : Int) == (v' : Int)) = false := by rw [beq_eq_false_iff_ne]; exact x1
      clear hr3 hr4
      have HS := Lib.hid (fun W (hW : Below W12.heap.size W12 W) => show W.cell? ⟨XZ + 1, 0, none⟩ = some (.int .u8 (t : Int)) ∧ W.cell? ⟨XZ + 1, 1, none⟩ = some (.int .u16 (v : Int)) ∧ W.cell? ⟨Zb, 0, none⟩ = some (.int .u8 (t : Int)) ∧ W.cell? ⟨Zb, 1, none⟩ = some (.int .u16 (v' : Int)) ∧ W.cell? ⟨XZ, 0, none⟩ = some (.slice (some ⟨g4, 0, none⟩) 512 cg4) ∧ W.cell? ⟨g4, na * 2, none⟩ = some (.int .u8 (t : Int)) ∧ W.cell? ⟨g4, na * 2 + 1, none⟩ = some (.int .u16 (v : Int)) ∧ Below W12.heap.size W12 W from ⟨cell_later hW a0, cell_later hW a1, cell_later hW b0, cell_later hW b1, cell_later hW Z0, cell_later hW z0, cell_later hW z1, hW⟩)
      clear a0 a1 b0 b1 Z0 Z1 z0 z1
      go_region_held3 (fun W => W.cell? ⟨XZ + 1, 0, none⟩ = some (.int .u8 (t : Int)) ∧ W.cell? ⟨XZ + 1, 1, none⟩ = some (.int .u16 (v : Int)) ∧ W.cell? ⟨Zb, 0, none⟩ = some (.int .u8 (t : Int)) ∧ W.cell? ⟨Zb, 1, none⟩ = some (.int .u16 (v' : Int)) ∧ W.cell? ⟨XZ, 0, none⟩ = some (.slice (some ⟨g4, 0, none⟩) 512 cg4) ∧ W.cell? ⟨g4, na * 2, none⟩ = some (.int .u8 (t : Int)) ∧ W.cell? ⟨g4, na * 2 + 1, none⟩ = some (.int .u16 (v : Int)) ∧ Below W12.heap.size W12 W)
        (first
          | exact HS.out _ (Below.refl _ _).drew
          | assumption
          | exact HS.out _ (Below.trans (by go_split_ands; assumption) (hb13.mono (Below.size (by go_split_ands; assumption)))))
        (first
          | (go_at_call 24; (with_reducible refine (HAW.out _).mono ?_); rintro e w' ⟨rfl, hb13⟩))
      have hBel : Below W12.heap.size W12 w' := by go_split_ands; assumption
      have hBE := hB12.trans (hBel.mono hB12.size)
      go_wp2
      go_ret
      exact ⟨rfl, hBE⟩

open Go.ChangeShapes Go.WideShapes Go.ChangeAt Go.Joins in
theorem walk {H : Type} (enc : TypeId × Value → H) (W : World) (base : Nat) (v0 : Value) (d0 : DataW H) (p0 : List MemPlace) (o0 : Value.okWide Try.prog W .any base 22 v0) (h0 : DataW.Trod enc Try.prog W 0 (fun _ => true) true 22 v0 d0 p0)
    (v1 : Value) (d1 : DataW H) (p1 : List MemPlace) (o1 : Value.okWide Try.prog W .any base 3 v1) (h1 : DataW.Trod enc Try.prog W 0 (fun _ => true) true 3 v1 d1 p1)
    (v2 : Value) (d2 : DataW H) (p2 : List MemPlace) (o2 : Value.okWide Try.prog W .any base 3 v2) (h2 : DataW.Trod enc Try.prog W 0 (fun _ => true) true 3 v2 d2 p2) :
    Calls Try.prog 6 #[v0, v1, v2] W fun e w' => e = .returned (.bool true) ∧ Below W.heap.size W w' := by
  obtain ⟨a, xs, cap, rfl, ha, hx, hl⟩ := open_nums Try.underlying22 Try.underlying3 (by kernel_rfl) o0 h0
  obtain ⟨i, rfl, rfl, rfl, w1⟩ := open_int Try.underlying3 o1 h1
  obtain ⟨j, rfl, rfl, rfl, w2⟩ := open_int Try.underlying3 o2 h2
  exact core a xs cap i j W ha (fun x hx2 => int_of (hx x hx2)) (by unfold maxLen at hl; exact hl) (int_of w1).1 (int_of w1).2 (int_of w2).1 (int_of w2).2
end Go.Proofs.Ytkffeibjleiaoaa.cacheForgetsLaw
