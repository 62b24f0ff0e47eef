/-
  CacheHides: the law's walk: for every list of numbers, every address and every bit the call returns true, and nothing that was there before is written.
-/
import Derived.Test.YtkffeibjleiaoaaCaTurn
import Derived.Test.YtkffeibjleiaoaaOpenInts
import Derived.Lib.SmallJoins
import Derived.RegionTactic
import Derived.BigRegion
import Derived.Deep.RegionWith
import Derived.Deep.RegionHeld3
namespace Go.Proofs.Ytkffeibjleiaoaa.cacheHidesLaw
open Go.RowKit

set_option maxHeartbeats 8000000 in
set_option maxRecDepth 100000 in
theorem core (a : Option Addr) (xs : List Int) (cap : Nat) (p q : Int) (W : World) (ha : IntsAt .i64 W a xs) (hx : ∀ x ∈ xs, -9223372036854775808 ≤ x ∧ x ≤ 9223372036854775807) (hl : xs.length ≤ 9223372036854775807)
    (hp1 : -9223372036854775808 ≤ p) (hp2 : p ≤ 9223372036854775807) (hq1 : -9223372036854775808 ≤ q) (hq2 : q ≤ 9223372036854775807) :
    Calls Try.prog 5 #[.slice a xs.length cap, .int .i64 p, .int .i64 q] W fun e w' => e = .returned (.bool true) ∧ Below W.heap.size W w' := by
  have hN := Lib.hid (make_New a xs cap W ha hx hl)
  have HP := Lib.hid (fun w => make_Mod p 512 w (by omega) (by omega) hp1 hp2)
  have HQ := Lib.hid (fun w => make_Mod q 16 w (by omega) (by omega) hq1 hq2)
  have hp0 := Int.emod_nonneg p (b := 512) (by omega)
  have hp3 := Int.emod_lt_of_pos p (b := 512) (by omega)
  have hq0 := Int.emod_nonneg q (b := 16) (by omega)
  have hq3 := Int.emod_lt_of_pos q (b := 16) (by omega)
  obtain ⟨na, hna⟩ : ∃ n : Nat, p % 512 = (n : Int) := ⟨(p % 512).toNat, by omega⟩
  obtain ⟨nb, hnb⟩ : ∃ n : Nat, q % 16 = (n : Int) := ⟨(q % 16).toNat, by omega⟩
  have hn1 : na < 512 := by omega
  have hn2 : nb < 16 := by omega
  rw [hna] at HP
  rw [hnb] at HQ
  obtain ⟨n, hn⟩ : ∃ n, na / 4 = n := ⟨_, rfl⟩
  obtain ⟨k, hk⟩ : ∃ k, n % 4 = k := ⟨_, rfl⟩
  have e1 : (na : Int) / 4 = (n : Int) := by omega
  have e2 : (n : Int) % 4 = (k : Int) := by omega
  have hn8 : n < 128 := by omega
  have hk4 : k < 4 := by omega
  have HNK := Lib.hid (And.intro hn hk)
  clear ha hx hl hp0 hp3 hq0 hq3 hna hnb hp1 hp2 hq1 hq2 hn hk
  go_enter Try.func5, Try.ntmps5
  go_wp2_with fail
  refine hN.out.mono ?_
  rintro e w1 ⟨rfl, hd1, hb1⟩
  have HWk := Lib.hid (law05_worked W.heap.size false w1 hd1)
  clear hN
  go_upto_region 3 with (go_at_call 10; (with_reducible refine (HP.out _).mono ?_); rintro e w' ⟨rfl, rfl⟩)
  go_wp2_with fail
  refine HWk.out.mono ?_
  rintro e w2 ⟨g, cg, h, ch, vs, M, rfl, hO2, hMV, hCoh, hd2, hg2⟩
  have hK : Coh M := hCoh rfl
  have hB2 := hb1.grown hg2 hb1.size (fun k hk => by cases hk; exact Nat.le_refl _)
  have HR := Lib.hid (cache_Read_in _ _ cg ch M na w2 hO2.at hMV (by omega))
  have hV1 := hMV.fetch (n := n) (by omega)
  have hK1 := Coh.fetch (n := n) hMV hK (by omega)
  have ht1 := fetch_tag (n := n) hMV
  have hlk := look_fetch (n := n) hMV hK na hn1
  clear hCoh HWk hO2 hd1 hd2 hg2 hb1 hMV hK
  go_wp2_with fail
  refine HR.out.mono ?_
  rintro e w3 ⟨g1, cg1, h1, ch1, vs1, rfl, hO3, hb3⟩
  rw [HNK.out.1] at hO3
  generalize fetchM M n = M1 at *
  generalize lookM M na = c1 at *
  have hA3 := Below.alloc (Below.refl w3.heap.size w3) (Nat.le_refl _) (.cells #[.slice (some ⟨g1, 0, none⟩) 512 cg1, .slice (some ⟨h1, 0, none⟩) 4 ch1] 31)
  have hs3 : (w3.alloc (.cells #[.slice (some ⟨g1, 0, none⟩) 512 cg1, .slice (some ⟨h1, 0, none⟩) 4 ch1] 31)).heap.size = w3.heap.size + 1 := by simp
  have hA4 := hA3.alloc (by rw [hs3]; omega) (.cells #[.int .u8 (c1.1 : Int), .int .u16 (c1.2 : Int)] 25)
  have mM1 : MemBox _ w3.heap.size g1 cg1 h1 ch1 M1 := (MemBox.new hO3).later (Below.alloc (Below.refl _ _) (Nat.le_refl _) (.cells #[.int .u8 (c1.1 : Int), .int .u16 (c1.2 : Int)] 25))
  have kc : CellBox ((w3.alloc (.cells #[.slice (some ⟨g1, 0, none⟩) 512 cg1, .slice (some ⟨h1, 0, none⟩) 4 ch1] 31)).alloc (.cells #[.int .u8 (c1.1 : Int), .int .u16 (c1.2 : Int)] 25)) (w3.heap.size + 1) c1 := by
    have h9 := Blk.new (W := w3.alloc (.cells #[.slice (some ⟨g1, 0, none⟩) 512 cg1, .slice (some ⟨h1, 0, none⟩) 4 ch1] 31)) #[.int .u8 (c1.1 : Int), .int .u16 (c1.2 : Int)] 25
    rw [hs3] at h9
    exact h9
  have hB4 := hB2.trans ((hb3.trans (hA4.mono hb3.size)).mono hB2.size)
  have hh0 := hO3.bounds.2.2.2
  clear HR hO3 hb3 hA3 hs3 hA4 hB2
  go_upto_region 4 with fail
  generalize (w3.alloc (.cells #[.slice (some ⟨g1, 0, none⟩) 512 cg1, .slice (some ⟨h1, 0, none⟩) 4 ch1] 31)).alloc (.cells #[.int .u8 (c1.1 : Int), .int .u16 (c1.2 : Int)] 25) = W4 at *
  generalize w3.heap.size = X9 at *
  have hX10 : X9 + 1 < W4.heap.size := World.block_lt_of_cell? _ _ (kc 0 (by simp)).1
  have m0 := (mM1.1 0 (by simp)).1
  have m1 := (mM1.1 1 (by simp)).1
  have HC := Lib.hid (ref04_Copy _ _ cg1 ch1 M1 W4 mM1.2 hV1)
  go_wp2_with fail
  refine HC.out.mono ?_
  rintro e w5 ⟨g2, cg2, h2, ch2, vs2, rfl, hO5, hb5⟩
  have hA5 := Below.alloc (Below.refl w5.heap.size w5) (Nat.le_refl _) (.cells #[.slice (some ⟨g2, 0, none⟩) 512 cg2, .slice (some ⟨h2, 0, none⟩) 4 ch2] 31)
  have bX := Blk.new (W := w5) #[.slice (some ⟨g2, 0, none⟩) 512 cg2, .slice (some ⟨h2, 0, none⟩) 4 ch2] 31
  have hO6 := hO5.later hA5
  have hXg : w5.heap.size ≠ g2 := by have := hO5.bounds; omega
  have hb6 := hb5.trans (hA5.mono hb5.size)
  have mM := mM1.later hb6
  have kc := kc.later hb6
  have hB6 := hB4.trans (hb6.mono hB4.size)
  have hWs : W.heap.size ≤ W4.heap.size := hB4.size
  have hX9 : X9 < W4.heap.size := World.block_lt_of_cell? _ _ (mM1.1 0 (by simp)).1
  clear HC mM1 m0 m1 hO5 hb5 hA5 hB4
  go_upto_region 7 with fail
  generalize w5.alloc (.cells #[.slice (some ⟨g2, 0, none⟩) 512 cg2, .slice (some ⟨h2, 0, none⟩) 4 ch2] 31) = W6 at *
  generalize w5.heap.size = X at *
  have b0 := (bX 0 (by simp)).1
  have b1 := (bX 1 (by simp)).1
  obtain ⟨t, v, htv⟩ : ∃ t v, M1.cells.getD na (0, 0) = (t, v) := ⟨_, _, rfl⟩
  have hnl : na < M1.cells.length := by rw [hV1.len]; exact hn1
  have hvc : VC (t, v) := by rw [← htv, getD_in _ _ hnl]; exact hV1.ok _ (List.getElem_mem _)
  obtain ⟨d0, d1⟩ := hO6.word na hn1 (t, v) htv
  have d2 := hO6.cells.frozenAt (na * 2 + 1)
  have hgb := hO6.bounds.1
  have hkl : k < M1.lines.length := by have := hV1.lines; omega
  have hL : lineM M1 n = M1.lines[k] := by unfold lineM; rw [HNK.out.2, getD_in _ _ hkl]
  obtain ⟨d, hd⟩ : ∃ d, M1.lines[k].dirty = d := ⟨_, rfl⟩
  have ht9 : (lineM M1 (na / 4)).tag = ((na / 4 : Nat) : Int) := by rw [HNK.out.1]; exact ht1
  have hd9 : (lineM M1 (na / 4)).dirty = d := by rw [HNK.out.1, hL]; exact hd
  have hlv := flip_lt v nb hvc.2 hn2
  have hcv : VC (t, v ^^^ 2 ^ nb) := ⟨hvc.1, hlv⟩
  have hold : d = false → c1 = (t, v) := fun h0 => by
    have h9 := hK1 na (by omega) ht9 (by rw [hd9]; exact h0)
    rw [← hlk]
    unfold lookM
    rw [if_pos ht9, h9, htv]
  have hS1 := look_poke M1 na (t, v ^^^ 2 ^ nb) ht9
  have hS2 := flush_poke (c := (t, v ^^^ 2 ^ nb)) hV1 ht9 hcv hn1
  have hS3 := cells_poke M1 na (t, v ^^^ 2 ^ nb) hnl
  rw [hlk] at hS1 hS2
  rw [hd9] at hS2
  have hPV := hV1.poke (a := na) hcv
  have HTO := Lib.hid (fun v' => hO6.bit na hn1 t v v' htv)
  have hx := xor_pow v nb hvc.2 hn2
  have hs := shl_one nb hn2
  have q1 : (na : Int) < 512 := by omega
  have q2 : 0 ≤ (na : Int) := by omega
  have hval : bits .xor .u16 (v : Int) (IntKind.u16.wrap (2 ^ min (IntKind.u64.wrap (nb : Int)).toNat 16)) = ((v ^^^ 2 ^ nb : Nat) : Int) := by
    have hw : IntKind.u64.wrap (nb : Int) = (nb : Int) := IntWalk.u64_in _ (by omega)
    rw [hw, Int.toNat_natCast, Nat.min_eq_left (by omega), hs]
    exact hx
  have HVAL := Lib.hid hval
  have hne : v ^^^ 2 ^ nb ≠ v := flip_ne v nb hn2
  obtain ⟨lb, lo, hlE, hlc⟩ := mM.2.2.some hkl
  have hlines := hlc k hkl
  simp only [Option.some.injEq, Addr.mk.injEq, and_true] at hlE
  obtain ⟨rfl, rfl⟩ := hlE
  have t1 := hlines.2.1
  rw [hd, Nat.zero_add] at t1
  have i1 : (k : Int) < 4 := by omega
  have i2 : 0 ≤ (k : Int) := by omega
  clear hval hx hs hlines hlc hL hd hkl hK1 ht1 hlk ht9 hd9 hcv hlv htv hnl
  go_cut [47] (fun _ wx => wx = (W6.setCell ⟨g2, na * 2 + 1, none⟩ (.int .u16 ((v ^^^ 2 ^ nb : Nat) : Int))).drew)
  case first =>
    clear HTO hS1 hS2 hS3 hPV hold
    go_region_with (go_at_call 10; (with_reducible refine (HQ.out _).mono ?_); rintro e w' ⟨rfl, rfl⟩)
    all_goals
      go_wp2
      go_meet
      rw [HVAL.out]
  case rest =>
    obtain rfl := hcut
    clear HP HQ
    have hT := HTO.out (v ^^^ 2 ^ nb)
    generalize v ^^^ 2 ^ nb = v' at *
    have gg := grownBy_cell W6 g2 (na * 2 + 1) (.int .u16 (v' : Int))
    have bX7 := bX.kept gg (by simp; omega)
    have kc := Blk.kept kc gg (by simp; omega)
    have b9 := mM.1.kept gg (by simp; omega)
    have t1 := gg.cell t1 (by simp; omega)
    have hB7 := (hB6.setCell (p := ⟨g2, na * 2 + 1, none⟩) (by simp; omega) (.int .u16 (v' : Int))).drew
    have hdr := (Below.refl (W6.setCell ⟨g2, na * 2 + 1, none⟩ (.int .u16 (v' : Int))).heap.size (W6.setCell ⟨g2, na * 2 + 1, none⟩ (.int .u16 (v' : Int)))).drew
    have mX : MemBox _ X g2 cg2 h2 ch2 (pokeM M1 na (t, v')) := MemBox.later ⟨bX7, hT.at⟩ hdr
    have hT := hT.later hdr
    have t1 := cell_later hdr t1
    have kc : CellBox _ (X9 + 1) c1 := Blk.later kc hdr
    have b9 := b9.later hdr
    clear hdr gg bX bX7 b0 b1 d0 d1 d2 hO6 hB6 HTO HVAL mM hXg hgb
    generalize (W6.setCell ⟨g2, na * 2 + 1, none⟩ (.int .u16 (v' : Int))).drew = W7 at *
    have kc0 := (kc 0 (by simp)).1
    have kc1 := (kc 1 (by simp)).1
    generalize pokeM M1 na (t, v') = Xm at *
    have HS := Lib.hid (show Calls Try.prog 14 #[.agg #[.slice (some ⟨g2, 0, none⟩) 512 cg2, .slice (some ⟨h2, 0, none⟩) 4 ch2], .int .i64 (na : Int)] W7 fun e w' => e = .returned (.tuple #[.agg #[.int .u8 (c1.1 : Int), .int .u16 (c1.2 : Int)], .int .i64 0]) ∧ Below W7.heap.size W7 w' from by have h9 := cache_See_in _ _ cg2 ch2 Xm na W7 mX.2 hPV hn1; rw [hS1] at h9; exact h9)
    have m0 := (mX.1 0 (by simp)).1
    have m1 := (mX.1 1 (by simp)).1
    go_wp2_with fail
    refine HS.out.mono ?_
    rintro e u1 ⟨rfl, hu1⟩
    have hA := Below.alloc (Below.refl u1.heap.size u1) (Nat.le_refl _) (.cells #[.int .u8 (c1.1 : Int), .int .u16 (c1.2 : Int)] 25)
    have k1 : CellBox _ u1.heap.size c1 := Blk.new (W := u1) #[.int .u8 (c1.1 : Int), .int .u16 (c1.2 : Int)] 25
    have hq := hu1.trans (hA.mono hu1.size)
    have mX := mX.later hq
    have hT := hT.later hq
    have kc := kc.later hq
    have b9 := b9.later hq
    have t1 := cell_later hq t1
    have hB7 := hB7.trans (hq.mono hB7.size)
    clear HS m0 m1 hu1 hA hq kc0 kc1
    go_upto_region 9 with fail
    generalize u1.alloc (.cells #[.int .u8 (c1.1 : Int), .int .u16 (c1.2 : Int)] 25) = W8 at *
    generalize u1.heap.size = Z1 at *
    have b90 := (b9 0 (by simp)).1
    have b91 := (b9 1 (by simp)).1
    have HFl := Lib.hid (cache_Flush _ _ cg2 ch2 Xm W8 mX.2 hPV)
    have m0 := (mX.1 0 (by simp)).1
    have m1 := (mX.1 1 (by simp)).1
    go_upto_region 10 with fail
    clear b90 b91 t1 b9
    go_wp2_with fail
    refine HFl.out.mono ?_
    rintro e u2 ⟨g3, cg3, h3, ch3, vs3, rfl, hO3, hu2⟩
    obtain ⟨r, hr⟩ : ∃ r, lookM (flushM Xm) na = r := ⟨_, rfl⟩
    have HS := cache_See_in _ _ cg3 ch3 (flushM Xm) na u2 hO3.at hPV.flush hn1
    rw [hr] at HS hS2
    have HS := Lib.hid HS
    have HS2 := Lib.hid hS2
    have HOL := Lib.hid hold
    clear hS2 hold
    go_wp2_with fail
    refine HS.out.mono ?_
    rintro e u3 ⟨rfl, hu3⟩
    have hA := Below.alloc (Below.refl u3.heap.size u3) (Nat.le_refl _) (.cells #[.int .u8 (r.1 : Int), .int .u16 (r.2 : Int)] 25)
    have k2 : CellBox _ u3.heap.size r := Blk.new (W := u3) #[.int .u8 (r.1 : Int), .int .u16 (r.2 : Int)] 25
    have hq := hu2.trans ((hu3.trans (hA.mono hu3.size)).mono hu2.size)
    have mX := mX.later hq
    have hT := hT.later hq
    have kc := kc.later hq
    have k1 := k1.later hq
    have hB7 := hB7.trans (hq.mono hB7.size)
    clear HS HFl m0 m1 hu2 hu3 hA hq hO3 hr
    go_upto_region 11 with fail
    generalize u3.alloc (.cells #[.int .u8 (r.1 : Int), .int .u16 (r.2 : Int)] 25) = W9 at *
    generalize u3.heap.size = Z2 at *
    have HD := Lib.hid (cache_Drop _ _ cg2 ch2 Xm W9 mX.2 hPV)
    have m0 := (mX.1 0 (by simp)).1
    have m1 := (mX.1 1 (by simp)).1
    go_wp2_with fail
    refine HD.out.mono ?_
    rintro e u4 ⟨g4, cg4, h4, ch4, vs4, rfl, hO4, hu4⟩
    have HS := Lib.hid (show Calls Try.prog 14 #[.agg #[.slice (some ⟨g4, 0, none⟩) 512 cg4, .slice (some ⟨h4, 0, none⟩) 4 ch4], .int .i64 (na : Int)] u4 fun e w' => e = .returned (.tuple #[.agg #[.int .u8 (t : Int), .int .u16 (v' : Int)], .int .i64 0]) ∧ Below u4.heap.size u4 w' from by
      have h9 := cache_See_in _ _ cg4 ch4 (dropM Xm) na u4 hO4.at (.empty hPV.len hPV.ok) hn1
      rw [show lookM (dropM Xm) na = Xm.cells.getD na (0, 0) from look_empty _ _, hS3] at h9
      exact h9)
    go_wp2_with fail
    refine HS.out.mono ?_
    rintro e u5 ⟨rfl, hu5⟩
    have hA := Below.alloc (Below.refl u5.heap.size u5) (Nat.le_refl _) (.cells #[.int .u8 (t : Int), .int .u16 (v' : Int)] 25)
    have k3 : CellBox _ u5.heap.size (t, v') := Blk.new (W := u5) #[.int .u8 (t : Int), .int .u16 (v' : Int)] 25
    have hq := hu4.trans ((hu5.trans (hA.mono hu5.size)).mono hu4.size)
    have mX := mX.later hq
    have hT := hT.later hq
    have kc := kc.later hq
    have k1 := k1.later hq
    have k2 := k2.later hq
    have hB7 := hB7.trans (hq.mono hB7.size)
    clear HS HD m0 m1 hu4 hu5 hA hq hO4
    go_upto_region 12 with fail
    generalize u5.alloc (.cells #[.int .u8 (t : Int), .int .u16 (v' : Int)] 25) = W10 at *
    generalize u5.heap.size = Z3 at *
    obtain ⟨x0, x1⟩ := hT.word na hn1 _ hS3
    have m0 := (mX.1 0 (by simp)).1
    have a0 := (k1 0 (by simp)).1
    have a1 := (k1 1 (by simp)).1
    have b0 := (k2 0 (by simp)).1
    have b1 := (k2 1 (by simp)).1
    have c0 := (k3 0 (by simp)).1
    have c11 := (k3 1 (by simp)).1
    have f0 := (kc 0 (by simp)).1
    have f1 := (kc 1 (by simp)).1
    have HAW := Lib.hid law05_awake
    clear k1 k2 k3 kc mX hT hS1 hS3 hPV
    cases d with
    | true =>
      have hS2 := HS2.out
      rw [if_pos rfl] at hS2
      obtain rfl := hS2
      clear HS2 HOL
      have HS := Lib.hid (fun W (hW : Below W10.heap.size W10 W) => show W.cell? ⟨Z1, 0, none⟩ = some (.int .u8 (r.1 : Int)) ∧ W.cell? ⟨Z1, 1, none⟩ = some (.int .u16 (r.2 : Int)) ∧ W.cell? ⟨X9 + 1, 0, none⟩ = some (.int .u8 (r.1 : Int)) ∧ W.cell? ⟨X9 + 1, 1, none⟩ = some (.int .u16 (r.2 : Int)) ∧ W.cell? ⟨Z2, 0, none⟩ = some (.int .u8 (r.1 : Int)) ∧ W.cell? ⟨Z2, 1, none⟩ = some (.int .u16 (r.2 : Int)) ∧ W.cell? ⟨Z3, 0, none⟩ = some (.int .u8 (t : Int)) ∧ W.cell? ⟨Z3, 1, none⟩ = some (.int .u16 (v' : Int)) ∧ W.cell? ⟨X, 0, none⟩ = some (.slice (some ⟨g2, 0, none⟩) 512 cg2) ∧ W.cell? ⟨g2, na * 2, none⟩ = some (.int .u8 (t : Int)) ∧ W.cell? ⟨g2, na * 2 + 1, none⟩ = some (.int .u16 (v' : Int)) ∧ Below W10.heap.size W10 W from ⟨cell_later hW a0, cell_later hW a1, cell_later hW f0, cell_later hW f1, cell_later hW b0, cell_later hW b1, cell_later hW c0, cell_later hW c11, cell_later hW m0, cell_later hW x0, cell_later hW x1, hW⟩)
      clear a0 a1 b0 b1 c0 c11 f0 f1 m0 x0 x1
      go_region_held3 (fun W => W.cell? ⟨Z1, 0, none⟩ = some (.int .u8 (r.1 : Int)) ∧ W.cell? ⟨Z1, 1, none⟩ = some (.int .u16 (r.2 : Int)) ∧ W.cell? ⟨X9 + 1, 0, none⟩ = some (.int .u8 (r.1 : Int)) ∧ W.cell? ⟨X9 + 1, 1, none⟩ = some (.int .u16 (r.2 : Int)) ∧ W.cell? ⟨Z2, 0, none⟩ = some (.int .u8 (r.1 : Int)) ∧ W.cell? ⟨Z2, 1, none⟩ = some (.int .u16 (r.2 : Int)) ∧ W.cell? ⟨Z3, 0, none⟩ = some (.int .u8 (t : Int)) ∧ W.cell? ⟨Z3, 1, none⟩ = some (.int .u16 (v' : Int)) ∧ W.cell? ⟨X, 0, none⟩ = some (.slice (some ⟨g2, 0, none⟩) 512 cg2) ∧ W.cell? ⟨g2, na * 2, none⟩ = some (.int .u8 (t : Int)) ∧ W.cell? ⟨g2, na * 2 + 1, none⟩ = some (.int .u16 (v' : Int)) ∧ Below W10.heap.size W10 W)
        (first
          | exact HS.out _ (Below.refl _ _).drew
          | assumption
          | exact HS.out _ (Below.trans (by go_split_ands; assumption) (hb13.mono (Below.size (by go_split_ands; assumption)))))
        (first
          | (go_at_call 24; (with_reducible refine (HAW.out _).mono ?_); rintro e w' ⟨rfl, hb13⟩))
      have hBel : Below W10.heap.size W10 w' := by go_split_ands; assumption
      have hBE := hB7.trans (hBel.mono hB7.size)
      go_wp2
      go_ret
      exact ⟨rfl, hBE⟩
    | false =>
      have hS2 := HS2.out
      rw [if_neg (by simp)] at hS2
      obtain rfl := hS2
      obtain rfl := HOL.out rfl
      clear HS2 HOL
      have x2 : ¬ (v' : Int) = (v : Int) := by omega
      have x3 : ¬ v' = v := by omega
      have x4 : ((v' : Int) == (v : Int)) = false := by rw [beq_eq_false_iff_ne]; exact x2
      have HS := Lib.hid (fun W (hW : Below W10.heap.size W10 W) => show W.cell? ⟨Z1, 0, none⟩ = some (.int .u8 (t : Int)) ∧ W.cell? ⟨Z1, 1, none⟩ = some (.int .u16 (v : Int)) ∧ W.cell? ⟨X9 + 1, 0, none⟩ = some (.int .u8 (t : Int)) ∧ W.cell? ⟨X9 + 1, 1, none⟩ = some (.int .u16 (v : Int)) ∧ W.cell? ⟨Z2, 0, none⟩ = some (.int .u8 (t : Int)) ∧ W.cell? ⟨Z2, 1, none⟩ = some (.int .u16 (v' : Int)) ∧ W.cell? ⟨Z3, 0, none⟩ = some (.int .u8 (t : Int)) ∧ W.cell? ⟨Z3, 1, none⟩ = some (.int .u16 (v' : Int)) ∧ W.cell? ⟨X, 0, none⟩ = some (.slice (some ⟨g2, 0, none⟩) 512 cg2) ∧ W.cell? ⟨g2, na * 2, none⟩ = some (.int .u8 (t : Int)) ∧ W.cell? ⟨g2, na * 2 + 1, none⟩ = some (.int .u16 (v' : Int)) ∧ Below W10.heap.size W10 W from ⟨cell_later hW a0, cell_later hW a1, cell_later hW f0, cell_later hW f1, cell_later hW b0, cell_later hW b1, cell_later hW c0, cell_later hW c11, cell_later hW m0, cell_later hW x0, cell_later hW x1, hW⟩)
      clear a0 a1 b0 b1 c0 c11 f0 f1 m0 x0 x1
      go_region_held3 (fun W => W.cell? ⟨Z1, 0, none⟩ = some (.int .u8 (t : Int)) ∧ W.cell? ⟨Z1, 1, none⟩ = some (.int .u16 (v : Int)) ∧ W.cell? ⟨X9 + 1, 0, none⟩ = some (.int .u8 (t : Int)) ∧ W.cell? ⟨X9 + 1, 1, none⟩ = some (.int .u16 (v : Int)) ∧ W.cell? ⟨Z2, 0, none⟩ = some (.int .u8 (t : Int)) ∧ W.cell? ⟨Z2, 1, none⟩ = some (.int .u16 (v' : Int)) ∧ W.cell? ⟨Z3, 0, none⟩ = some (.int .u8 (t : Int)) ∧ W.cell? ⟨Z3, 1, none⟩ = some (.int .u16 (v' : Int)) ∧ W.cell? ⟨X, 0, none⟩ = some (.slice (some ⟨g2, 0, none⟩) 512 cg2) ∧ W.cell? ⟨g2, na * 2, none⟩ = some (.int .u8 (t : Int)) ∧ W.cell? ⟨g2, na * 2 + 1, none⟩ = some (.int .u16 (v' : Int)) ∧ Below W10.heap.size W10 W)
        (first
          | exact HS.out _ (Below.refl _ _).drew
          | assumption
          | exact HS.out _ (Below.trans (by go_split_ands; assumption) (hb13.mono (Below.size (by go_split_ands; assumption)))))
        (first
          | (go_at_call 24; (with_reducible refine (HAW.out _).mono ?_); rintro e w' ⟨rfl, hb13⟩))
      have hBel : Below W10.heap.size W10 w' := by go_split_ands; assumption
      have hBE := hB7.trans (hBel.mono hB7.size)
      go_wp2
      go_ret
      exact ⟨rfl, hBE⟩

open Go.ChangeShapes Go.WideShapes Go.ChangeAt Go.Joins in
theorem walk {H : Type} (enc : TypeId × Value → H) (W : World) (base : Nat) (v0 : Value) (d0 : DataW H) (p0 : List MemPlace) (o0 : Value.okWide Try.prog W .any base 22 v0) (h0 : DataW.Trod enc Try.prog W 0 (fun _ => true) true 22 v0 d0 p0)
    (v1 : Value) (d1 : DataW H) (p1 : List MemPlace) (o1 : Value.okWide Try.prog W .any base 3 v1) (h1 : DataW.Trod enc Try.prog W 0 (fun _ => true) true 3 v1 d1 p1)
    (v2 : Value) (d2 : DataW H) (p2 : List MemPlace) (o2 : Value.okWide Try.prog W .any base 3 v2) (h2 : DataW.Trod enc Try.prog W 0 (fun _ => true) true 3 v2 d2 p2) :
    Calls Try.prog 5 #[v0, v1, v2] W fun e w' => e = .returned (.bool true) ∧ Below W.heap.size W w' := by
  obtain ⟨a, xs, cap, rfl, ha, hx, hl⟩ := open_nums Try.underlying22 Try.underlying3 (by kernel_rfl) o0 h0
  obtain ⟨i, rfl, rfl, rfl, w1⟩ := open_int Try.underlying3 o1 h1
  obtain ⟨j, rfl, rfl, rfl, w2⟩ := open_int Try.underlying3 o2 h2
  exact core a xs cap i j W ha (fun x hx2 => int_of (hx x hx2)) (by unfold maxLen at hl; exact hl) (int_of w1).1 (int_of w1).2 (int_of w2).1 (int_of w2).2
end Go.Proofs.Ytkffeibjleiaoaa.cacheHidesLaw
