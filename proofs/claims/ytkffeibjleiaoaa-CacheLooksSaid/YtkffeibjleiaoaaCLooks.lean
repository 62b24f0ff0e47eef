/-
  CacheLooks: the law's walk: for every list of numbers and every two addresses the call returns true, and nothing that was there before is written.
-/
import Derived.Test.YtkffeibjleiaoaaCaAwake
import Derived.Test.YtkffeibjleiaoaaOpenInts
import Derived.Lib.SmallJoins
namespace Go.Proofs.Ytkffeibjleiaoaa.cacheLooksLaw
open Go.RowKit

set_option maxHeartbeats 8000000 in
set_option maxRecDepth 100000 in
theorem core (a : Option Addr) (xs : List Int) (cap : Nat) (p q : Int) (W : World) (ha : IntsAt .i64 W a xs) (hx : ∀ x ∈ xs, -9223372036854775808 ≤ x ∧ x ≤ 9223372036854775807) (hl : xs.length ≤ 9223372036854775807)
    (hp1 : -9223372036854775808 ≤ p) (hp2 : p ≤ 9223372036854775807) (hq1 : -9223372036854775808 ≤ q) (hq2 : q ≤ 9223372036854775807) :
    Calls Try.prog 7 #[.slice a xs.length cap, .int .i64 p, .int .i64 q] W fun e w' => e = .returned (.bool true) ∧ Below W.heap.size W w' := by
  have hN := Lib.hid (make_New a xs cap W ha hx hl)
  have HP := Lib.hid (fun w => make_Mod p 80 w (by omega) (by omega) hp1 hp2)
  have HQ := Lib.hid (fun w => make_Mod q 80 w (by omega) (by omega) hq1 hq2)
  have hp0 := Int.emod_nonneg p (b := 80) (by omega)
  have hp3 := Int.emod_lt_of_pos p (b := 80) (by omega)
  have hq0 := Int.emod_nonneg q (b := 80) (by omega)
  have hq3 := Int.emod_lt_of_pos q (b := 80) (by omega)
  obtain ⟨na, hna⟩ : ∃ n : Nat, p % 80 = (n : Int) := ⟨(p % 80).toNat, by omega⟩
  obtain ⟨nb, hnb⟩ : ∃ n : Nat, q % 80 = (n : Int) := ⟨(q % 80).toNat, by omega⟩
  have hn1 : na < 80 := by omega
  have hn2 : nb < 80 := by omega
  rw [hna] at HP
  rw [hnb] at HQ
  clear ha hx hl hp0 hp3 hq0 hq3 hna hnb hp1 hp2 hq1 hq2
  go_enter Try.func7, Try.ntmps7
  go_wp2_with fail
  refine hN.out.mono ?_
  rintro e w1 ⟨rfl, hd1, hb1⟩
  have HWk := Lib.hid (law05_worked W.heap.size false w1 hd1)
  clear hN
  go_wp2_with fail
  refine HWk.out.mono ?_
  rintro e w2 ⟨g, cg, h, ch, vs, M, rfl, hO2, hMV, hCoh, hd2, hg2⟩
  have hK : Coh M := hCoh rfl
  have hXD := hd2.lt
  have hB2 := hb1.grown hg2 hb1.size (fun k hk => by cases hk; exact Nat.le_refl _)
  have hA2 := Below.alloc (Below.refl w2.heap.size w2) (Nat.le_refl _) (.cells #[.slice (some ⟨g, 0, none⟩) 512 cg, .slice (some ⟨h, 0, none⟩) 4 ch] 31)
  have bm := Blk.new (W := w2) #[.slice (some ⟨g, 0, none⟩) 512 cg, .slice (some ⟨h, 0, none⟩) 4 ch] 31
  have hO := hO2.later hA2
  have hd := hd2.kept (grownBy_below hA2 rfl none) (fun k hk => by cases hk)
  have hB := hB2.trans (hA2.mono hB2.size)
  have hDl := hd1.lt
  clear hCoh HWk hO2 hd1 hd2 hg2 hb1 hB2 hA2
  have hsz := hO.bounds
  go_upto_region 3 with fail
  generalize w2.alloc (.cells #[.slice (some ⟨g, 0, none⟩) 512 cg, .slice (some ⟨h, 0, none⟩) 4 ch] 31) = W2 at *
  generalize w2.heap.size = X at *
  go_upto_region 4 with (first
    | (go_at_call 10; (with_reducible refine (HP.out _).mono ?_); rintro e w' ⟨rfl, rfl⟩)
    | (go_at_call 10; (with_reducible refine (HQ.out _).mono ?_); rintro e w' ⟨rfl, rfl⟩))
  have HC := Lib.hid (deck_Cell W.heap.size W2 hd)
  go_wp2_with fail
  refine HC.out.mono ?_
  rintro e w3 ⟨t, v, ht, hv, rfl, hd3, hg3⟩
  have hO3 := hO.far hg3 hDl
  have bm3 := bm.kept hg3 (by simp; omega)
  have hB3 := hB.grown hg3 hB.size (fun k hk => by cases hk; exact Nat.le_refl _)
  have hA3 := Below.alloc (Below.refl w3.heap.size w3) (Nat.le_refl _) (.cells #[.int .u8 (t : Int), .int .u16 (v : Int)] 25)
  have mM : MemBox _ X g cg h ch M := MemBox.later ⟨bm3, hO3.at⟩ hA3
  have cC : CellBox _ w3.heap.size (t, v) := Blk.new (W := w3) #[.int .u8 (t : Int), .int .u16 (v : Int)] 25
  have hB3 := hB3.trans (hA3.mono hB3.size)
  have hvc : VC (t, v) := ⟨by simp; omega, by simpa using hv⟩
  clear hXD HC hd3 hg3 hO3 hO bm3 bm hd hA3 hB HP HQ hDl hsz
  go_upto_region 5 with fail
  generalize w3.alloc (.cells #[.int .u8 (t : Int), .int .u16 (v : Int)] 25) = W3 at *
  generalize w3.heap.size = Y at *
  have HR := Lib.hid (cache_Read_in _ _ cg ch M na W3 mM.2 hMV (by omega))
  have m0 := (mM.1 0 (by simp)).1
  have m1 := (mM.1 1 (by simp)).1
  have l1 := look_fetch (m := M) (n := na / 4) hMV hK
  have l2 := look_write (m := M) (a := nb) (c := (t, v)) hMV hK (by omega)
  have v1 := hMV.fetch (n := na / 4) (by omega)
  have v2 := hMV.write (a := nb) (c := (t, v)) (by omega) hvc
  go_wp2_with fail
  refine HR.out.mono ?_
  rintro e w4 ⟨g1, cg1, h1, ch1, vs1, rfl, hO4, hb4⟩
  generalize fetchM M (na / 4) = M1 at *
  generalize lookM M na = c1 at *
  have hA4 := Below.alloc (Below.refl w4.heap.size w4) (Nat.le_refl _) (.cells #[.slice (some ⟨g1, 0, none⟩) 512 cg1, .slice (some ⟨h1, 0, none⟩) 4 ch1] 31)
  have hs4 : (w4.alloc (.cells #[.slice (some ⟨g1, 0, none⟩) 512 cg1, .slice (some ⟨h1, 0, none⟩) 4 ch1] 31)).heap.size = w4.heap.size + 1 := by simp
  have hA5 := hA4.alloc (by rw [hs4]; omega) (.cells #[.int .u8 (c1.1 : Int), .int .u16 (c1.2 : Int)] 25)
  have mM1 : MemBox _ w4.heap.size g1 cg1 h1 ch1 M1 := (MemBox.new hO4).later (Below.alloc (Below.refl _ _) (Nat.le_refl _) (.cells #[.int .u8 (c1.1 : Int), .int .u16 (c1.2 : Int)] 25))
  have hb5 := hb4.trans (hA5.mono hb4.size)
  have mM := mM.later hb5
  have cC := cC.later hb5
  have hB5 := hB3.trans (hb5.mono hB3.size)
  clear HR m0 m1 hO4 hb4 hA4 hs4 hA5 hb5 hB3
  go_upto_region 6 with fail
  generalize (w4.alloc (.cells #[.slice (some ⟨g1, 0, none⟩) 512 cg1, .slice (some ⟨h1, 0, none⟩) 4 ch1] 31)).alloc (.cells #[.int .u8 (c1.1 : Int), .int .u16 (c1.2 : Int)] 25) = W5 at *
  generalize w4.heap.size = X1 at *
  have HW := Lib.hid (show Calls Try.prog 18 #[.agg #[.slice (some ⟨g, 0, none⟩) 512 cg, .slice (some ⟨h, 0, none⟩) 4 ch], .int .i64 (nb : Int), .agg #[.int .u8 (t : Int), .int .u16 (v : Int)]] W5 (GivesWrite M nb (t, v) W5) from cache_Write_in _ _ cg ch M nb (t, v) W5 mM.2 hMV (by omega) hvc)
  have m0 := (mM.1 0 (by simp)).1
  have m1 := (mM.1 1 (by simp)).1
  have y0 := (cC 0 (by simp)).1
  have y1 := (cC 1 (by simp)).1
  go_wp2_with fail
  refine HW.out.mono ?_
  rintro e w6 ⟨g2, cg2, h2, ch2, vs2, rfl, hO6, hb6⟩
  generalize writeM M nb (t, v) = M2 at *
  have hA6 := Below.alloc (Below.refl w6.heap.size w6) (Nat.le_refl _) (.cells #[.slice (some ⟨g2, 0, none⟩) 512 cg2, .slice (some ⟨h2, 0, none⟩) 4 ch2] 31)
  have mM2 : MemBox _ w6.heap.size g2 cg2 h2 ch2 M2 := MemBox.new hO6
  have hb7 := hb6.trans (hA6.mono hb6.size)
  have mM := mM.later hb7
  have mM1 := mM1.later hb7
  have cC := cC.later hb7
  have hB7 := hB5.trans (hb7.mono hB5.size)
  clear HW m0 m1 y0 y1 hO6 hb6 hA6 hb7 hB5
  go_upto_region 7 with fail
  generalize w6.alloc (.cells #[.slice (some ⟨g2, 0, none⟩) 512 cg2, .slice (some ⟨h2, 0, none⟩) 4 ch2] 31) = W7 at *
  generalize w6.heap.size = X2 at *
  go_wp2_with fail
  go_loopw [52] (fun c wr => ∃ k : Nat, k ≤ 80 ∧ c = .int .i64 (k : Int) ∧ Below W7.heap.size W7 wr) (fun c _ => 80 - (intOf c).toNat)
  case atStart => exact ⟨0, by omega, rfl, Below.refl _ _⟩
  case round =>
    obtain ⟨k, hk, rfl, hb⟩ := hrel
    by_cases hlt : k < 80
    · have i1 : (k : Int) < 80 := by omega
      have e1 := l1 k (by omega)
      have e2 := l2 k (by omega)
      have HB := Lib.hid hb
      have n1 := mM.later hb
      have n2 := mM1.later hb
      have n3 := mM2.later hb
      have HS := Lib.hid (cache_See_in _ _ cg ch M k wr n1.2 hMV (by omega))
      have m0 := (n1.1 0 (by simp)).1
      have m1 := (n1.1 1 (by simp)).1
      generalize lookM M k = r at *
      go_wp2_with fail
      refine HS.out.mono ?_
      rintro e u1 ⟨rfl, hu1⟩
      have hA := Below.alloc (Below.refl u1.heap.size u1) (Nat.le_refl _) (.cells #[.int .u8 (r.1 : Int), .int .u16 (r.2 : Int)] 25)
      have k1 : CellBox _ u1.heap.size r := Blk.new (W := u1) #[.int .u8 (r.1 : Int), .int .u16 (r.2 : Int)] 25
      have hq := hu1.trans (hA.mono hu1.size)
      have n2 := n2.later hq
      have n3 := n3.later hq
      have HB := Lib.hid (HB.out.trans (hq.mono HB.out.size))
      clear HS m0 m1 n1 hu1 hA hq
      go_upto_region 13 with fail
      generalize u1.alloc (.cells #[.int .u8 (r.1 : Int), .int .u16 (r.2 : Int)] 25) = W10 at *
      generalize u1.heap.size = Z1 at *
      have HS := cache_See_in _ _ cg1 ch1 M1 k W10 n2.2 v1 (by omega)
      rw [e1] at HS
      have HS := Lib.hid HS
      have m0 := (n2.1 0 (by simp)).1
      have m1 := (n2.1 1 (by simp)).1
      go_wp2_with fail
      refine HS.out.mono ?_
      rintro e u2 ⟨rfl, hu2⟩
      have hA := Below.alloc (Below.refl u2.heap.size u2) (Nat.le_refl _) (.cells #[.int .u8 (r.1 : Int), .int .u16 (r.2 : Int)] 25)
      have k2 : CellBox _ u2.heap.size r := Blk.new (W := u2) #[.int .u8 (r.1 : Int), .int .u16 (r.2 : Int)] 25
      have hq := hu2.trans (hA.mono hu2.size)
      have n3 := n3.later hq
      have k1 := k1.later hq
      have HB := Lib.hid (HB.out.trans (hq.mono HB.out.size))
      clear HS m0 m1 n2 hu2 hA hq
      go_upto_region 14 with fail
      generalize u2.alloc (.cells #[.int .u8 (r.1 : Int), .int .u16 (r.2 : Int)] 25) = W11 at *
      generalize u2.heap.size = Z2 at *
      have HS := cache_See_in _ _ cg2 ch2 M2 k W11 n3.2 v2 (by omega)
      have m0 := (n3.1 0 (by simp)).1
      have m1 := (n3.1 1 (by simp)).1
      have cB := cC.later HB.out
      by_cases hkb : k = nb
      · rw [if_pos hkb] at e2
        rw [e2] at HS
        subst hkb
        have HS := Lib.hid (show Calls Try.prog 14 #[.agg #[.slice (some ⟨g2, 0, none⟩) 512 cg2, .slice (some ⟨h2, 0, none⟩) 4 ch2], .int .i64 (k : Int)] W11 fun e w' => e = .returned (.tuple #[.agg #[.int .u8 (t : Int), .int .u16 (v : Int)], .int .i64 0]) ∧ Below W11.heap.size W11 w' from HS)
        clear e1 e2
        go_wp2_with fail
        refine HS.out.mono ?_
        rintro e u3 ⟨rfl, hu3⟩
        have hA := Below.alloc (Below.refl u3.heap.size u3) (Nat.le_refl _) (.cells #[.int .u8 (t : Int), .int .u16 (v : Int)] 25)
        have k3 : CellBox _ u3.heap.size (t, v) := Blk.new (W := u3) #[.int .u8 (t : Int), .int .u16 (v : Int)] 25
        have hq := hu3.trans (hA.mono hu3.size)
        have k1 := k1.later hq
        have k2 := k2.later hq
        have cB := cB.later hq
        have HB := Lib.hid (HB.out.trans (hq.mono HB.out.size))
        clear HS m0 m1 n3 hu3 hA hq
        go_upto_region 15 with fail
        generalize u3.alloc (.cells #[.int .u8 (t : Int), .int .u16 (v : Int)] 25) = W12 at *
        generalize u3.heap.size = Z3 at *
        have a0 := (k1 0 (by simp)).1
        have a1 := (k1 1 (by simp)).1
        have b0 := (k2 0 (by simp)).1
        have b1 := (k2 1 (by simp)).1
        have d0 := (k3 0 (by simp)).1
        have d1 := (k3 1 (by simp)).1
        have f0 := (cB 0 (by simp)).1
        have f1 := (cB 1 (by simp)).1
        go_wp2
        go_roundw
        case rel => exact ⟨k + 1, by omega, by go_num, HB.out⟩
        case measure => simp [intOf]; omega
      · rw [if_neg hkb] at e2
        rw [e2] at HS
        have HS := Lib.hid HS
        have HKB := Lib.hid hkb
        clear e1 e2 hkb
        go_wp2_with fail
        refine HS.out.mono ?_
        rintro e u3 ⟨rfl, hu3⟩
        have hA := Below.alloc (Below.refl u3.heap.size u3) (Nat.le_refl _) (.cells #[.int .u8 (r.1 : Int), .int .u16 (r.2 : Int)] 25)
        have k3 : CellBox _ u3.heap.size r := Blk.new (W := u3) #[.int .u8 (r.1 : Int), .int .u16 (r.2 : Int)] 25
        have hq := hu3.trans (hA.mono hu3.size)
        have k1 := k1.later hq
        have k2 := k2.later hq
        have HB := Lib.hid (HB.out.trans (hq.mono HB.out.size))
        clear HS m0 m1 n3 hu3 hA hq cB
        go_upto_region 15 with fail
        generalize u3.alloc (.cells #[.int .u8 (r.1 : Int), .int .u16 (r.2 : Int)] 25) = W12 at *
        generalize u3.heap.size = Z3 at *
        have a0 := (k1 0 (by simp)).1
        have a1 := (k1 1 (by simp)).1
        have b0 := (k2 0 (by simp)).1
        have b1 := (k2 1 (by simp)).1
        have d0 := (k3 0 (by simp)).1
        have d1 := (k3 1 (by simp)).1
        have g0 : ((k : Int) != (nb : Int)) = true := by have := HKB.out; simp; omega
        have g1 : ((k : Int) == (nb : Int)) = false := by have := HKB.out; rw [beq_eq_false_iff_ne]; omega
        go_wp2
        go_roundw
        case rel => exact ⟨k + 1, by omega, by go_num, HB.out⟩
        case measure => simp [intOf]; omega
    · obtain rfl : k = 80 := by omega
      have hAw := Lib.hid (law05_awake wr)
      go_wp2_with fail
      refine hAw.out.mono ?_
      rintro e w8 ⟨rfl, hb8⟩
      have B8 := hB7.trans ((hb.trans (hb8.mono hb.size)).mono hB7.size)
      go_wp2
      go_ret
      exact ⟨rfl, B8⟩

open Go.ChangeShapes Go.WideShapes Go.ChangeAt Go.Joins in
theorem walk {H : Type} (enc : TypeId × Value → H) (W : World) (base : Nat) (v0 : Value) (d0 : DataW H) (p0 : List MemPlace) (o0 : Value.okWide Try.prog W .any base 22 v0) (h0 : DataW.Trod enc Try.prog W 0 (fun _ => true) true 22 v0 d0 p0)
    (v1 : Value) (d1 : DataW H) (p1 : List MemPlace) (o1 : Value.okWide Try.prog W .any base 3 v1) (h1 : DataW.Trod enc Try.prog W 0 (fun _ => true) true 3 v1 d1 p1)
    (v2 : Value) (d2 : DataW H) (p2 : List MemPlace) (o2 : Value.okWide Try.prog W .any base 3 v2) (h2 : DataW.Trod enc Try.prog W 0 (fun _ => true) true 3 v2 d2 p2) :
    Calls Try.prog 7 #[v0, v1, v2] W fun e w' => e = .returned (.bool true) ∧ Below W.heap.size W w' := by
  obtain ⟨a, xs, cap, rfl, ha, hx, hl⟩ := open_nums Try.underlying22 Try.underlying3 (by kernel_rfl) o0 h0
  obtain ⟨i, rfl, rfl, rfl, w1⟩ := open_int Try.underlying3 o1 h1
  obtain ⟨j, rfl, rfl, rfl, w2⟩ := open_int Try.underlying3 o2 h2
  exact core a xs cap i j W ha (fun x hx2 => int_of (hx x hx2)) (by unfold maxLen at hl; exact hl) (int_of w1).1 (int_of w1).2 (int_of w2).1 (int_of w2).2
end Go.Proofs.Ytkffeibjleiaoaa.cacheLooksLaw
