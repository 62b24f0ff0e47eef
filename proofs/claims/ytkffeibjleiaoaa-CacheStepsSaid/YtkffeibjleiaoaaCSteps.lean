/-
  CacheSteps: the law's walk: for every list of numbers, every address and every cell the call returns true, and nothing that was there before is written.
-/
import Derived.Test.YtkffeibjleiaoaaRC7
import Derived.Test.YtkffeibjleiaoaaCaAwake
import Derived.Test.YtkffeibjleiaoaaOpenInts
import Derived.Lib.SmallJoins
import Derived.RegionTactic
import Derived.BigRegion
import Derived.Deep.RegionWith
import Derived.Deep.RegionHeld3
namespace Go.Proofs.Ytkffeibjleiaoaa.cacheStepsLaw
open Go.RowKit

/-- What the law keeps. -/
structure StS (B D Xc X L g cg h ch : Nat) (vs : List Value) (M : Mem) (c : Nat × Nat) (vals : List Int) (w W : World) : Prop where
  own : OwnM B W g cg h ch vs M
  box : Blk W X [.slice (some ⟨g, 0, none⟩) 512 cg, .slice (some ⟨h, 0, none⟩) 4 ch]
  cbox : Blk W Xc [.int .u8 (c.1 : Int), .int .u16 (c.2 : Int)]
  lst : ∀ i, i < 4 → W.cell? ⟨L, i, none⟩ = some (.int .i64 (vals.getD i 0))
  deck : Deck W D
  below : Below w.heap.size w W
  ne : D < B ∧ X ≠ D ∧ Xc ≠ D ∧ L ≠ D ∧ w.heap.size ≤ D

section st
variable {B D Xc X L g cg h ch : Nat} {vs : List Value} {M : Mem} {c : Nat × Nat} {vals : List Int} {w W W' : World}

theorem StS.later (H : StS B D Xc X L g cg h ch vs M c vals w W) (hb : Below W.heap.size W W') : StS B D Xc X L g cg h ch vs M c vals w W' :=
  ⟨H.own.later hb, H.box.later hb, H.cbox.later hb, fun i hi => cell_later hb (H.lst i hi), H.deck.kept (grownBy_below hb rfl none) (fun k hk => by cases hk), H.below.trans (hb.mono H.below.size), H.ne⟩

theorem StS.draw (H : StS B D Xc X L g cg h ch vs M c vals w W) (hg : W.grownBy W' (some D)) (hd : Deck W' D) : StS B D Xc X L g cg h ch vs M c vals w W' := by
  obtain ⟨n1, n2, n3, n4, n5⟩ := H.ne
  exact ⟨H.own.far hg n1, H.box.kept hg (by simp; omega), H.cbox.kept hg (by simp; omega), fun i hi => hg.cell (H.lst i hi) (by simp; omega), hd, H.below.grown hg H.below.size (fun k hk => by cases hk; exact n5), H.ne⟩

theorem StS.same (H : StS B D Xc X L g cg h ch vs M c vals w W) : StS B D Xc X L g cg h ch vs M c vals w W.drew := H.later (Below.refl _ _).drew
end st

theorem lst_of (W : World) (v0 v1 v2 v3 : Int) (T : TypeId) (i : Nat) (hi : i < 4) : (W.alloc (.cells #[.int .i64 v0, .int .i64 v1, .int .i64 v2, .int .i64 v3] T)).cell? ⟨W.heap.size, i, none⟩ = some (.int .i64 ([v0, v1, v2, v3].getD i 0)) := by
  have h : i = 0 ∨ i = 1 ∨ i = 2 ∨ i = 3 := by omega
  rcases h with rfl | rfl | rfl | rfl <;> (rw [World.cell?_alloc_at _ _ _ _ rfl]; rfl)

theorem rdO_MV {m : Mem} (h : MV m) (x : Int) : ∀ m', rdO m x = some m' → MV m' := by
  intro m' he
  unfold rdO at he
  split at he
  · cases he; exact h.fetch (by omega)
  · cases he

theorem wrO_MV {m : Mem} (h : MV m) (x : Int) (c : Nat × Nat) (hc : c.2 < 65536) : ∀ m', wrO m x c = some m' → MV m' := by
  intro m' he
  unfold wrO at he
  split at he
  · rename_i h1
    split at he
    · cases he; exact h.write (by omega) ⟨h1, hc⟩
    · cases he
  · cases he

theorem two_at {w : World} {Z t v : Nat} {c : Nat × Nat} (b : Blk w Z [.int .u8 (c.1 : Int), .int .u16 (c.2 : Int), .int .u8 (t : Int), .int .u16 (v : Int)]) (h1 : c.1 < 256) (h2 : c.2 < 65536) (h3 : t < 256) (h4 : v < 65536) (j : Nat) (hj : j < 2) :
    ∃ y : Nat × Nat, y.1 < 256 ∧ y.2 < 65536 ∧ w.cell? ⟨Z, j * 2, none⟩ = some (.int .u8 (y.1 : Int)) ∧ w.cell? ⟨Z, j * 2 + 1, none⟩ = some (.int .u16 (y.2 : Int)) := by
  have h : j = 0 ∨ j = 1 := by omega
  rcases h with rfl | rfl
  · exact ⟨c, h1, h2, (b 0 (by simp)).1, (b 1 (by simp)).1⟩
  · exact ⟨(t, v), h3, h4, (b 2 (by simp)).1, (b 3 (by simp)).1⟩

theorem lens {w w' : World} {a al b bl : Option Addr} {na nl nb nl2 : Nat} {o : Option Mem} (h1 : MemR w a na al nl o) (h2 : MemR w' b nb bl nl2 o) : na = nb ∧ nl = nl2 := by
  cases o with
  | none => exact ⟨h1.1.trans h2.1.symm, h1.2.trans h2.2.symm⟩
  | some m => exact ⟨h1.1.trans h2.1.symm, h1.2.1.trans h2.2.1.symm⟩

set_option maxHeartbeats 16000000 in
set_option maxRecDepth 100000 in
theorem core (a : Option Addr) (xs : List Int) (cap : Nat) (p : Int) (c : Nat × Nat) (W : World) (ha : IntsAt .i64 W a xs) (hx : ∀ x ∈ xs, -9223372036854775808 ≤ x ∧ x ≤ 9223372036854775807) (hl : xs.length ≤ 9223372036854775807)
    (hp1 : -9223372036854775808 ≤ p) (hp2 : p ≤ 9223372036854775807) (hc1 : c.1 < 256) (hc2 : c.2 < 65536) :
    Calls Try.prog 3 #[.slice a xs.length cap, .int .i64 p, .agg #[.int .u8 (c.1 : Int), .int .u16 (c.2 : Int)]] W fun e w' => e = .returned (.bool true) ∧ Below W.heap.size W w' := by
  have hA0 := Below.alloc (Below.refl W.heap.size W) (Nat.le_refl _) (.cells #[.int .u8 (c.1 : Int), .int .u16 (c.2 : Int)] 25)
  have bc := Blk.new (W := W) #[.int .u8 (c.1 : Int), .int .u16 (c.2 : Int)] 25
  have hs0 : (W.alloc (.cells #[.int .u8 (c.1 : Int), .int .u16 (c.2 : Int)] 25)).heap.size = W.heap.size + 1 := by simp
  have hN := make_New a xs cap (W.alloc (.cells #[.int .u8 (c.1 : Int), .int .u16 (c.2 : Int)] 25)) (ha.later hA0) hx hl
  rw [hs0] at hN
  have hN := Lib.hid hN
  have HS0 := Lib.hid hs0
  have HP := Lib.hid (fun w => make_Mod p 514 w (by omega) (by omega) hp1 hp2)
  have HQ := Lib.hid (fun w => make_Mod p 64 w (by omega) (by omega) hp1 hp2)
  have hp0 := Int.emod_nonneg p (b := 514) (by omega)
  have hp3 := Int.emod_lt_of_pos p (b := 514) (by omega)
  have hq0 := Int.emod_nonneg p (b := 64) (by omega)
  have hq3 := Int.emod_lt_of_pos p (b := 64) (by omega)
  obtain ⟨na, hna⟩ : ∃ n : Nat, p % 514 = (n : Int) := ⟨(p % 514).toNat, by omega⟩
  obtain ⟨nb, hnb⟩ : ∃ n : Nat, p % 64 = (n : Int) := ⟨(p % 64).toNat, by omega⟩
  have hn1 : na < 514 := by omega
  have hn2 : nb < 64 := by omega
  rw [hna] at HP
  rw [hnb] at HQ
  clear ha hx hl hp0 hp3 hq0 hq3 hna hnb hp1 hp2 hs0
  go_enter Try.func3, Try.ntmps3
  go_upto_region 1 with fail
  generalize W.alloc (.cells #[.int .u8 (c.1 : Int), .int .u16 (c.2 : Int)] 25) = W0 at *
  go_wp2_with fail
  refine hN.out.mono ?_
  rintro e w1 ⟨rfl, hd1, hb1⟩
  have HWk := Lib.hid (law05_worked (W.heap.size + 1) true w1 hd1)
  clear hN
  go_wp2_with fail
  refine HWk.out.mono ?_
  rintro e w2 ⟨g, cg, h, ch, vs, M, rfl, hO2, hMV, hCoh, hd2, hg2⟩
  have hDl := hd1.lt
  have hDl2 := hd2.lt
  have bc2 := (bc.later (hb1.mono (by rw [HS0.out]; omega))).kept hg2 (by simp)
  have hB2 := (hA0.trans (hb1.mono (by omega))).grown hg2 (Nat.le_trans hA0.size (by have := hb1.size; rw [HS0.out]; have := HS0.out; omega)) (fun k hk => by cases hk; omega)
  have hA2 := Below.alloc (Below.refl w2.heap.size w2) (Nat.le_refl _) (.cells #[.slice (some ⟨g, 0, none⟩) 512 cg, .slice (some ⟨h, 0, none⟩) 4 ch] 31)
  have bm := Blk.new (W := w2) #[.slice (some ⟨g, 0, none⟩) 512 cg, .slice (some ⟨h, 0, none⟩) 4 ch] 31
  have hO := hO2.later hA2
  have hd := hd2.kept (grownBy_below hA2 rfl none) (fun k hk => by cases hk)
  have hB := hB2.trans (hA2.mono hB2.size)
  have bc3 := bc2.later hA2
  clear HWk hO2 hd1 hd2 hg2 hb1 hB2 hA2 bc bc2 hCoh hA0
  go_upto_region 3 with fail
  generalize w2.alloc (.cells #[.slice (some ⟨g, 0, none⟩) 512 cg, .slice (some ⟨h, 0, none⟩) 4 ch] 31) = W2 at *
  generalize w2.heap.size = X at *
  generalize w1.heap.size = B at *
  have HNx := Lib.hid (deck_Next (W.heap.size + 1) 64 W2 hd (by omega) (by omega))
  have i6 : IntKind.i64.wrap ((na : Int) - 1) = (na : Int) - 1 := IntWalk.i64_in _ (by omega)
  go_upto_region 4 with (first
    | (go_at_call 10; (with_reducible refine (HP.out _).mono ?_); rintro e w' ⟨rfl, rfl⟩)
    | (go_at_call 10; (with_reducible refine (HQ.out _).mono ?_); rintro e w' ⟨rfl, rfl⟩)
    | (go_at_call 11; (with_reducible refine HNx.out.mono ?_); rintro e w3 ⟨nr, hnr, rfl, hd3, hg3⟩))
  have H2 : StS B (W.heap.size + 1) W.heap.size X w3.heap.size g cg h ch vs M c [p, (na : Int) - 1, (nb : Int), (nr : Int)] W (w3.alloc (.cells #[.int .i64 p, .int .i64 ((na : Int) - 1), .int .i64 (nb : Int), .int .i64 (nr : Int)] 3)) := by
    have hA3 := Below.alloc (Below.refl w3.heap.size w3) (Nat.le_refl _) (.cells #[.int .i64 p, .int .i64 ((na : Int) - 1), .int .i64 (nb : Int), .int .i64 (nr : Int)] 3)
    have hz := hg3.size
    have hW2 : X < W2.heap.size := World.block_lt_of_cell? _ _ (bm 0 (by simp)).1
    have hO3 := hO.far hg3 hDl
    exact ⟨hO3.later hA3, (bm.kept hg3 (by simp; omega)).later hA3, (bc3.kept hg3 (by simp)).later hA3, fun i hi => lst_of w3 _ _ _ _ _ i hi, hd3.kept (grownBy_below hA3 rfl none) (fun k hk => by cases hk),
      (hB.grown hg3 hB.size (fun k hk => by cases hk; omega)).trans (hA3.mono (by have := hB.size; omega)), hDl, by omega, by omega, by omega, by omega⟩
  have H2 := Lib.hid H2
  clear HNx hd3 hg3 hnr hO bm bc3 hd hB
  generalize w3.alloc (.cells #[.int .i64 p, .int .i64 ((na : Int) - 1), .int .i64 (nb : Int), .int .i64 (nr : Int)] 3) = W3 at *
  generalize w3.heap.size = L at *
  generalize [p, (na : Int) - 1, (nb : Int), (nr : Int)] = vals at *
  clear HP HQ i6
  go_wp2_with fail
  go_loopw [41] (fun cv wr => ∃ i : Nat, i ≤ 4 ∧ cv = .int .i64 (i : Int) ∧ StS B (W.heap.size + 1) W.heap.size X L g cg h ch vs M c vals W wr) (fun cv _ => 4 - (intOf cv).toNat)
  case atStart => exact ⟨0, by omega, rfl, H2.out⟩
  case round =>
    clear H2
    obtain ⟨i, hi, rfl, H⟩ := hrel
    have H := Lib.hid H
    by_cases hlt : i < 4
    · have i1 : (i : Int) < 4 := by omega
      have i2 : 0 ≤ (i : Int) := by omega
      have l0 := H.out.lst i hlt
      generalize vals.getD i 0 = x at l0
      obtain ⟨r, hr⟩ : ∃ r, seeV M x = r := ⟨_, rfl⟩
      obtain ⟨er, her⟩ : ∃ er, rngE x = er := ⟨_, rfl⟩
      have HRr := Lib.hid hr
      go_upto_region 6 with fail
      clear l0
      have HR := Lib.hid (cache_Read _ _ cg ch M x wr H.out.own.at hMV)
      have m0 := (H.out.box 0 (by simp)).1
      have m1 := (H.out.box 1 (by simp)).1
      go_wp2_with fail
      refine HR.out.mono ?_
      rintro e u1 ⟨a1, na1, ca1, al1, nl1, cl1, rfl, hR1, hu⟩
      rw [hr]
      have hA1 := Below.alloc (Below.refl u1.heap.size u1) (Nat.le_refl _) (.cells #[.slice a1 na1 ca1, .slice al1 nl1 cl1] 31)
      have hs1 : (u1.alloc (.cells #[.slice a1 na1 ca1, .slice al1 nl1 cl1] 31)).heap.size = u1.heap.size + 1 := by simp
      have hA2 := hA1.alloc (by rw [hs1]; omega) (.cells #[.int .u8 (r.1 : Int), .int .u16 (r.2 : Int)] 25)
      have bR1 := (Blk.new (W := u1) #[.slice a1 na1 ca1, .slice al1 nl1 cl1] 31).later (Below.alloc (Below.refl _ _) (Nat.le_refl _) (.cells #[.int .u8 (r.1 : Int), .int .u16 (r.2 : Int)] 25))
      have kR1 : CellBox ((u1.alloc (.cells #[.slice a1 na1 ca1, .slice al1 nl1 cl1] 31)).alloc (.cells #[.int .u8 (r.1 : Int), .int .u16 (r.2 : Int)] 25)) (u1.heap.size + 1) r := by
        have h9 := Blk.new (W := u1.alloc (.cells #[.slice a1 na1 ca1, .slice al1 nl1 cl1] 31)) #[.int .u8 (r.1 : Int), .int .u16 (r.2 : Int)] 25
        rw [hs1] at h9
        exact h9
      have hR1 := hR1.later hA2
      have hq := hu.trans (hA2.mono hu.size)
      have H := Lib.hid (H.out.later hq)
      clear HR m0 m1 hu hA1 hs1 hA2 hq
      go_upto_region 7 with fail
      generalize (u1.alloc (.cells #[.slice a1 na1 ca1, .slice al1 nl1 cl1] 31)).alloc (.cells #[.int .u8 (r.1 : Int), .int .u16 (r.2 : Int)] 25) = V1 at *
      generalize u1.heap.size = Y1 at *
      have HR := Lib.hid (ref05_Read _ _ cg ch M x V1 H.out.own.at hMV)
      have m0 := (H.out.box 0 (by simp)).1
      have m1 := (H.out.box 1 (by simp)).1
      go_wp2_with fail
      refine HR.out.mono ?_
      rintro e u2 ⟨a2, na2, ca2, al2, nl2, cl2, rfl, hR2, hu⟩
      obtain ⟨rfl, rfl⟩ := lens hR1 hR2
      rw [hr]
      have hA1 := Below.alloc (Below.refl u2.heap.size u2) (Nat.le_refl _) (.cells #[.slice a2 na1 ca2, .slice al2 nl1 cl2] 31)
      have hs1 : (u2.alloc (.cells #[.slice a2 na1 ca2, .slice al2 nl1 cl2] 31)).heap.size = u2.heap.size + 1 := by simp
      have hA2 := hA1.alloc (by rw [hs1]; omega) (.cells #[.int .u8 (r.1 : Int), .int .u16 (r.2 : Int)] 25)
      have bR2 := (Blk.new (W := u2) #[.slice a2 na1 ca2, .slice al2 nl1 cl2] 31).later (Below.alloc (Below.refl _ _) (Nat.le_refl _) (.cells #[.int .u8 (r.1 : Int), .int .u16 (r.2 : Int)] 25))
      have kR2 : CellBox ((u2.alloc (.cells #[.slice a2 na1 ca2, .slice al2 nl1 cl2] 31)).alloc (.cells #[.int .u8 (r.1 : Int), .int .u16 (r.2 : Int)] 25)) (u2.heap.size + 1) r := by
        have h9 := Blk.new (W := u2.alloc (.cells #[.slice a2 na1 ca2, .slice al2 nl1 cl2] 31)) #[.int .u8 (r.1 : Int), .int .u16 (r.2 : Int)] 25
        rw [hs1] at h9
        exact h9
      have hR2 := hR2.later hA2
      have hq := hu.trans (hA2.mono hu.size)
      have H := Lib.hid (H.out.later hq)
      have bR1 := bR1.later hq
      have kR1 := kR1.later hq
      have hR1 := hR1.later hq
      clear HR m0 m1 hu hA1 hs1 hA2 hq
      go_upto_region 8 with fail
      generalize (u2.alloc (.cells #[.slice a2 na1 ca2, .slice al2 nl1 cl2] 31)).alloc (.cells #[.int .u8 (r.1 : Int), .int .u16 (r.2 : Int)] 25) = V2 at *
      generalize u2.heap.size = Y2 at *
      have HR := cache_See _ _ cg ch M x V2 H.out.own.at hMV
      rw [hr] at HR
      have HR := Lib.hid HR
      have m0 := (H.out.box 0 (by simp)).1
      have m1 := (H.out.box 1 (by simp)).1
      go_wp2_with fail
      refine HR.out.mono ?_
      rintro e u3 ⟨rfl, hu⟩
      have hA1 := Below.alloc (Below.refl u3.heap.size u3) (Nat.le_refl _) (.cells #[.int .u8 (r.1 : Int), .int .u16 (r.2 : Int)] 25)
      have kS3 : CellBox _ u3.heap.size r := Blk.new (W := u3) #[.int .u8 (r.1 : Int), .int .u16 (r.2 : Int)] 25
      have hq := hu.trans (hA1.mono hu.size)
      have H := Lib.hid (H.out.later hq)
      have bR1 := bR1.later hq
      have kR1 := kR1.later hq
      have hR1 := hR1.later hq
      have bR2 := bR2.later hq
      have kR2 := kR2.later hq
      have hR2 := hR2.later hq
      clear HR m0 m1 hu hA1 hq
      go_upto_region 9 with fail
      generalize u3.alloc (.cells #[.int .u8 (r.1 : Int), .int .u16 (r.2 : Int)] 25) = V3 at *
      generalize u3.heap.size = Y3 at *
      have HR := ref05_See _ _ cg ch M x V3 H.out.own.at hMV
      rw [hr] at HR
      have HR := Lib.hid HR
      have m0 := (H.out.box 0 (by simp)).1
      have m1 := (H.out.box 1 (by simp)).1
      go_wp2_with fail
      refine HR.out.mono ?_
      rintro e u4 ⟨rfl, hu⟩
      have hA1 := Below.alloc (Below.refl u4.heap.size u4) (Nat.le_refl _) (.cells #[.int .u8 (r.1 : Int), .int .u16 (r.2 : Int)] 25)
      have kS4 : CellBox _ u4.heap.size r := Blk.new (W := u4) #[.int .u8 (r.1 : Int), .int .u16 (r.2 : Int)] 25
      have hq := hu.trans (hA1.mono hu.size)
      have H := Lib.hid (H.out.later hq)
      have bR1 := bR1.later hq
      have kR1 := kR1.later hq
      have hR1 := hR1.later hq
      have bR2 := bR2.later hq
      have kR2 := kR2.later hq
      have hR2 := hR2.later hq
      have kS3 := kS3.later hq
      clear HR m0 m1 hu hA1 hq
      go_upto_region 10 with fail
      generalize u4.alloc (.cells #[.int .u8 (r.1 : Int), .int .u16 (r.2 : Int)] 25) = V4 at *
      generalize u4.heap.size = Y4 at *
      have HSm := Lib.hid (ref04_Same a1 al1 a2 al2 na1 nl1 ca1 cl1 ca2 cl2 (rdO M x) V4 hR1 hR2 (rdO_MV hMV x))
      have z0 := (bR1 0 (by simp)).1
      have z1 := (bR1 1 (by simp)).1
      have z2 := (bR2 0 (by simp)).1
      have z3 := (bR2 1 (by simp)).1
      have k0 := (kR1 0 (by simp)).1
      have k1 := (kR1 1 (by simp)).1
      have k2 := (kR2 0 (by simp)).1
      have k3 := (kR2 1 (by simp)).1
      have HKS := Lib.hid (And.intro kS3 kS4)
      have k4 := (kS3 0 (by simp)).1
      have k5 := (kS3 1 (by simp)).1
      have k6 := (kS4 0 (by simp)).1
      have k7 := (kS4 1 (by simp)).1
      have H9 := H
      clear bR1 kR1 hR1 bR2 kR2 hR2 kS3 kS4 H
      go_upto_region 12 with (go_at_call 16; (with_reducible refine HSm.out.mono ?_); rintro e V5 ⟨rfl, hb5⟩; have k4 := cell_later hb5 k4; have k5 := cell_later hb5 k5; have k6 := cell_later hb5 k6; have k7 := cell_later hb5 k7)
      have H := Lib.hid (H9.out.later hb5)
      clear HSm H9 HKS hb5 z0 z1 z2 z3 k0 k1 k2 k3 k4 k5 k6 k7
      go_cut [98, 99, 100] (fun v98 v99 v100 wx => ∃ Zb t v, v98 = .slice (some ⟨Zb, 0, none⟩) 2 2 ∧ v99 = .int .i64 2 ∧ v100 = .int .i64 0 ∧ t < 256 ∧ v < 65536 ∧ Blk wx Zb [.int .u8 (c.1 : Int), .int .u16 (c.2 : Int), .int .u8 (t : Nat), .int .u16 (v : Nat)] ∧ StS B (W.heap.size + 1) W.heap.size X L g cg h ch vs M c vals W wx)
      case first =>
        have HCe := Lib.hid (fun W' (h : Deck W' (W.heap.size + 1)) => deck_Cell (W.heap.size + 1) W' h)
        have hdD : Deck V5.drew (W.heap.size + 1) := H.out.same.deck
        have c0 := (H.out.cbox 0 (by simp)).1
        have c1 := (H.out.cbox 1 (by simp)).1
        go_region_with (go_at_call 17; (with_reducible refine (HCe.out _ hdD).mono ?_); rintro e V6 ⟨t, v, ht, hv, rfl, hd6, hg6⟩; have H6 := Lib.hid (H.out.same.draw hg6 hd6); have c2 := (H6.out.cbox 0 (by simp)).1; have c3 := (H6.out.cbox 1 (by simp)).1)
        all_goals
          have hZ := Blk.new (W := V6) #[.int .u8 (c.1 : Int), .int .u16 (c.2 : Int), .int .u8 (t : Int), .int .u16 (v : Int)] 25
          have hS6 := Lib.hid (H6.out.later (Below.alloc (Below.refl _ _) (Nat.le_refl _) (.cells #[.int .u8 (c.1 : Int), .int .u16 (c.2 : Int), .int .u8 (t : Int), .int .u16 (v : Int)] 25)))
          go_wp2
          go_meet
          exact ⟨_, t, v, rfl, rfl, rfl, by omega, hv, hZ, hS6.out⟩
      case rest =>
        obtain ⟨Zb, t, v, rfl, rfl, rfl, ht, hv, bZ, H⟩ := hcut
        have H := Lib.hid H
        go_wp2_with fail
        go_loopw [100] (fun cv wq => ∃ j : Nat, j ≤ 2 ∧ cv = .int .i64 (j : Int) ∧ Below wc.heap.size wc wq) (fun cv _ => 2 - (intOf cv).toNat)
        case atStart => exact ⟨0, by omega, rfl, Below.refl _ _⟩
        case round =>
          obtain ⟨j, hj, rfl, hw⟩ := hrel
          by_cases hlj : j < 2
          · have j1 : (j : Int) < 2 := by omega
            have j2 : 0 ≤ (j : Int) := by omega
            obtain ⟨y, hy1, hy2, d0, d1⟩ := two_at (bZ.later hw) hc1 hc2 ht hv j hlj
            obtain ⟨we, hwe⟩ : ∃ we, wrE x y = we := ⟨_, rfl⟩
            have H2 := Lib.hid (H.out.later hw)
            have hAy := Below.alloc (Below.refl wr.heap.size wr) (Nat.le_refl _) (.cells #[.int .u8 (y.1 : Int), .int .u16 (y.2 : Int)] 25)
            have kY : CellBox _ wr.heap.size y := Blk.new (W := wr) #[.int .u8 (y.1 : Int), .int .u16 (y.2 : Int)] 25
            have H2 := Lib.hid (H2.out.later hAy)
            have HQ := Lib.hid (hw.trans (hAy.mono hw.size))
            clear hAy hw
            go_upto_region 15 with fail
            clear d0 d1
            generalize wr.alloc (.cells #[.int .u8 (y.1 : Int), .int .u16 (y.2 : Int)] 25) = Q1 at *
            generalize wr.heap.size = Yb at *
            have HR := Lib.hid (cache_Write _ _ cg ch M x y Q1 H2.out.own.at hMV hy1 hy2)
            have m0 := (H2.out.box 0 (by simp)).1
            have m1 := (H2.out.box 1 (by simp)).1
            have y0 := (kY 0 (by simp)).1
            have y1 := (kY 1 (by simp)).1
            go_wp2_with fail
            refine HR.out.mono ?_
            rintro e u3 ⟨a3, na3, ca3, al3, nl3, cl3, rfl, hR3, hu⟩
            rw [hwe]
            have hA1 := Below.alloc (Below.refl u3.heap.size u3) (Nat.le_refl _) (.cells #[.slice a3 na3 ca3, .slice al3 nl3 cl3] 31)
            have bR3 := Blk.new (W := u3) #[.slice a3 na3 ca3, .slice al3 nl3 cl3] 31
            have hR3 := hR3.later hA1
            have hq := hu.trans (hA1.mono hu.size)
            have H2 := Lib.hid (H2.out.later hq)
            have HQ := Lib.hid (HQ.out.trans (hq.mono HQ.out.size))
            have kY := kY.later hq
            clear HR m0 m1 y0 y1 hu hA1 hq
            go_upto_region 16 with fail
            generalize u3.alloc (.cells #[.slice a3 na3 ca3, .slice al3 nl3 cl3] 31) = Q2 at *
            generalize u3.heap.size = Y3 at *
            have HR := Lib.hid (ref05_Write _ _ cg ch M x y Q2 H2.out.own.at hMV hy1 hy2)
            have m0 := (H2.out.box 0 (by simp)).1
            have m1 := (H2.out.box 1 (by simp)).1
            have y0 := (kY 0 (by simp)).1
            have y1 := (kY 1 (by simp)).1
            go_wp2_with fail
            refine HR.out.mono ?_
            rintro e u4 ⟨a4, na4, ca4, al4, nl4, cl4, rfl, hR4, hu⟩
            obtain ⟨rfl, rfl⟩ := lens hR3 hR4
            rw [hwe]
            have hA1 := Below.alloc (Below.refl u4.heap.size u4) (Nat.le_refl _) (.cells #[.slice a4 na3 ca4, .slice al4 nl3 cl4] 31)
            have bR4 := Blk.new (W := u4) #[.slice a4 na3 ca4, .slice al4 nl3 cl4] 31
            have hR4 := hR4.later hA1
            have hq := hu.trans (hA1.mono hu.size)
            have H2 := Lib.hid (H2.out.later hq)
            have HQ := Lib.hid (HQ.out.trans (hq.mono HQ.out.size))
            have kY := kY.later hq
            have bR3 := bR3.later hq
            have hR3 := hR3.later hq
            clear HR m0 m1 y0 y1 hu hA1 hq
            go_upto_region 17 with fail
            generalize u4.alloc (.cells #[.slice a4 na3 ca4, .slice al4 nl3 cl4] 31) = Q3 at *
            generalize u4.heap.size = Y4 at *
            have HSm := Lib.hid (ref04_Same a3 al3 a4 al4 na3 nl3 ca3 cl3 ca4 cl4 (wrO M x y) Q3 hR3 hR4 (wrO_MV hMV x y hy2))
            have z0 := (bR3 0 (by simp)).1
            have z1 := (bR3 1 (by simp)).1
            have z2 := (bR4 0 (by simp)).1
            have z3 := (bR4 1 (by simp)).1
            clear bR3 hR3 bR4 hR4 H2 kY
            go_wp2_with (go_at_call 16; (with_reducible refine HSm.out.mono ?_); rintro e Q4 ⟨rfl, hb4⟩; have HQ4 := Lib.hid (HQ.out.trans (hb4.mono HQ.out.size)))
            go_roundw
            case rel => exact ⟨j + 1, by omega, by go_num, HQ4.out⟩
            case measure => simp [intOf]; omega
          · have H3 := Lib.hid (H.out.later hw)
            go_wp2
            go_roundw
            case rel => exact ⟨i + 1, by omega, by go_num, H3.out⟩
            case measure => simp [intOf]; omega
    · obtain rfl : i = 4 := by omega
      have HF1 := Lib.hid (fun W' (hW : Below wr.heap.size wr W') => cache_Flush _ _ cg ch M W' (H.out.own.at.later hW) hMV)
      have HF2 := Lib.hid (fun W' (hW : Below wr.heap.size wr W') => ref05_Flush _ _ cg ch M W' (H.out.own.at.later hW) hMV)
      have HD1 := Lib.hid (fun W' (hW : Below wr.heap.size wr W') => cache_Drop _ _ cg ch M W' (H.out.own.at.later hW) hMV)
      have HD2 := Lib.hid (fun W' (hW : Below wr.heap.size wr W') => ref05_Drop _ _ cg ch M W' (H.out.own.at.later hW) hMV)
      have HSA := Lib.hid (fun (m : Mem) (hm : MV m) (W' : World) (a b al bl : Option Addr) (ca cb cl cl2 : Nat) (h1 : MemAt W' a al m) (h2 : MemAt W' b bl m) => ref04_Same a al b bl 512 4 ca cl cb cl2 (some m) W' ⟨rfl, rfl, h1⟩ ⟨rfl, rfl, h2⟩ (fun m' he => by cases he; exact hm))
      have HVF := Lib.hid hMV.flush
      have HVD := Lib.hid (show MV (dropM M) from .empty hMV.len hMV.ok)
      have HAW := Lib.hid law05_awake
      have x0 := (H.out.box 0 (by simp)).1
      have x1 := (H.out.box 1 (by simp)).1
      have HS := Lib.hid (fun W' (hW : Below wr.heap.size wr W') => show W'.cell? ⟨X, 0, none⟩ = some (.slice (some ⟨g, 0, none⟩) 512 cg) ∧ W'.cell? ⟨X, 1, none⟩ = some (.slice (some ⟨h, 0, none⟩) 4 ch) ∧ Below wr.heap.size wr W' from ⟨cell_later hW x0, cell_later hW x1, hW⟩)
      have hB9 := H.out.below
      go_upto_region 21 with fail
      clear x0 x1
      go_region_held3 (fun W' => W'.cell? ⟨X, 0, none⟩ = some (.slice (some ⟨g, 0, none⟩) 512 cg) ∧ W'.cell? ⟨X, 1, none⟩ = some (.slice (some ⟨h, 0, none⟩) 4 ch) ∧ Below wr.heap.size wr W')
        (first
          | exact HS.out _ (Below.refl _ _).drew
          | assumption
          | exact HS.out _ (Below.trans (by go_split_ands; assumption) (hb9.mono (Below.size (by go_split_ands; assumption))))
          | exact HS.out _ (Below.trans (by go_split_ands; assumption) (hb8.mono (Below.size (by go_split_ands; assumption))))
          | exact HS.out _ (Below.trans (by go_split_ands; assumption) (hb7.mono (Below.size (by go_split_ands; assumption))))
          | exact HS.out _ (Below.trans (by go_split_ands; assumption) (hb6.mono (Below.size (by go_split_ands; assumption))))
          | exact HS.out _ (Below.trans (by go_split_ands; assumption) (hb5.mono (Below.size (by go_split_ands; assumption))))
          | exact HS.out _ (Below.trans (by go_split_ands; assumption) (hb4.mono (Below.size (by go_split_ands; assumption))))
          | exact HS.out _ (Below.trans (by go_split_ands; assumption) (hb3.mono (Below.size (by go_split_ands; assumption)))))
        (first
          | (go_at_call 20; (with_reducible refine (HF1.out _ (by go_split_ands; assumption)).mono ?_); rintro e w' ⟨g3, cg3, h3, ch3, vs3, rfl, hO3, hb3⟩)
          | (go_at_call 21; (with_reducible refine (HF2.out _ (by go_split_ands; assumption)).mono ?_); rintro e w' ⟨a4, ca4, al4, cl4, rfl, hm4, hb4⟩)
          | (go_at_call 16; (with_reducible refine (HSA.out _ HVF.out _ _ _ _ _ _ _ _ _ (hO3.at.later hb4) hm4).mono ?_); rintro e w' ⟨rfl, hb5⟩)
          | (go_at_call 16; (with_reducible refine (HSA.out _ HVF.out _ _ _ _ _ _ _ _ _ hO3.at (hm4.later hb3)).mono ?_); rintro e w' ⟨rfl, hb5⟩)
          | (go_at_call 22; (with_reducible refine (HD1.out _ (by go_split_ands; assumption)).mono ?_); rintro e w' ⟨g6, cg6, h6, ch6, vs6, rfl, hO6, hb6⟩)
          | (go_at_call 23; (with_reducible refine (HD2.out _ (by go_split_ands; assumption)).mono ?_); rintro e w' ⟨a7, ca7, al7, cl7, rfl, hm7, hb7⟩)
          | (go_at_call 16; (with_reducible refine (HSA.out _ HVD.out _ _ _ _ _ _ _ _ _ (hO6.at.later hb7) hm7).mono ?_); rintro e w' ⟨rfl, hb8⟩)
          | (go_at_call 16; (with_reducible refine (HSA.out _ HVD.out _ _ _ _ _ _ _ _ _ hO6.at (hm7.later hb6)).mono ?_); rintro e w' ⟨rfl, hb8⟩)
          | (go_at_call 24; (with_reducible refine (HAW.out _).mono ?_); rintro e w' ⟨rfl, hb9⟩))
      all_goals
        have hBel : Below wr.heap.size wr w' := by go_split_ands; assumption
        have hBE := hB9.trans (hBel.mono hB9.size)
        go_wp2
        go_ret
        exact ⟨rfl, hBE⟩

open Go.ChangeShapes Go.WideShapes Go.ChangeAt Go.Joins in
theorem walk {H : Type} (enc : TypeId × Value → H) (W : World) (base : Nat) (v0 : Value) (d0 : DataW H) (p0 : List MemPlace) (o0 : Value.okWide Try.prog W .any base 22 v0) (h0 : DataW.Trod enc Try.prog W 0 (fun _ => true) true 22 v0 d0 p0)
    (v1 : Value) (d1 : DataW H) (p1 : List MemPlace) (o1 : Value.okWide Try.prog W .any base 3 v1) (h1 : DataW.Trod enc Try.prog W 0 (fun _ => true) true 3 v1 d1 p1)
    (v2 : Value) (d2 : DataW H) (p2 : List MemPlace) (o2 : Value.okWide Try.prog W .any base 25 v2) (h2 : DataW.Trod enc Try.prog W 0 (fun _ => true) true 25 v2 d2 p2) :
    Calls Try.prog 3 #[v0, v1, v2] W fun e w' => e = .returned (.bool true) ∧ Below W.heap.size W w' := by
  obtain ⟨a, xs, cap, rfl, ha, hx, hl⟩ := open_nums Try.underlying22 Try.underlying3 (by kernel_rfl) o0 h0
  obtain ⟨i, rfl, rfl, rfl, w1⟩ := open_int Try.underlying3 o1 h1
  obtain ⟨c0, c1, y0, y1, m, rfl, rfl, rfl, hy0, hy1⟩ := open_agg2 Try.underlying25 (by kernel_rfl) (by kernel_rfl) o2 h2
  obtain ⟨b0, e0, _, wa⟩ := DataW.trod_int Try.underlying5 hy0
  obtain ⟨b1, e1, _, wb⟩ := DataW.trod_int Try.underlying23 hy1
  simp at e0 e1
  subst e0 e1
  obtain ⟨t, ht, rfl⟩ := byte_of wa
  obtain ⟨u, hu, rfl⟩ := word_of wb
  exact core a xs cap i (t, u) W ha (fun x hx2 => int_of (hx x hx2)) (by unfold maxLen at hl; exact hl) (int_of w1).1 (int_of w1).2 ht hu
end Go.Proofs.Ytkffeibjleiaoaa.cacheStepsLaw
