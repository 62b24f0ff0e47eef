/-
  CacheTransparent: the law's walk: for every list of numbers the call returns true, and nothing that was there before is written.
-/
import Derived.Test.YtkffeibjleiaoaaCaMap
import Derived.Test.YtkffeibjleiaoaaOpenInts
import Derived.Lib.SmallJoins
import Derived.RegionTactic
import Derived.BigRegion
import Derived.Deep.RegionWith
import Derived.Deep.RegionHeld3
import Derived.Carry
namespace Go.Proofs.Ytkffeibjleiaoaa.cacheTransparentLaw
open Go.RowKit

/-- What the law keeps: the memory behind its box, the plain map. -/
structure TrS (B D X b n g cg h ch : Nat) (vs : List Value) (M : Mem) (fl fm : Nat → Nat × Nat) (w W : World) : Prop where
  ref : RefS B X g cg h ch vs M W
  mv : MV M
  coh : Coh M
  look : ∀ a, a < 512 → lookM M a = fl a
  map : MapF W b n fm
  mb : b ≠ g ∧ b ≠ h ∧ ∀ i (hi : i < vs.length), vs[i].ownBlock ≠ some b
  deck : Deck W D
  below : Below w.heap.size w W
  ne : D < B ∧ D < X ∧ D < b ∧ b ≠ X ∧ w.heap.size ≤ D

section st
variable {B D X b n g cg h ch : Nat} {vs : List Value} {M : Mem} {fl fm : Nat → Nat × Nat} {w W W' : World}

theorem TrS.later (H : TrS B D X b n g cg h ch vs M fl fm w W) (hb : Below W.heap.size W W') : TrS B D X b n g cg h ch vs M fl fm w W' :=
  ⟨H.ref.later hb, H.mv, H.coh, H.look, H.map.later hb, H.mb, H.deck.kept (grownBy_below hb rfl none) (fun k hk => by cases hk), H.below.trans (hb.mono H.below.size), H.ne⟩

theorem TrS.draw (H : TrS B D X b n g cg h ch vs M fl fm w W) (hg : W.grownBy W' (some D)) (hd : Deck W' D) : TrS B D X b n g cg h ch vs M fl fm w W' := by
  obtain ⟨n1, n2, n3, n4, n5⟩ := H.ne
  exact ⟨⟨H.ref.own.far hg n1, H.ref.box.kept hg (by simp; omega), H.ref.pg, H.ref.ph, H.ref.pv, Nat.le_trans H.ref.hB hg.size⟩, H.mv, H.coh, H.look, H.map.kept hg (by simp; omega), H.mb, hd, H.below.grown hg H.below.size (fun k hk => by cases hk; exact n5), H.ne⟩

theorem TrS.swap {g2 cg2 h2 ch2 : Nat} {vs2 : List Value} {M2 : Mem} {fl2 : Nat → Nat × Nat} (H : TrS B D X b n g cg h ch vs M fl fm w W) {V : World} (hV : Below W.heap.size W V) (hn : OwnM W.heap.size V g2 cg2 h2 ch2 vs2 M2) (hmv : MV M2) (hc : Coh M2) (hl : ∀ a, a < 512 → lookM M2 a = fl2 a) :
    TrS B D X b n g2 cg2 h2 ch2 vs2 M2 fl2 fm w ((V.setCell ⟨X, 0, none⟩ (.slice (some ⟨g2, 0, none⟩) 512 cg2)).setCell ⟨X, 1, none⟩ (.slice (some ⟨h2, 0, none⟩) 4 ch2)) := by
  obtain ⟨n1, n2, n3, n4, n5⟩ := H.ne
  have g1 := grownBy_cell V X 0 (.slice (some ⟨g2, 0, none⟩) 512 cg2)
  have g3 := grownBy_cell (V.setCell ⟨X, 0, none⟩ (.slice (some ⟨g2, 0, none⟩) 512 cg2)) X 1 (.slice (some ⟨h2, 0, none⟩) 4 ch2)
  have hbl := H.map.lt
  have hbo := hn.bounds
  have hd := H.deck.kept (grownBy_below hV rfl none) (fun k hk => by cases hk)
  refine ⟨H.ref.swap hn hV, hmv, hc, hl, ((H.map.later hV).kept g1 (by simp; omega)).kept g3 (by simp; omega), ⟨by omega, by omega, fun i hi e => ?_⟩, (hd.kept g1 (fun k hk => by cases hk; omega)).kept g3 (fun k hk => by cases hk; omega), (((H.below.trans (hV.mono H.below.size)).setCell (p := ⟨X, 0, none⟩) (by simp; omega) _).setCell (p := ⟨X, 1, none⟩) (by simp; omega) _), H.ne⟩
  have := ((hn.each i (by have := hn.four; omega) hi).1.lt b e).1
  omega

theorem TrS.swap2 {C g2 cg2 h2 ch2 : Nat} {vs2 : List Value} {M2 : Mem} {fl2 : Nat → Nat × Nat} (H : TrS B D X b n g cg h ch vs M fl fm w W) (hn : OwnM C W g2 cg2 h2 ch2 vs2 M2) (hXC : X < C) (hbC : b < C) (hBC : B ≤ C) (hmv : MV M2) (hc : Coh M2) (hl : ∀ a, a < 512 → lookM M2 a = fl2 a) :
    TrS B D X b n g2 cg2 h2 ch2 vs2 M2 fl2 fm w ((W.setCell ⟨X, 0, none⟩ (.slice (some ⟨g2, 0, none⟩) 512 cg2)).setCell ⟨X, 1, none⟩ (.slice (some ⟨h2, 0, none⟩) 4 ch2)) := by
  obtain ⟨n1, n2, n3, n4, n5⟩ := H.ne
  have g1 := grownBy_cell W X 0 (.slice (some ⟨g2, 0, none⟩) 512 cg2)
  have g3 := grownBy_cell (W.setCell ⟨X, 0, none⟩ (.slice (some ⟨g2, 0, none⟩) 512 cg2)) X 1 (.slice (some ⟨h2, 0, none⟩) 4 ch2)
  have hbo := hn.bounds
  have hv : ∀ r, r < C → ∀ i (hi : i < vs2.length), vs2[i].ownBlock ≠ some r := fun r hr i hi e => by
    have := ((hn.each i (by have := hn.four; omega) hi).1.lt r e).1
    omega
  refine ⟨⟨((hn.far g1 hXC).far g3 hXC).mono hBC, ((H.ref.box.put 0 _).put 1 _), by omega, by omega, hv X hXC, Nat.le_trans H.ref.hB (Nat.le_trans g1.size g3.size)⟩, hmv, hc, hl, (H.map.kept g1 (by simp; omega)).kept g3 (by simp; omega), ⟨by omega, by omega, hv b hbC⟩,
    (H.deck.kept g1 (fun k hk => by cases hk; omega)).kept g3 (fun k hk => by cases hk; omega), ((H.below.setCell (p := ⟨X, 0, none⟩) (by simp; omega) _).setCell (p := ⟨X, 1, none⟩) (by simp; omega) _), H.ne⟩

theorem TrS.put {n' : Nat} {fm2 : Nat → Nat × Nat} (H : TrS B D X b n g cg h ch vs M fl fm w W) (hg : W.grownBy W' (some b)) (hm : MapF W' b n' fm2) : TrS B D X b n' g cg h ch vs M fl fm2 w W' := by
  obtain ⟨n1, n2, n3, n4, n5⟩ := H.ne
  exact ⟨H.ref.write hg n4 H.mb.1 H.mb.2.1 H.mb.2.2, H.mv, H.coh, H.look, hm, H.mb, H.deck.kept hg (fun k hk => by cases hk; omega), H.below.grown hg H.below.size (fun k hk => by cases hk; omega), H.ne⟩
end st

theorem ref04_Valid_MV (a al : Option Addr) (ca cl : Nat) (m : Mem) (w : World) (hM : MemAt w a al m) (hV : MV m) :
    Calls Try.prog 26 #[.agg #[.slice a 512 ca, .slice al 4 cl]] w fun e w' => e = .returned (.bool true) ∧ Below w.heap.size w w' := by
  have h1 := hV.len
  have h2 := hV.lines
  have h := ref04_Valid a al m.cells m.lines ca cl w hM.1 hM.2 hV.fit hV.fits (by omega) (by omega) (fun x hx => by have := hV.short x hx; omega)
  rw [h1, h2, show (⟨m.cells, m.lines⟩ : Mem) = m from rfl, hV.valid] at h
  exact h

theorem up {B D X b n g cg h ch : Nat} {vs : List Value} {M : Mem} {fl fm : Nat → Nat × Nat} {w W : World} (H : TrS B D X b n g cg h ch vs M fl fm w W) : TrS B D X b (n + 1) g cg h ch vs M fl fm w W :=
  ⟨H.ref, H.mv, H.coh, H.look, H.map.mono (Nat.le_succ _), H.mb, H.deck, H.below, H.ne⟩

set_option maxHeartbeats 8000000 in
set_option maxRecDepth 100000 in
theorem core (a : Option Addr) (xs : List Int) (cap : Nat) (W : World) (ha : IntsAt .i64 W a xs) (hx : ∀ x ∈ xs, -9223372036854775808 ≤ x ∧ x ≤ 9223372036854775807) (hl : xs.length ≤ 9223372036854775807) :
    Calls Try.prog 4 #[.slice a xs.length cap] W fun e w' => e = .returned (.bool true) ∧ Below W.heap.size W w' := by
  have hN := Lib.hid (make_New a xs cap W ha hx hl)
  have hmm := @run_makeMap Try.prog
  clear ha hx hl
  go_enter Try.func4, Try.ntmps4
  go_wp2_with fail
  refine hN.out.mono ?_
  rintro e w1 ⟨rfl, hd1, hb1⟩
  have HF := Lib.hid (law05_fresh w1)
  clear hN
  go_wp2_with fail
  refine HF.out.mono ?_
  rintro e w2 ⟨g, cg, h, ch, vs, rfl, hO2, hb2⟩
  have hA := Below.alloc (Below.refl w2.heap.size w2) (Nat.le_refl _) (.cells #[.slice (some ⟨g, 0, none⟩) 512 cg, .slice (some ⟨h, 0, none⟩) 4 ch] 31)
  have bX := Blk.new (W := w2) #[.slice (some ⟨g, 0, none⟩) 512 cg, .slice (some ⟨h, 0, none⟩) 4 ch] 31
  have hs2 : (w2.alloc (.cells #[.slice (some ⟨g, 0, none⟩) 512 cg, .slice (some ⟨h, 0, none⟩) 4 ch] 31)).heap.size = w2.heap.size + 1 := by simp
  have hAm := Below.alloc (Below.refl (w2.alloc (.cells #[.slice (some ⟨g, 0, none⟩) 512 cg, .slice (some ⟨h, 0, none⟩) 4 ch] 31)).heap.size (w2.alloc (.cells #[.slice (some ⟨g, 0, none⟩) 512 cg, .slice (some ⟨h, 0, none⟩) 4 ch] 31))) (Nat.le_refl _) (.map #[] 0)
  have hfr := fresh_block hO2 (Nat.le_refl w2.heap.size)
  have hfr2 := fresh_block (hO2.later hA) (Nat.le_refl (w2.alloc (.cells #[.slice (some ⟨g, 0, none⟩) 512 cg, .slice (some ⟨h, 0, none⟩) 4 ch] 31)).heap.size)
  have mp := MapF.made (w2.alloc (.cells #[.slice (some ⟨g, 0, none⟩) 512 cg, .slice (some ⟨h, 0, none⟩) 4 ch] 31))
  have hDl := hd1.lt
  have hz2 := hb2.size
  have hbs := hb1.size
  have H0 : TrS w1.heap.size W.heap.size w2.heap.size (w2.heap.size + 1) 0 g cg h ch vs freshM (fun _ => (0, 0)) (fun _ => (0, 0)) W ((w2.alloc (.cells #[.slice (some ⟨g, 0, none⟩) 512 cg, .slice (some ⟨h, 0, none⟩) 4 ch] 31)).alloc (.map #[] 0)) := by
    rw [hs2] at mp hfr2
    exact ⟨⟨(hO2.later hA).later hAm, bX.later hAm, hfr.1, hfr.2.1, hfr.2.2, by have := hAm.size; omega⟩, fresh_MV, fresh_Coh, fun a ha => by
      rw [show lookM freshM a = (List.replicate 512 (0, 0)).getD a (0, 0) from look_empty _ _, getD_in _ _ (by rw [List.length_replicate]; exact ha), List.getElem_replicate], mp, hfr2, (hd1.kept (grownBy_below hb2 rfl none) (fun k hk => by cases hk)).kept (grownBy_below (hA.trans (hAm.mono (by omega))) rfl none) (fun k hk => by cases hk),
      ((hb1.trans (hb2.mono hb1.size)).trans (hA.mono (by omega))).trans (hAm.mono (by omega)), hDl, by omega, by omega, by omega, Nat.le_refl _⟩
  have H0 := Lib.hid H0
  clear HF hd1 hb1 hO2 hb2 hA bX hAm hfr hfr2 mp
  go_upto_region 4 with fail
  have HS2 := Lib.hid hs2
  clear hs2
  generalize (w2.alloc (.cells #[.slice (some ⟨g, 0, none⟩) 512 cg, .slice (some ⟨h, 0, none⟩) 4 ch] 31)).alloc (.map #[] 0) = W2 at *
  generalize w1.heap.size = B at *
  generalize hbe : w2.heap.size + 1 = b at *
  generalize w2.heap.size = X at *
  clear HS2 hmm hDl hz2 hbs hbe
  go_wp2_with fail
  go_loopw [21] (fun cv wr => ∃ (i : Nat) (g cg h ch : Nat) (vs : List Value) (M : Mem) (f : Nat → Nat × Nat), i ≤ 30 ∧ cv = .int .i64 (i : Int) ∧ TrS B W.heap.size X b i g cg h ch vs M f f W wr) (fun cv _ => 30 - (intOf cv).toNat)
  case atStart => exact ⟨0, g, cg, h, ch, vs, _, _, by omega, rfl, H0.out⟩
  case round =>
    clear H0
    obtain ⟨i, g, cg, h, ch, vs, M, f, hi, rfl, H⟩ := hrel
    have H := Lib.hid H
    by_cases hlt : i < 30
    · have i1 : (i : Int) < 30 := by omega
      have HN := Lib.hid (deck_Next W.heap.size 70 wr H.out.deck (by omega) (by omega))
      go_wp2_with fail
      refine HN.out.mono ?_
      rintro e W4 ⟨x, hx, rfl, hd4, hg4⟩
      have H := Lib.hid (H.out.draw hg4 hd4)
      clear HN hd4 hg4
      have HN := Lib.hid (deck_Next W.heap.size 4 W4 H.out.deck (by omega) (by omega))
      go_wp2_with fail
      refine HN.out.mono ?_
      rintro e W5 ⟨q, hq, rfl, hd5, hg5⟩
      have H := Lib.hid (H.out.draw hg5 hd5)
      clear HN hd5 hg5
      have m0 := (H.out.ref.box 0 (by simp)).1
      have m1 := (H.out.ref.box 1 (by simp)).1
      have hx70 : x < 70 := by omega
      have hq3 : q = 0 ∨ q = 1 ∨ 2 ≤ q := by omega
      rcases hq3 with rfl | rfl | hq2
      · have HR := Lib.hid (cache_Read_in (some ⟨g, 0, none⟩) (some ⟨h, 0, none⟩) cg ch M x W5 H.out.ref.own.at H.out.mv (by omega))
        go_wp2_with fail
        refine HR.out.mono ?_
        rintro e u6 ⟨g2, cg2, h2, ch2, vs2, rfl, hO6, hb6⟩
        rw [H.out.look x (by omega)]
        obtain ⟨r, hr⟩ : ∃ r, f x = r := ⟨_, rfl⟩
        rw [hr]
        have hA1 := Below.alloc (Below.refl u6.heap.size u6) (Nat.le_refl _) (.cells #[.slice (some ⟨g2, 0, none⟩) 512 cg2, .slice (some ⟨h2, 0, none⟩) 4 ch2] 31)
        have hs1 : (u6.alloc (.cells #[.slice (some ⟨g2, 0, none⟩) 512 cg2, .slice (some ⟨h2, 0, none⟩) 4 ch2] 31)).heap.size = u6.heap.size + 1 := by simp
        have hA2 := hA1.alloc (by rw [hs1]; omega) (.cells #[.int .u8 (r.1 : Int), .int .u16 (r.2 : Int)] 25)
        have bR := (Blk.new (W := u6) #[.slice (some ⟨g2, 0, none⟩) 512 cg2, .slice (some ⟨h2, 0, none⟩) 4 ch2] 31).later (Below.alloc (Below.refl _ _) (Nat.le_refl _) (.cells #[.int .u8 (r.1 : Int), .int .u16 (r.2 : Int)] 25))
        have kR : CellBox ((u6.alloc (.cells #[.slice (some ⟨g2, 0, none⟩) 512 cg2, .slice (some ⟨h2, 0, none⟩) 4 ch2] 31)).alloc (.cells #[.int .u8 (r.1 : Int), .int .u16 (r.2 : Int)] 25)) (u6.heap.size + 1) r := by
          have h9 := Blk.new (W := u6.alloc (.cells #[.slice (some ⟨g2, 0, none⟩) 512 cg2, .slice (some ⟨h2, 0, none⟩) 4 ch2] 31)) #[.int .u8 (r.1 : Int), .int .u16 (r.2 : Int)] 25
          rw [hs1] at h9
          exact h9
        have hO7 := hO6.later hA2
        have hq7 := hb6.trans (hA2.mono hb6.size)
        have H7 := Lib.hid (H.out.later hq7)
        have hlk := MapF.look H7.out.map x (by omega)
        rw [hr] at hlk
        have HSw := Lib.hid (H.out.swap hq7 hO7 (H.out.mv.fetch (by omega)) (Coh.fetch H.out.mv H.out.coh (by omega)) (fun a ha => (look_fetch H.out.mv H.out.coh a ha).trans (H.out.look a ha)))
        clear HR m0 m1 hb6 hA1 hs1 hA2 hq7 hO6 hO7 hr
        go_upto_region 15 with fail
        generalize (u6.alloc (.cells #[.slice (some ⟨g2, 0, none⟩) 512 cg2, .slice (some ⟨h2, 0, none⟩) 4 ch2] 31)).alloc (.cells #[.int .u8 (r.1 : Int), .int .u16 (r.2 : Int)] 25) = W7 at *
        generalize u6.heap.size = Y at *
        have k0 := (kR 0 (by simp)).1
        have k1 := (kR 1 (by simp)).1
        have z0 := (bR 0 (by simp)).1
        have z1 := (bR 1 (by simp)).1
        have x0 := (H7.out.ref.box 0 (by simp)).1
        have x1 := (H7.out.ref.box 1 (by simp)).1
        have x2 := (H7.out.ref.box 0 (by simp)).2
        have x3 := (H7.out.ref.box 1 (by simp)).2
        clear kR bR H7
        go_wp2
        go_roundw
        case rel => exact ⟨i + 1, _, _, _, _, _, _, _, by omega, by go_num, up HSw.out⟩
        case measure => simp [intOf]; omega
      · have HR := Lib.hid (cache_Flush (some ⟨g, 0, none⟩) (some ⟨h, 0, none⟩) cg ch M W5 H.out.ref.own.at H.out.mv)
        go_wp2_with (go_at_call 20; (with_reducible refine HR.out.mono ?_); rintro e u6 ⟨g2, cg2, h2, ch2, vs2, rfl, hO6, hb6⟩; have HSw := Lib.hid (H.out.swap hb6 hO6 H.out.mv.flush (Coh.empty _) (fun a ha => (look_empty _ _).trans ((flush_look H.out.mv H.out.coh a ha).trans (H.out.look a ha)))); have b6 := H.out.ref.box.later hb6; have x0 := (b6 0 (by simp)).1; have x1 := (b6 1 (by simp)).1; have x2 := (b6 0 (by simp)).2; have x3 := (b6 1 (by simp)).2; clear b6)
        go_roundw
        case rel => exact ⟨i + 1, _, _, _, _, _, _, _, by omega, by go_num, up HSw.out⟩
        case measure => simp [intOf]; omega
      · have H0z := H
        have e0 : ((q : Int) == 0) = false := by rw [beq_eq_false_iff_ne]; omega
        have e1 : ((q : Int) == 1) = false := by rw [beq_eq_false_iff_ne]; omega
        have HC := Lib.hid (deck_Cell W.heap.size W5 H.out.deck)
        go_upto_region 8 with fail
        clear m0 m1
        go_wp2_with fail
        refine HC.out.mono ?_
        rintro e u6 ⟨t, v, ht, hv, rfl, hd6, hg6⟩
        have hA6 := Below.alloc (Below.refl u6.heap.size u6) (Nat.le_refl _) (.cells #[.int .u8 (t : Int), .int .u16 (v : Int)] 25)
        have kc : CellBox _ u6.heap.size (t, v) := Blk.new (W := u6) #[.int .u8 (t : Int), .int .u16 (v : Int)] 25
        have H := Lib.hid ((H.out.draw hg6 hd6).later hA6)
        have hXZ : X < u6.heap.size := by
          have h9 := World.block_lt_of_cell? _ _ ((H0z.out.draw hg6 hd6).ref.box 0 (by simp)).1
          exact h9
        have hbZ : b < u6.heap.size := ((H0z.out.draw hg6 hd6).map).lt
        have hvc : VC (t, v) := ⟨by simp; omega, by simpa using hv⟩
        clear HC hd6 hg6 hA6 H0z
        go_upto_region 9 with fail
        generalize u6.alloc (.cells #[.int .u8 (t : Int), .int .u16 (v : Int)] 25) = V1 at *
        generalize u6.heap.size = Zc at *
        have m0 := (H.out.ref.box 0 (by simp)).1
        have m1 := (H.out.ref.box 1 (by simp)).1
        have c0 := (kc 0 (by simp)).1
        have c1 := (kc 1 (by simp)).1
        have HW := Lib.hid (show Calls Try.prog 18 #[.agg #[.slice (some ⟨g, 0, none⟩) 512 cg, .slice (some ⟨h, 0, none⟩) 4 ch], .int .i64 (x : Int), .agg #[.int .u8 (t : Int), .int .u16 (v : Int)]] V1 (GivesWrite M x (t, v) V1) from cache_Write_in _ _ cg ch M x (t, v) V1 H.out.ref.own.at H.out.mv (by omega) hvc)
        go_wp2_with fail
        refine HW.out.mono ?_
        rintro e u7 ⟨g2, cg2, h2, ch2, vs2, rfl, hO7, hb7⟩
        have hA7 := Below.alloc (Below.refl u7.heap.size u7) (Nat.le_refl _) (.cells #[.slice (some ⟨g2, 0, none⟩) 512 cg2, .slice (some ⟨h2, 0, none⟩) 4 ch2] 31)
        have bZ := Blk.new (W := u7) #[.slice (some ⟨g2, 0, none⟩) 512 cg2, .slice (some ⟨h2, 0, none⟩) 4 ch2] 31
        have hO8 := hO7.later hA7
        have hq8 := hb7.trans (hA7.mono hb7.size)
        have H8 := Lib.hid (H.out.later hq8)
        have kc := kc.later hq8
        have hZcl : Zc < V1.heap.size := World.block_lt_of_cell? _ _ c0
        have hXl : X < V1.heap.size := by omega
        have hz7 := hb7.size
        have hmv2 := H.out.mv.write (a := x) (by omega) hvc
        have hch2 := Coh.write (a := x) (c := (t, v)) H.out.mv H.out.coh (by omega)
        have hlk2 : ∀ a, a < 512 → lookM (writeM M x (t, v)) a = updF f x (t, v) a := fun a ha => by
          rw [look_write H.out.mv H.out.coh (by omega) a ha]
          by_cases e : a = x
          · rw [if_pos e, e, updF_same]
          · rw [if_neg e, updF_other _ _ e]; exact H.out.look a ha
        clear HW m0 m1 c0 c1 hO7 hb7 hA7 hq8
        go_upto_region 12 with fail
        have hBle : B ≤ V1.heap.size := H.out.ref.hB
        generalize u7.alloc (.cells #[.slice (some ⟨g2, 0, none⟩) 512 cg2, .slice (some ⟨h2, 0, none⟩) 4 ch2] 31) = V2 at *
        generalize u7.heap.size = Zx at *
        have HB0 := H8.out.later (Below.refl _ _).drew
        obtain ⟨wB, hrunB, hmB, hgB⟩ := MapF.put HB0.map (by omega) x (by omega) (t, v)
        have HB1 := HB0.put hgB hmB
        have hOB := (hO8.later (Below.refl _ _).drew).far hgB (by omega)
        have FB2 := Lib.hid (HB1.swap2 hOB hXl (by omega) hBle hmv2 hch2 hlk2)
        have HA0 := (H8.out.swap2 hO8 hXl (by omega) hBle hmv2 hch2 hlk2).later (Below.refl _ _).drew
        obtain ⟨wA, hrunA, hmA, hgA⟩ := MapF.put HA0.map (by omega) x (by omega) (t, v)
        have FA2 := Lib.hid (HA0.put hgA hmA)
        have z0 := (bZ 0 (by simp)).1
        have z1 := (bZ 1 (by simp)).1
        have k0 := (kc 0 (by simp)).1
        have k1 := (kc 1 (by simp)).1
        have x0 := (H8.out.ref.box 0 (by simp)).1
        have x1 := (H8.out.ref.box 1 (by simp)).1
        have x2 := (H8.out.ref.box 0 (by simp)).2
        have x3 := (H8.out.ref.box 1 (by simp)).2
        have bZB := (bZ.later (Below.refl _ _).drew).kept hgB (by simp; omega)
        have kcB := Blk.kept (Blk.later kc (Below.refl _ _).drew) hgB (by simp; omega)
        have z0B := (bZB 0 (by simp)).1
        have z1B := (bZB 1 (by simp)).1
        have k0B := (kcB 0 (by simp)).1
        have k1B := (kcB 1 (by simp)).1
        have x0B := (HB1.ref.box 0 (by simp)).1
        have x1B := (HB1.ref.box 1 (by simp)).1
        have x2B := (HB1.ref.box 0 (by simp)).2
        have x3B := (HB1.ref.box 1 (by simp)).2
        have n1 : ¬ Zx = X := by omega
        have n2 : ¬ Zc = X := by omega
        have n3 : ¬ X = Zx := by omega
        have n4 : ¬ X = Zc := by omega
        clear bZ kc bZB kcB hO8 hOB HB0 HB1 HA0 hmA hgA hmB hgB hmv2 hch2 hlk2 H8
        go_region
        all_goals
          go_wp2
          go_roundw
          case rel => exact ⟨i + 1, _, _, _, _, _, _, _, by omega, by go_num, by first | exact FA2.out | exact FB2.out | exact FA2.out.later (Below.refl _ _).drew | exact FB2.out.later (Below.refl _ _).drew⟩
          case measure => simp [intOf]; omega
    · obtain rfl : i = 30 := by omega
      have m0 := (H.out.ref.box 0 (by simp)).1
      have m1 := (H.out.ref.box 1 (by simp)).1
      have HR := Lib.hid (cache_Flush (some ⟨g, 0, none⟩) (some ⟨h, 0, none⟩) cg ch M wr H.out.ref.own.at H.out.mv)
      go_wp2_with fail
      refine HR.out.mono ?_
      rintro e u6 ⟨g2, cg2, h2, ch2, vs2, rfl, hO6, hb6⟩
      have hA6 := Below.alloc (Below.refl u6.heap.size u6) (Nat.le_refl _) (.cells #[.slice (some ⟨g2, 0, none⟩) 512 cg2, .slice (some ⟨h2, 0, none⟩) 4 ch2] 31)
      have bF := Blk.new (W := u6) #[.slice (some ⟨g2, 0, none⟩) 512 cg2, .slice (some ⟨h2, 0, none⟩) 4 ch2] 31
      have hO7 := Lib.hid (hO6.later hA6)
      have H7 := Lib.hid (H.out.later (hb6.trans (hA6.mono hb6.size)))
      have HFL := Lib.hid (fun (k : Nat) (hk : k < 512) => (show (flushM M).cells.getD k (0, 0) = f k from (flush_look H.out.mv H.out.coh k hk).trans (H.out.look k hk)))
      clear HR m0 m1 hb6 hA6 hO6
      go_upto_region 22 with fail
      generalize u6.alloc (.cells #[.slice (some ⟨g2, 0, none⟩) 512 cg2, .slice (some ⟨h2, 0, none⟩) 4 ch2] 31) = W7 at *
      generalize u6.heap.size = Zf at *
      have b0 := (bF 0 (by simp)).1
      have b1 := (bF 1 (by simp)).1
      generalize flushM M = FM at *
      go_wp2_with fail
      go_loopw [72] (fun cv w9 => ∃ (k : Nat), k ≤ 70 ∧ cv = .int .i64 (k : Int) ∧ Below W7.heap.size W7 w9) (fun cv _ => 70 - (intOf cv).toNat)
      case atStart => exact ⟨0, by omega, rfl, Below.refl _ _⟩
      case round =>
        clear b0 b1
        obtain ⟨k, hk, rfl, hb7⟩ := hrel
        by_cases hk7 : k < 70
        · have i2 : (k : Int) < 70 := by omega
          have H8 := Lib.hid (H7.out.later hb7)
          have m0 := (H8.out.ref.box 0 (by simp)).1
          have m1 := (H8.out.ref.box 1 (by simp)).1
          have HC := Lib.hid (cache_See_in (some ⟨g, 0, none⟩) (some ⟨h, 0, none⟩) cg ch M k _ H8.out.ref.own.at H8.out.mv (by omega))
          go_wp2_with fail
          refine HC.out.mono ?_
          rintro e u8 ⟨rfl, hb8⟩
          rw [H.out.look k (by omega)]
          have hfl := HFL.out k (by omega)
          obtain ⟨r, hr⟩ : ∃ r, f k = r := ⟨_, rfl⟩
          rw [hr] at hfl
          rw [hr]
          have hA9 := Below.alloc (Below.refl u8.heap.size u8) (Nat.le_refl _) (.cells #[.int .u8 (r.1 : Int), .int .u16 (r.2 : Int)] 25)
          have kc : CellBox _ u8.heap.size r := Blk.new (W := u8) #[.int .u8 (r.1 : Int), .int .u16 (r.2 : Int)] 25
          have hb9 := hb7.trans ((hb8.trans (hA9.mono hb8.size)).mono hb7.size)
          have H9 := H7.out.later hb9
          have hlk := MapF.look (H9.map.later (Below.refl _ _).drew) k (by omega)
          rw [hr] at hlk
          have bF := bF.later hb9
          obtain ⟨w0, w1⟩ := (hO7.out.later hb9).word k (by omega) r hfl
          clear HC m0 m1 hb8 hA9 H9 hfl H8
          go_upto_region 28 with fail
          generalize u8.alloc (.cells #[.int .u8 (r.1 : Int), .int .u16 (r.2 : Int)] 25) = W9 at *
          generalize u8.heap.size = Y at *
          have k0 := (kc 0 (by simp)).1
          have k1 := (kc 1 (by simp)).1
          have f0 := (bF 0 (by simp)).1
          have f1 := (bF 1 (by simp)).1
          have j1 : (k : Int) < 512 := by omega
          have j2 : 0 ≤ (k : Int) := by omega
          clear kc bF
          go_region
          all_goals
            go_wp2
            go_roundw
            case rel => exact ⟨k + 1, by omega, by go_num, hb9.trans (Below.refl _ _).drew⟩
            case measure => simp [intOf]; omega
        · obtain rfl : k = 70 := by omega
          have H8 := Lib.hid (H7.out.later hb7)
          have m0 := (H8.out.ref.box 0 (by simp)).1
          have m1 := (H8.out.ref.box 1 (by simp)).1
          have HV := Lib.hid (ref04_Valid_MV (some ⟨g, 0, none⟩) (some ⟨h, 0, none⟩) cg ch M _ H8.out.ref.own.at H8.out.mv)
          clear HFL hO7 H7
          go_wp2_with fail
          refine HV.out.mono ?_
          rintro e u8 ⟨rfl, hb8⟩
          have HAW := Lib.hid (law05_awake u8)
          go_wp2_with fail
          refine HAW.out.mono ?_
          rintro e u9 ⟨rfl, hb9⟩
          have hBE := (H8.out.later (hb8.trans (hb9.mono hb8.size))).below
          go_wp2
          go_ret
          exact ⟨rfl, hBE⟩

open Go.ChangeShapes Go.WideShapes Go.ChangeAt Go.Joins in
theorem walk {H : Type} (enc : TypeId × Value → H) (W : World) (base : Nat) (v0 : Value) (d0 : DataW H) (p0 : List MemPlace) (o0 : Value.okWide Try.prog W .any base 22 v0) (h0 : DataW.Trod enc Try.prog W 0 (fun _ => true) true 22 v0 d0 p0) :
    Calls Try.prog 4 #[v0] W fun e w' => e = .returned (.bool true) ∧ Below W.heap.size W w' := by
  obtain ⟨a, xs, cap, rfl, ha, hx, hl⟩ := open_nums Try.underlying22 Try.underlying3 (by kernel_rfl) o0 h0
  exact core a xs cap W ha (fun x hx2 => int_of (hx x hx2)) (by unfold maxLen at hl; exact hl)
end Go.Proofs.Ytkffeibjleiaoaa.cacheTransparentLaw
