/-
  Contract of the laws of the cache: worked (a memory that was read and written, and, if asked, changed behind the lines).
-/
import Derived.Test.YtkffeibjleiaoaaCaLaw
namespace Go.Proofs.Ytkffeibjleiaoaa
open Go.RowKit

/-- A new memory is put behind a pointer. -/
theorem RefS.swap {B P g cg h ch g2 cg2 h2 ch2 : Nat} {vs vs2 : List Value} {m m2 : Mem} {w w' : World} (H : RefS B P g cg h ch vs m w) (hn : OwnM w.heap.size w' g2 cg2 h2 ch2 vs2 m2) (hb : Below w.heap.size w w') :
    RefS B P g2 cg2 h2 ch2 vs2 m2 ((w'.setCell ⟨P, 0, none⟩ (.slice (some ⟨g2, 0, none⟩) 512 cg2)).setCell ⟨P, 1, none⟩ (.slice (some ⟨h2, 0, none⟩) 4 ch2)) := by
  have hP := World.block_lt_of_cell? _ _ (H.box 0 (by simp)).1
  have hP : P < w.heap.size := hP
  have hbo := hn.bounds
  have g1 := grownBy_cell w' P 0 (.slice (some ⟨g2, 0, none⟩) 512 cg2)
  have g3 := grownBy_cell (w'.setCell ⟨P, 0, none⟩ (.slice (some ⟨g2, 0, none⟩) 512 cg2)) P 1 (.slice (some ⟨h2, 0, none⟩) 4 ch2)
  refine ⟨((hn.far g1 hP).far g3 hP).mono H.hB, (((H.box.later hb).put 0 _).put 1 _), by omega, by omega, fun i hi e => ?_, Nat.le_trans (Nat.le_trans H.hB hb.size) (Nat.le_trans g1.size g3.size)⟩
  have := ((hn.each i (by have := hn.four; omega) hi).1.lt P e).1
  omega

theorem grown_new {w W : World} {D X j : Nat} {u : Value} (h : w.grownBy W (some D)) (hX : w.heap.size ≤ X) : w.grownBy (W.setCell ⟨X, j, none⟩ u) (some D) :=
  ⟨h.os, h.tape, h.output, Nat.le_trans h.size (grownBy_cell W X j u).size, fun k hk hne => ((grownBy_cell W X j u).block k (Nat.lt_of_lt_of_le hk h.size) (by simp; omega)).trans (h.block k hk hne)⟩

/-- What worked keeps. -/
structure WkS (w : World) (D R X : Nat) (pk : Bool) (g cg h ch : Nat) (vs : List Value) (M : Mem) (W : World) : Prop where
  ref : RefS w.heap.size X g cg h ch vs M W
  mv : MV M
  coh : pk = false → Coh M
  res : Blk W R [.slice none 0 0, .slice none 0 0]
  deck : Deck W D
  grown : w.grownBy W (some D)
  hD : D < w.heap.size
  hR : w.heap.size ≤ R
  hX : w.heap.size ≤ X
  ne : R ≠ X
  rv : R ≠ g ∧ R ≠ h ∧ ∀ i (hi : i < vs.length), vs[i].ownBlock ≠ some R

section wk
variable {w W W' : World} {D R X g cg h ch : Nat} {pk : Bool} {vs : List Value} {M : Mem}

theorem WkS.draw (H : WkS w D R X pk g cg h ch vs M W) (hg : W.grownBy W' (some D)) (hd : Deck W' D) : WkS w D R X pk g cg h ch vs M W' := by
  have hD := H.hD
  have hX := H.hX
  have hR := H.hR
  refine ⟨⟨H.ref.own.far hg hD, H.ref.box.kept hg (by simp; omega), H.ref.pg, H.ref.ph, H.ref.pv, Nat.le_trans H.ref.hB hg.size⟩, H.mv, H.coh, H.res.kept hg (by simp; omega), hd, grownBy_trans H.grown hg, H.hD, H.hR, H.hX, H.ne, H.rv⟩

theorem WkS.same (H : WkS w D R X pk g cg h ch vs M W) : WkS w D R X pk g cg h ch vs M W.drew :=
  ⟨H.ref.later (Below.refl _ _).drew, H.mv, H.coh, H.res.later (Below.refl _ _).drew, H.deck, grownBy_trans H.grown (grownBy_drewN W _ 1), H.hD, H.hR, H.hX, H.ne, H.rv⟩

theorem WkS.swap {g2 cg2 h2 ch2 : Nat} {vs2 : List Value} {M2 : Mem} (H : WkS w D R X pk g cg h ch vs M W) (hn : OwnM W.heap.size W' g2 cg2 h2 ch2 vs2 M2) (hb : Below W.heap.size W W') (hv : MV M2) (hc : pk = false → Coh M2) :
    WkS w D R X pk g2 cg2 h2 ch2 vs2 M2 ((W'.setCell ⟨X, 0, none⟩ (.slice (some ⟨g2, 0, none⟩) 512 cg2)).setCell ⟨X, 1, none⟩ (.slice (some ⟨h2, 0, none⟩) 4 ch2)) := by
  have hX := H.hX
  have hD := H.hD
  have hne := H.ne
  have g1 := grownBy_cell W' X 0 (.slice (some ⟨g2, 0, none⟩) 512 cg2)
  have g3 := grownBy_cell (W'.setCell ⟨X, 0, none⟩ (.slice (some ⟨g2, 0, none⟩) 512 cg2)) X 1 (.slice (some ⟨h2, 0, none⟩) 4 ch2)
  have hRl : R < W.heap.size := World.block_lt_of_cell? _ _ (H.res 0 (by simp)).1
  have hrv : R ≠ g2 ∧ R ≠ h2 ∧ ∀ i (hi : i < vs2.length), vs2[i].ownBlock ≠ some R := by
    have hbo := hn.bounds
    refine ⟨by omega, by omega, fun i hi e => ?_⟩
    have := ((hn.each i (by have := hn.four; omega) hi).1.lt R e).1
    omega
  have hd := H.deck.kept (grownBy_below hb rfl none) (fun k hk => by cases hk)
  refine ⟨H.ref.swap hn hb, hv, hc, ((H.res.later hb).kept g1 (by simp; exact hne)).kept g3 (by simp; exact hne), (hd.kept g1 (fun k hk => by cases hk; omega)).kept g3 (fun k hk => by cases hk; omega), grown_new (grown_new (grownBy_trans H.grown (grownBy_below hb rfl _)) hX) hX, H.hD, H.hR, H.hX, H.ne, hrv⟩
end wk

/-- The call gives a memory that was worked on, and writes to the deck alone. -/
def GivesWorked (D : Nat) (pk : Bool) (w : World) (e : Ending) (w' : World) : Prop :=
  ∃ g cg h ch vs M, e = .returned (.agg #[.slice (some ⟨g, 0, none⟩) 512 cg, .slice (some ⟨h, 0, none⟩) 4 ch]) ∧ OwnM w.heap.size w' g cg h ch vs M ∧ MV M ∧ (pk = false → Coh M) ∧ Deck w' D ∧ w.grownBy w' (some D)

set_option maxHeartbeats 4000000 in
set_option maxRecDepth 20000 in
theorem law05_worked (D : Nat) (pk : Bool) (w : World) (hd : Deck w D) :
    Calls Try.prog 9 #[.pointer (some ⟨D, 0, none⟩), .bool pk] w (GivesWorked D pk w) := by
  have hDl := hd.lt
  have hA := Below.alloc (Below.refl w.heap.size w) (Nat.le_refl _) (.cells #[.slice none 0 0, .slice none 0 0] 31)
  have br := Blk.new (W := w) #[.slice none 0 0, .slice none 0 0] 31
  have HF := Lib.hid (law05_fresh (w.alloc (.cells #[.slice none 0 0, .slice none 0 0] 31)))
  have hs : (w.alloc (.cells #[.slice none 0 0, .slice none 0 0] 31)).heap.size = w.heap.size + 1 := by simp
  have HS := Lib.hid hs
  clear hs
  go_enter Try.func9, Try.ntmps9
  go_upto_region 1 with fail
  generalize w.alloc (.cells #[.slice none 0 0, .slice none 0 0] 31) = W0 at *
  go_wp2_with fail
  refine HF.out.mono ?_
  rintro e W1 ⟨g, cg, h, ch, vs, rfl, hO, hb1⟩
  have hA1 := Below.alloc (Below.refl W1.heap.size W1) (Nat.le_refl _) (.cells #[.slice (some ⟨g, 0, none⟩) 512 cg, .slice (some ⟨h, 0, none⟩) 4 ch] 31)
  have bX := Blk.new (W := W1) #[.slice (some ⟨g, 0, none⟩) 512 cg, .slice (some ⟨h, 0, none⟩) 4 ch] 31
  have hfr := fresh_block hO (Nat.le_refl W1.heap.size)
  have hsX : (W1.alloc (.cells #[.slice (some ⟨g, 0, none⟩) 512 cg, .slice (some ⟨h, 0, none⟩) 4 ch] 31)).heap.size = W1.heap.size + 1 := by simp
  have hsz := hb1.size
  have hB2 := (hA.trans (hb1.mono hA.size)).trans (hA1.mono (by have := HS.out; omega))
  have hrv : w.heap.size ≠ g ∧ w.heap.size ≠ h ∧ ∀ i (hi : i < vs.length), vs[i].ownBlock ≠ some w.heap.size := by
    have hbo := hO.bounds
    have := HS.out
    refine ⟨by omega, by omega, fun i hi e => ?_⟩
    have := ((hO.each i (by have := hO.four; omega) hi).1.lt _ e).1
    omega
  have H0 : WkS w D w.heap.size W1.heap.size pk g cg h ch vs freshM (W1.alloc (.cells #[.slice (some ⟨g, 0, none⟩) 512 cg, .slice (some ⟨h, 0, none⟩) 4 ch] 31)) :=
    ⟨⟨(hO.later hA1).mono (by have := HS.out; omega), bX, hfr.1, hfr.2.1, hfr.2.2, by rw [hsX]; have := HS.out; omega⟩, fresh_MV, fun _ => fresh_Coh, (br.later hb1).later hA1, hd.kept (grownBy_below hB2 rfl none) (fun k hk => by cases hk), grownBy_below hB2 rfl _, hDl, Nat.le_refl _, by have := HS.out; omega, by have := HS.out; omega, hrv⟩
  have H0 := Lib.hid H0
  clear hrv hA1 bX hfr hsX hsz hB2 hO hb1 HF hd br hA
  go_upto_region 2 with fail
  generalize W1.alloc (.cells #[.slice (some ⟨g, 0, none⟩) 512 cg, .slice (some ⟨h, 0, none⟩) 4 ch] 31) = W2 at *
  generalize W1.heap.size = X at *
  have HN20 := Lib.hid (deck_Next D 20 W2 H0.out.deck (by omega) (by omega))
  go_wp2_with fail
  refine HN20.out.mono ?_
  rintro e W3 ⟨r, hr, rfl, hd3, hg3⟩
  have H3 := Lib.hid (H0.out.draw hg3 hd3)
  clear HN20 hd3 hg3 H0
  go_wp2_with fail
  go_loopw [6] (fun c wr => ∃ (k : Nat) (g cg h ch : Nat) (vs : List Value) (M : Mem), k ≤ 20 ∧ c = .int .i64 (k : Int) ∧ WkS w D w.heap.size X pk g cg h ch vs M wr) (fun c _ => (intOf c).toNat)
  case atStart => exact ⟨r, g, cg, h, ch, vs, _, by omega, rfl, H3.out⟩
  case round =>
    clear H3 hr
    obtain ⟨k, g, cg, h, ch, vs, M, hk, rfl, H⟩ := hrel
    have H := Lib.hid H
    by_cases hlt : 0 < k
    · have i1 : (0 : Int) < (k : Int) := by omega
      have HN := Lib.hid (deck_Next D 60 wr H.out.deck (by omega) (by omega))
      go_wp2_with fail
      refine HN.out.mono ?_
      rintro e W4 ⟨x, hx, rfl, hd4, hg4⟩
      have H4 := Lib.hid (H.out.draw hg4 hd4)
      clear HN hd4 hg4 H
      have HN := Lib.hid (deck_Next D 5 W4 H4.out.deck (by omega) (by omega))
      go_wp2_with fail
      refine HN.out.mono ?_
      rintro e W5 ⟨q, hq, rfl, hd5, hg5⟩
      have H5 := Lib.hid (H4.out.draw hg5 hd5)
      clear HN hd5 hg5 H4
      have m0 := (H5.out.ref.box 0 (by simp)).1
      have m1 := (H5.out.ref.box 1 (by simp)).1
      have hq3 : q = 0 ∨ q = 1 ∨ 2 ≤ q := by omega
      rcases hq3 with rfl | rfl | hq2
      · have HR := Lib.hid (ref05_Read_in (some ⟨g, 0, none⟩) (some ⟨h, 0, none⟩) cg ch M x W5 H5.out.ref.own.at H5.out.mv (by omega))
        go_wp2_with (go_at_call 13; (with_reducible refine HR.out.mono ?_); rintro e W6 ⟨g2, cg2, h2, ch2, vs2, rfl, hn, hb6⟩; have hbx := H5.out.ref.box.later hb6; have m2 := (hbx 0 (by simp)).1; have m3 := (hbx 1 (by simp)).1; have m4 := (hbx 0 (by simp)).2; have m5 := (hbx 1 (by simp)).2; have R6 := Lib.hid (H5.out.swap hn hb6 (H5.out.mv.fetch (by omega)) (fun hp => Coh.fetch H5.out.mv (H5.out.coh hp) (by omega))); clear hbx hn)
        go_roundw
        case rel => exact ⟨k - 1, _, _, _, _, _, _, by omega, by go_num, R6.out⟩
        case measure => simp [intOf]; omega
      · cases pk with
        | false =>
          go_wp2
          go_roundw
          case rel => exact ⟨k - 1, _, _, _, _, _, _, by omega, by go_num, H5.out⟩
          case measure => simp [intOf]; omega
        | true =>
          have HCe := Lib.hid (fun W (h : Deck W D) => deck_Cell D W h)
          have HWr := Lib.hid (fun W (t v : Nat) (hW : WkS w D w.heap.size X true g cg h ch vs M W) (ht : t < 3) (hv : v < 65536) => show Calls Try.prog 28 #[.agg #[.slice (some ⟨g, 0, none⟩) 512 cg, .slice (some ⟨h, 0, none⟩) 4 ch], .int .i64 (x : Int), .agg #[.int .u8 (t : Int), .int .u16 (v : Int)]] W (GivesPoke M x (t, v) W) from ref04_Poke_in (some ⟨g, 0, none⟩) (some ⟨h, 0, none⟩) cg ch M x (t, v) W hW.ref.own.at hW.mv (by omega) ⟨by simp; omega, by simpa using hv⟩)
          have HDr := Lib.hid (fun W (hg : W5.drew.grownBy W (some D)) (hd : Deck W D) => H5.out.same.draw hg hd)
          have hdD : Deck W5.drew D := H5.out.same.deck
          go_upto_region 12 with fail
          go_region_with (first
            | (go_at_call 17; (with_reducible refine (HCe.out _ hdD).mono ?_); rintro e W6 ⟨t, v, ht, hv, rfl, hd6, hg6⟩; have H6 := Lib.hid (HDr.out _ hg6 hd6); have n0 := (H6.out.ref.box 0 (by simp)).1; have n1 := (H6.out.ref.box 1 (by simp)).1)
            | (go_at_call 28; (with_reducible refine (HWr.out _ _ _ H6.out ht hv).mono ?_); rintro e W7 ⟨g2, cg2, h2, ch2, vs2, rfl, hn, hb7⟩; have hbx := H6.out.ref.box.later hb7; have p0 := (hbx 0 (by simp)).1; have p1 := (hbx 1 (by simp)).1; have p2 := (hbx 0 (by simp)).2; have p3 := (hbx 1 (by simp)).2))
          all_goals
            have R7 := Lib.hid (H6.out.swap hn hb7 (H6.out.mv.poke ⟨by simp; omega, by simpa using hv⟩) (fun hp => by cases hp))
            clear hbx hn
            go_wp2
            go_roundw
            case rel => exact ⟨k - 1, _, _, _, _, _, _, by omega, by go_num, R7.out⟩
            case measure => simp [intOf]; omega
      · have e0 : ((q : Int) == 0) = false := by rw [beq_eq_false_iff_ne]; omega
        have e1 : ((q : Int) == 1) = false := by rw [beq_eq_false_iff_ne]; omega
        have HCe := Lib.hid (fun W (h : Deck W D) => deck_Cell D W h)
        have HWr := Lib.hid (fun W (t v : Nat) (hW : WkS w D w.heap.size X pk g cg h ch vs M W) (ht : t < 3) (hv : v < 65536) => show Calls Try.prog 19 #[.agg #[.slice (some ⟨g, 0, none⟩) 512 cg, .slice (some ⟨h, 0, none⟩) 4 ch], .int .i64 (x : Int), .agg #[.int .u8 (t : Int), .int .u16 (v : Int)]] W (GivesWrite M x (t, v) W) from ref05_Write_in (some ⟨g, 0, none⟩) (some ⟨h, 0, none⟩) cg ch M x (t, v) W hW.ref.own.at hW.mv (by omega) ⟨by simp; omega, by simpa using hv⟩)
        have HDr := Lib.hid (fun W (hg : W5.drew.grownBy W (some D)) (hd : Deck W D) => H5.out.same.draw hg hd)
        have hdD : Deck W5.drew D := H5.out.same.deck
        go_upto_region 7 with fail
        go_region_with (first
          | (go_at_call 17; (with_reducible refine (HCe.out _ hdD).mono ?_); rintro e W6 ⟨t, v, ht, hv, rfl, hd6, hg6⟩; have H6 := Lib.hid (HDr.out _ hg6 hd6); have n0 := (H6.out.ref.box 0 (by simp)).1; have n1 := (H6.out.ref.box 1 (by simp)).1)
          | (go_at_call 19; (with_reducible refine (HWr.out _ _ _ H6.out ht hv).mono ?_); rintro e W7 ⟨g2, cg2, h2, ch2, vs2, rfl, hn, hb7⟩; have hbx := H6.out.ref.box.later hb7; have p0 := (hbx 0 (by simp)).1; have p1 := (hbx 1 (by simp)).1; have p2 := (hbx 0 (by simp)).2; have p3 := (hbx 1 (by simp)).2))
        all_goals
          have R7 := Lib.hid (H6.out.swap hn hb7 (H6.out.mv.write (by omega) ⟨by simp; omega, by simpa using hv⟩) (fun hp => Coh.write H6.out.mv (H6.out.coh hp) (by omega)))
          clear hbx hn
          go_wp2
          go_roundw
          case rel => exact ⟨k - 1, _, _, _, _, _, _, by omega, by go_num, R7.out⟩
          case measure => simp [intOf]; omega
    · obtain rfl : k = 0 := by omega
      have m0 := (H.out.ref.box 0 (by simp)).1
      have m1 := (H.out.ref.box 1 (by simp)).1
      have r0 := (H.out.res 0 (by simp)).1
      have r1 := (H.out.res 1 (by simp)).1
      have f0 := (H.out.res 0 (by simp)).2
      have f1 := (H.out.res 1 (by simp)).2
      have hne := H.out.ne
      have g1 := grownBy_cell wr w.heap.size 0 (.slice (some ⟨g, 0, none⟩) 512 cg)
      have g2 := grownBy_cell (wr.setCell ⟨w.heap.size, 0, none⟩ (.slice (some ⟨g, 0, none⟩) 512 cg)) w.heap.size 1 (.slice (some ⟨h, 0, none⟩) 4 ch)
      have HR : Hid (w.heap.size ≠ g ∧ w.heap.size ≠ h ∧ ∀ i (hi : i < vs.length), vs[i].ownBlock ≠ some w.heap.size) := Lib.hid H.out.rv
      have R := Lib.hid ((H.out.ref.write g1 hne HR.out.1 HR.out.2.1 HR.out.2.2).write g2 hne HR.out.1 HR.out.2.1 HR.out.2.2)
      have hdk := Lib.hid ((H.out.deck.kept g1 (fun k hk => by cases hk; exact hDl)).kept g2 (fun k hk => by cases hk; exact hDl))
      have hgr := Lib.hid (grown_new (grown_new H.out.grown (Nat.le_refl _) (j := 0) (u := .slice (some ⟨g, 0, none⟩) 512 cg)) (Nat.le_refl _) (j := 1) (u := .slice (some ⟨h, 0, none⟩) 4 ch))
      clear g1 g2
      go_wp2
      refine bodyPost_ret (v := .agg #[.slice (some ⟨g, 0, none⟩) 512 cg, .slice (some ⟨h, 0, none⟩) 4 ch]) (by simp [results, Try.results9, go_sem, r0, r1]) rfl ⟨g, cg, h, ch, vs, M, rfl, R.out.own, H.out.mv, H.out.coh, hdk.out, hgr.out⟩
end Go.Proofs.Ytkffeibjleiaoaa
