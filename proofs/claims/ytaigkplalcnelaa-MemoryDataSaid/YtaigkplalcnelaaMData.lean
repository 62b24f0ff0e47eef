/-
  MemoryData: the law's walk: for every list of numbers and every seed the call returns true, and nothing that was there before is written.
-/
import Derived.Test.YtaigkplalcnelaaLaw04
import Derived.Test.YtaigkplalcnelaaDeckProg
import Derived.Test.YtaigkplalcnelaaLayMk
import Derived.Test.YtaigkplalcnelaaLay13
import Derived.Test.YtaigkplalcnelaaOpenInts
import Derived.Test.YtaigkplalcnelaaLay7
import Derived.Deep.RegionHeld3
import Derived.BigQuiet
import Derived.Lib.SmallJoins
import Derived.Deep.QuietTactic
namespace Go.Proofs.Ytaigkplalcnelaa.memoryDataLaw
open Go.RowKit

theorem data_of {lo hi : Nat} {L : List (List Nat)} {ad : Option Addr} {W : World} (h : DatC lo hi L ad W) : DataAt W ad L := by
  rcases h.2 with h | ⟨b, off, ha, _, _, h⟩
  · exact .inl h
  · refine .inr ⟨b, off, ha, fun i hi => ?_⟩
    obtain ⟨a, c, hc, hn⟩ := h i hi
    exact ⟨a, c, hc, (hn.from (Nat.le_refl _)).at⟩

theorem fits_of : ∀ {s : List Nat} {L : List (List Nat)}, (∀ i (h : i < L.length) (h2 : i < s.length), L[i].length ≤ s[i]) → fitsL (s.map fun x : Nat => (x : Int)) L = true
  | [], _, _ => rfl
  | x :: s, [], _ => rfl
  | x :: s, l :: L, h => by
    have h0 := h 0 (by simp) (by simp)
    simp only [List.getElem_cons_zero] at h0
    simp only [List.map_cons, fitsL, Bool.and_eq_true]
    exact ⟨decide_eq_true (by omega), fits_of (fun i h1 h2 => h (i + 1) (by simpa using h1) (by simpa using h2))⟩

/-- Load of a program's own data in a valid layout. -/
theorem load_own (ka sa la da : Option Addr) (kn kc sc dc lc : Nat) (s : List Nat) (bs : List Int) (L : List (List Nat)) (key : Int) (w : World) (hz : Sz s) (hv : LV bs s) (hs : NatsAt .i64 w sa s) (hl : IntsAt .i64 w la bs) (hd : DataAt w da L)
    (hn : L.length = s.length) (hf : ∀ i (h : i < L.length) (h2 : i < s.length), L[i].length ≤ s[i]) :
    Calls Try.prog 8 #[.agg #[.slice ka kn kc, .slice sa s.length sc, .slice da L.length dc], .agg #[.slice la bs.length lc, .int .u16 key]] w fun e w' =>
      ∃ ac cc al cl, e = .returned (.tuple #[.agg #[.slice ac 512 cc, .slice al 4 cl], .int .i64 0]) ∧ CellsAt w' ac (loadTo bs s L L.length 0) ∧ LinesAt w' al emptyM ∧ Below w.heap.size w w' := by
  have h4 := hz.2.1
  have h5 := hv.1
  have hO : loadOk bs (s.map fun x : Nat => (x : Int)) L = true := by
    unfold loadOk
    rw [layB_true hz hv, fits_of hf, List.length_map, decide_eq_true hn]
    rfl
  have h := memory_Load ka sa la da kn kc sc dc lc (s.map fun x : Nat => (x : Int)) bs L key w hs.ints hl hd (by rw [List.length_map]; omega) (by omega) (by omega) (fun l hl2 => by
    obtain ⟨i, hi, rfl⟩ := List.getElem_of_mem hl2
    have h1 := hf i hi (by omega)
    have h2 := (hz.2.2 _ (List.getElem_mem (show i < s.length by omega))).2
    omega)
  rw [List.length_map] at h
  refine h.mono ?_
  rintro e w' ⟨hb, h⟩
  rcases h with ⟨h, _⟩ | ⟨_, ac, cc, al, cl, he, h1, h2⟩
  · rw [hO] at h; cases h
  · rw [toNat_map] at h1
    exact ⟨ac, cc, al, cl, he, h1, h2, hb⟩

theorem load_none {bs : List Int} {s : List Nat} {L : List (List Nat)} {r i a : Nat} (h : resO bs s (a : Int) = none) : loadAt bs s L r i a = 0 := by
  unfold loadAt; rw [h]

theorem load_some {bs : List Int} {s : List Nat} {L : List (List Nat)} {a r o : Nat} (h : resO bs s (a : Int) = some (r, o)) (hr : r < L.length) : loadAt bs s L L.length 0 a = L[r].getD o 0 := by
  unfold loadAt; rw [h]
  show (if r < L.length ∨ (r = L.length ∧ o < 0) then (L.getD r []).getD o 0 else 0) = _
  rw [if_pos (.inl hr), getD_at L [] hr]

variable {W3 w5 : World} {B P key lc : Nat} {la : Option Addr} {bs : List Int} {s : List Nat}

theorem mk_a (hv : LV bs s) (hbs : IntsFrom B .i64 w5 la bs) (h : Below W3.heap.size W3 w5) :
    ∃ (yb : Nat) (la1 : Option Addr) (lc1 : Nat) (bs1 : List Int) (key1 : Nat), Value.pointer (some ⟨w5.heap.size, 0, none⟩) = .pointer (some ⟨yb, 0, none⟩) ∧ LV bs1 s ∧
      Blk (w5.alloc (.cells #[.slice la bs.length lc, .int .u16 (key : Int)] 32)) yb [.slice la1 bs1.length lc1, .int .u16 (key1 : Int)] ∧ IntsAt .i64 (w5.alloc (.cells #[.slice la bs.length lc, .int .u16 (key : Int)] 32)) la1 bs1 ∧
      Below W3.heap.size W3 (w5.alloc (.cells #[.slice la bs.length lc, .int .u16 (key : Int)] 32)) :=
  ⟨_, la, lc, bs, key, rfl, hv, Blk.new _ _, hbs.at.later (Below.alloc (Below.refl _ _) (Nat.le_refl _) _), h.alloc h.size _⟩

theorem mk_b (hP : W3.heap.size = P + 1) (hv : LV bs s) (bz : Blk w5 (P + 1) [.slice none 0 0, .int .u16 0]) (hbs : IntsFrom B .i64 w5 la bs) (hB : P + 1 < B) (h : Below W3.heap.size W3 w5) :
    ∃ (yb : Nat) (la1 : Option Addr) (lc1 : Nat) (bs1 : List Int) (key1 : Nat), Value.pointer (some ⟨P + 1, 0, none⟩) = .pointer (some ⟨yb, 0, none⟩) ∧ LV bs1 s ∧
      Blk ((w5.setCell ⟨P + 1, 0, none⟩ (.slice la bs.length lc)).setCell ⟨P + 1, 1, none⟩ (.int .u16 (key : Int))) yb [.slice la1 bs1.length lc1, .int .u16 (key1 : Int)] ∧ IntsAt .i64 ((w5.setCell ⟨P + 1, 0, none⟩ (.slice la bs.length lc)).setCell ⟨P + 1, 1, none⟩ (.int .u16 (key : Int))) la1 bs1 ∧
      Below W3.heap.size W3 ((w5.setCell ⟨P + 1, 0, none⟩ (.slice la bs.length lc)).setCell ⟨P + 1, 1, none⟩ (.int .u16 (key : Int))) :=
  ⟨_, la, lc, bs, key, rfl, hv, (bz.put 0 _).put 1 _, ((hbs.kept (grownBy_cell w5 (P + 1) 0 _) (fun d hd => by cases hd; exact hB)).kept (grownBy_cell _ (P + 1) 1 _) (fun d hd => by cases hd; exact hB)).at,
    (h.setCell (p := ⟨P + 1, 0, none⟩) (by rw [hP]; exact Nat.le_refl _) _).setCell (p := ⟨P + 1, 1, none⟩) (by rw [hP]; exact Nat.le_refl _) _⟩

theorem sz {B : Nat} {W W' : World} (h : Below B W W') : W.heap.size ≤ W'.heap.size := h.size

set_option maxHeartbeats 4000000 in
set_option maxRecDepth 100000 in
theorem core (a : Option Addr) (xs : List Int) (cap : Nat) (seed : Int) (W : World) (ha : IntsAt .i64 W a xs) (hx : ∀ x ∈ xs, -9223372036854775808 ≤ x ∧ x ≤ 9223372036854775807) (hl : xs.length ≤ 9223372036854775807)
    (hs1 : -9223372036854775808 ≤ seed) (hs2 : seed ≤ 9223372036854775807) :
    Calls Try.prog 3 #[.slice a xs.length cap, .int .i64 seed] W fun e w' => e = .returned (.bool true) ∧ Below W.heap.size W w' := by
  have hN := Lib.hid (make_New a xs cap W ha hx hl)
  clear ha hx hl
  go_enter Try.func3, Try.ntmps3
  go_wp2_with fail
  refine hN.out.mono ?_
  rintro e w1 ⟨rfl, hd1, hb1⟩
  have hP := Lib.hid (deck_Program W.heap.size w1 hd1)
  have hD1 : W.heap.size < w1.heap.size := hd1.lt
  clear hN
  go_wp2_with fail
  refine hP.out.mono ?_
  rintro e w2 ⟨ac, cc, C, a2, c2, s, ad, cd, L, lo, hi, rfl, hz, hn, hf, _, _, _, _, _, hsz, _, hdat, _, _, hg2⟩
  have HN := Lib.hid hn
  have HF := Lib.hid hf
  clear hn hf
  have B2 := hb1.grown hg2 hb1.size (fun k hk => by cases hk; exact Nat.le_refl _)
  have hA := Below.alloc (Below.refl w2.heap.size w2) (Nat.le_refl _) (.cells #[.slice ac C.length cc, .slice a2 s.length c2, .slice ad L.length cd] 26)
  have B3 := B2.trans (hA.mono B2.size)
  have hS3 := hsz.at.later hA
  have hD3 := (data_of hdat).later hA
  have hw6 : Hid (∀ l ∈ L, ∀ x ∈ l, x < 65536) := Lib.hid hdat.1
  have bp := Blk.new (W := w2) #[.slice ac C.length cc, .slice a2 s.length c2, .slice ad L.length cd] 26
  have hsW : (w2.alloc (.cells #[.slice ac C.length cc, .slice a2 s.length c2, .slice ad L.length cd] 26)).heap.size = w2.heap.size + 1 := by simp
  clear hP hd1 hb1 hg2 hsz hdat hA hD1
  go_upto_region 2 with fail
  generalize w2.alloc (.cells #[.slice ac C.length cc, .slice a2 s.length c2, .slice ad L.length cd] 26) = W3 at *
  generalize w2.heap.size = P at *
  have HZ := Lib.hid hz
  have HM := Lib.hid (fun W => make_Mod seed 1048576 W (by omega) (by omega) hs1 hs2)
  have hq0 := Int.emod_nonneg seed (b := 1048576) (by omega)
  have hq1 := Int.emod_lt_of_pos seed (b := 1048576) (by omega)
  obtain ⟨q, hq⟩ : ∃ q : Nat, seed % 1048576 = (q : Int) := ⟨(seed % 1048576).toNat, by omega⟩
  rw [hq] at HM
  have HK := Lib.hid (fun W (h : Below W3.heap.size W3 W) => ref03_Make_valid a2 s c2 q W hz (by omega) (hS3.later h))
  clear hq0 hq1 hq
  have p1 := (bp 1 (by simp)).1
  go_cut [6] (fun v wx => ∃ (yb : Nat) (la : Option Addr) (lc : Nat) (bs : List Int) (key : Nat), v = .pointer (some ⟨yb, 0, none⟩) ∧ LV bs s ∧ Blk wx yb [.slice la bs.length lc, .int .u16 (key : Int)] ∧ IntsAt .i64 wx la bs ∧ Below W3.heap.size W3 wx)
  case first =>
    have bel := (Below.refl W3.heap.size W3).drew
    have belA := ((Below.refl W3.heap.size W3).alloc (Nat.le_refl _) (.cells #[.slice none 0 0, .int .u16 0] 32)).drew
    have bz0 : Blk (W3.alloc (.cells #[.slice none 0 0, .int .u16 0] 32)).drew (P + 1) [.slice none 0 0, .int .u16 0] := by
      have h := (Blk.new (W := W3) #[.slice none 0 0, .int .u16 0] 32).kept (grownBy_drewN _ none 1) (by simp)
      rw [hsW] at h
      exact h
    have p1d : W3.drew.cell? ⟨P, 1, none⟩ = some (.slice a2 s.length c2) := cell_later bel p1
    have p1a := cell_later belA p1
    go_region_law (first
      | (go_simp; go_at_call 7; (with_reducible refine (HM.out _).mono ?_); rintro e w' ⟨rfl, rfl⟩)
      | (go_simp; go_at_call 6; (with_reducible refine (HK.out _ (by first | exact bel | exact belA)).mono ?_); rintro e w5 ⟨la, lc, bs, key, rfl, hv, _, hbs, _, hb5⟩; first | (have bz := bz0.later hb5; have z0 := (bz 0 (by simp)).1; have z1 := (bz 1 (by simp)).1; have z2 := (bz 0 (by simp)).2; have z3 := (bz 1 (by simp)).2) | skip))
    all_goals
      go_wp2
      go_meet
      first
        | exact mk_a hv hbs (bel.trans (hb5.mono bel.size))
        | exact mk_b hsW hv bz hbs (by simp; omega) (belA.trans (hb5.mono belA.size))
  case rest =>
    obtain ⟨Y, la, lc, bs, key, rfl, hv, by3, hl3, hb3⟩ := hcut
    have B4 := B3.trans (hb3.mono (sz B3))
    have bp4 := bp.later hb3
    have hS4 := hS3.later hb3
    have hD4 := hD3.later hb3
    have HLo := Lib.hid (load_own ac a2 la ad C.length cc c2 cd lc s bs L (key : Int) _ hz hv hS4 hl3 hD4 HN.out HF.out)
    have q0 := (bp4 0 (by simp)).1
    have q1 := (bp4 1 (by simp)).1
    have q2 := (bp4 2 (by simp)).1
    have y0 := (by3 0 (by simp)).1
    have y1 := (by3 1 (by simp)).1
    have HV := Lib.hid hv
    clear bp hS3 hD3 B3 hb3 HK HM p1 hsW hv
    go_wp2_with fail
    refine HLo.out.mono ?_
    rintro e w5 ⟨am, cm, al, cl, rfl, hC5, hL5, hb5⟩
    have hA := Below.alloc (Below.refl w5.heap.size w5) (Nat.le_refl _) (.cells #[.slice am 512 cm, .slice al 4 cl] 40)
    have hb6 := hb5.trans (hA.mono hb5.size)
    have B5 := B4.trans (hb6.mono (sz B4))
    have bp5 := bp4.later hb6
    have by5 := by3.later hb6
    have hS5 := hS4.later hb6
    have hl5 := hl3.later hb6
    have hD5 := hD4.later hb6
    have hC6 := hC5.later hA
    have hL6 := hL5.later hA
    have bm := Blk.new (W := w5) #[.slice am 512 cm, .slice al 4 cl] 40
    clear HLo hb5 hA hb6 bp4 by3 hS4 hl3 hD4 hC5 hL5 B4 q0 q1 q2 y0 y1
    go_upto_region 4 with fail
    generalize w5.alloc (.cells #[.slice am 512 cm, .slice al 4 cl] 40) = W5 at *
    generalize w5.heap.size = M at *
    have m0 := (bm 0 (by simp)).1
    have m1 := (bm 1 (by simp)).1
    obtain ⟨cs, hcs⟩ : ∃ cs, cs = loadTo bs s L L.length 0 := ⟨_, rfl⟩
    have HCS := Lib.hid hcs
    have HC := Lib.hid hC6
    rw [← hcs] at hC6
    have hl512 : Hid (cs.length = 512) := Lib.hid (by rw [hcs]; exact length_loadTo _ _ _ _ _)
    clear hcs
    go_wp2_with fail
    go_loopw [43] (fun c wr => ∃ k : Nat, k ≤ 512 ∧ c = .int .i64 k ∧ Below W5.heap.size W5 wr) (fun c _ => 512 - (intOf c).toNat)
    case atStart => exact ⟨0, by omega, rfl, Below.refl _ _⟩
    case round =>
      clear m0 m1
      obtain ⟨k, hk, rfl, hw⟩ := hrel
      by_cases hlt : k < 512
      · have hkc : k < cs.length := by have := hl512.out; omega
        obtain ⟨b, o, rfl, hc⟩ := (hC6.later hw).some hkc
        obtain ⟨d0, d1⟩ := hc k hkc
        have hck : cs[k] = (0, loadAt bs s L L.length 0 k) := by
          have := HCS.out
          subst this
          exact loadTo_at bs s L L.length 0 k hlt
        rw [hck] at d0 d1
        clear hc hck
        have i1 : (k : Int) < 512 := by omega
        have i2 : 0 ≤ (k : Int) := by omega
        have HRes := Lib.hid (fun W (h : Below W5.heap.size W5 W) => ref03_Resolve la bs lc (key : Int) a2 s c2 (k : Int) W hz HV.out (hl5.later h) (hS5.later h))
        have HVal := Lib.hid (rfl : loadAt bs s L L.length 0 k = loadAt bs s L L.length 0 k)
        generalize hv9 : loadAt bs s L L.length 0 k = v at *
        have HV9 := Lib.hid hv9
        clear hv9 HVal
        have d0 : wr.cell? ⟨b, o + k * 2, none⟩ = some (.int .u8 0) := d0
        have d1 : wr.cell? ⟨b, o + k * 2 + 1, none⟩ = some (.int .u16 (v : Int)) := d1
        have a1 := World.grownBy_alloc (wr.alloc (.cells #[.int .u8 0, .int .u16 (v : Int)] 44)) (.cells #[.int .u8 0, .int .u16 0] 44) none
        have bc := (Blk.new (W := wr) #[.int .u8 0, .int .u16 (v : Int)] 44).kept a1 (by simp)
        have bw := Blk.new (W := wr.alloc (.cells #[.int .u8 0, .int .u16 (v : Int)] 44)) #[.int .u8 0, .int .u16 0] 44
        have hs1 : (wr.alloc (.cells #[.int .u8 0, .int .u16 (v : Int)] 44)).heap.size = wr.heap.size + 1 := by simp
        rw [hs1] at bw
        have hb9 : Below wr.heap.size wr ((wr.alloc (.cells #[.int .u8 0, .int .u16 (v : Int)] 44)).alloc (.cells #[.int .u8 0, .int .u16 0] 44)) := ((Below.refl wr.heap.size wr).alloc (Nat.le_refl _) _).alloc (by rw [hs1]; omega) _
        have hw9 := hw.trans (hb9.mono hw.size)
        have hs9 : ((wr.alloc (.cells #[.int .u8 0, .int .u16 (v : Int)] 44)).alloc (.cells #[.int .u8 0, .int .u16 0] 44)).heap.size = wr.heap.size + 2 := by simp
        clear a1 hs1 hb9
        go_upto_region 10 with fail
        clear d0 d1
        generalize (wr.alloc (.cells #[.int .u8 0, .int .u16 (v : Int)] 44)).alloc (.cells #[.int .u8 0, .int .u16 0] 44) = W9 at *
        have hBr : W5.heap.size ≤ wr.heap.size := hw.size
        generalize wr.heap.size = B8 at *
        have q1 := ((bp5.later hw9) 1 (by simp)).1
        have y0 := ((by5.later hw9) 0 (by simp)).1
        have y1 := ((by5.later hw9) 1 (by simp)).1
        generalize hg1 : resR bs s (k : Int) = x at HRes
        generalize hg2 : resOf bs s (k : Int) = y at HRes
        generalize hg3 : resB bs s (k : Int) = B at HRes
        have HG := Lib.hid (And.intro hg1 (And.intro hg2 hg3))
        clear hg1 hg2 hg3
        go_wp2_with fail
        refine (HRes.out _ hw9).mono ?_
        rintro e w10 ⟨rfl, hb10⟩
        have hA := Below.alloc (Below.refl w10.heap.size w10) (Nat.le_refl _) (.cells #[.int .i64 x, .int .i64 y] 46)
        have hb11 := hb10.trans (hA.mono hb10.size)
        have hwP := hw9.trans (hb11.mono hw9.size)
        have bc := bc.later hb11
        have bw := bw.later hb11
        have bl := Blk.new (W := w10) #[.int .i64 x, .int .i64 y] 46
        clear HRes hA hb10 hb11 q1 y0 y1 hs9 hw9
        go_upto_region 11 with fail
        generalize w10.alloc (.cells #[.int .i64 x, .int .i64 y] 46) = W10 at *
        generalize w10.heap.size = P10 at *
        have q2 := ((bp5.later hwP) 2 (by simp)).1
        have c0 := (bc 0 (by simp)).1
        have c1 := (bc 1 (by simp)).1
        have w0 := (bw 0 (by simp)).1
        have w1 := (bw 1 (by simp)).1
        have w2 := (bw 1 (by simp)).2
        have l0 := (bl 0 (by simp)).1
        have l1 := (bl 1 (by simp)).1
        have hDk := hD5.later hwP
        have HWP := Lib.hid hwP
        have HBr := Lib.hid hBr
        clear bc bw bl hwP hBr
        cases hres : resO bs s (k : Int) with
        | none =>
          obtain ⟨e1, e2, e3⟩ := res_none hres
          obtain ⟨g1, g2, g3⟩ := HG.out
          obtain rfl : x = 0 := g1.symm.trans e1
          obtain rfl : y = 0 := g2.symm.trans e2
          obtain rfl : B = false := g3.symm.trans e3
          obtain rfl : v = 0 := HV9.out.symm.trans (load_none hres)
          clear e1 e2 e3 g1 g2 g3 HG HV9 hres
          go_quiet (fail)
          go_wp2
          go_roundw
          case rel => exact ⟨k + 1, by omega, by go_num, below_drewN HWP.out _⟩
          case measure => simp [intOf]; omega
        | some p =>
          obtain ⟨r, o⟩ := p
          obtain ⟨e1, e2, e3⟩ := res_some hres
          obtain ⟨g1, g2, g3⟩ := HG.out
          obtain rfl : x = (r : Int) := g1.symm.trans e1
          obtain rfl : y = (o : Int) := g2.symm.trans e2
          obtain rfl : B = true := g3.symm.trans e3
          have hrb := (res_holds HV.out.1 hres).1.1
          have hrL : r < L.length := by have := HV.out.1; have := HN.out; omega
          have hv0 := HV9.out.symm.trans (load_some hres hrL)
          obtain ⟨bd, od, rfl, hdc⟩ := hDk.some hrL
          obtain ⟨a3, c3, t0, tn⟩ := hdc r hrL
          have j1 : (r : Int) < (L.length : Int) := by omega
          have j2 : 0 ≤ (r : Int) := by omega
          have j3 : 0 ≤ (o : Int) := by omega
          clear e1 e2 e3 g1 g2 g3 HG HV9 hres hdc hDk hrb
          generalize L[r] = l at *
          by_cases hol : o < l.length
          · have g0 : decide ((o : Int) < (l.length : Int)) = true := by rw [decide_eq_true_eq]; omega
            have j4 : (o : Int) < (l.length : Int) := by omega
            obtain ⟨b4, o4, rfl, hcw⟩ := tn.some hol
            have u0 := hcw o hol
            rw [getD_at l 0 hol] at hv0
            rw [← hv0] at u0
            clear hcw hv0
            go_quiet (fail)
            go_upto_region 12 with fail
            go_region
            go_wp2
            go_roundw
            case rel =>
              have hBr := HBr.out
              refine ⟨k + 1, by omega, by go_num, ?_⟩
              first
                | exact ((below_drewN HWP.out _).drew).setCell (p := ⟨B8 + 1, 1, none⟩) (by show W5.heap.size ≤ B8 + 1; omega) _
                | exact ((below_drewN HWP.out _).setCell (p := ⟨B8 + 1, 1, none⟩) (by show W5.heap.size ≤ B8 + 1; omega) _).drew
                | exact ((below_drewN HWP.out _).setCell (p := ⟨B8 + 1, 1, none⟩) (by show W5.heap.size ≤ B8 + 1; omega) _)
            case measure => simp [intOf]; omega
          · have g0 : decide ((o : Int) < (l.length : Int)) = false := by rw [decide_eq_false_iff_not]; omega
            obtain rfl : v = 0 := by rw [hv0, List.getD_eq_getElem?_getD, List.getElem?_eq_none (by omega)]; rfl
            clear hv0 tn
            go_quiet (fail)
            go_wp2
            go_roundw
            case rel => exact ⟨k + 1, by omega, by go_num, below_drewN HWP.out _⟩
            case measure => simp [intOf]; omega
      · obtain rfl : k = 512 := by omega
        have hV := Lib.hid (memory_Valid_load am al bs s L cm cl wr hw6.out (HC.out.later hw) (hL6.later hw))
        have m0 := cell_later hw (bm 0 (by simp)).1
        have m1 := cell_later hw (bm 1 (by simp)).1
        have Bw := B5.trans (hw.mono (sz B5))
        go_wp2_with fail
        refine hV.out.mono ?_
        rintro e w7 ⟨rfl, hb7⟩
        have B7 := Bw.trans (hb7.mono (sz Bw))
        have hAw := Lib.hid (law04_awake w7)
        go_wp2_with fail
        refine hAw.out.mono ?_
        rintro e w8 ⟨rfl, hb8⟩
        have B8 := B7.trans (hb8.mono (sz B7))
        go_wp2
        go_ret
        exact ⟨rfl, B8⟩

open Go.ChangeShapes Go.WideShapes Go.ChangeAt Go.Joins in
theorem walk {H : Type} (enc : TypeId × Value → H) (W : World) (base : Nat) (v0 : Value) (d0 : DataW H) (p0 : List MemPlace) (o0 : Value.okWide Try.prog W .any base 22 v0) (h0 : DataW.Trod enc Try.prog W 0 (fun _ => true) true 22 v0 d0 p0)
    (v1 : Value) (d1 : DataW H) (p1 : List MemPlace) (o1 : Value.okWide Try.prog W .any base 3 v1) (h1 : DataW.Trod enc Try.prog W 0 (fun _ => true) true 3 v1 d1 p1) :
    Calls Try.prog 3 #[v0, v1] W fun e w' => e = .returned (.bool true) ∧ Below W.heap.size W w' := by
  obtain ⟨a, xs, cap, rfl, ha, hx, hl⟩ := open_nums Try.underlying22 Try.underlying3 (by kernel_rfl) o0 h0
  obtain ⟨i, rfl, rfl, rfl, w1⟩ := open_int Try.underlying3 o1 h1
  exact core a xs cap i W ha (fun x hx2 => int_of (hx x hx2)) (by unfold maxLen at hl; exact hl) (int_of w1).1 (int_of w1).2
end Go.Proofs.Ytaigkplalcnelaa.memoryDataLaw
