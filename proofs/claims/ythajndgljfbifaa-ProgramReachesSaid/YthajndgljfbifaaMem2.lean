/-
  Contracts of package memory: emptyLines, fits, Load.
-/
import Derived.Test.YthajndgljfbifaaRM1
import Derived.Test.YthajndgljfbifaaMemCopy
import Derived.Test.YthajndgljfbifaaLay1
import Derived.Deep.RegionHeldLaw
namespace Go.Proofs.Ythajndgljfbifaa
open Go.RowKit
set_option maxRecDepth 100000

set_option maxHeartbeats 1000000 in
theorem memory_emptyLines (w : World) : Calls Try.prog 88 #[] w (GivesEmpty w) := by
  obtain ⟨i0, hi, hz0, hz1, hz2⟩ := info_parts info_line
  go_enter Try.func88, Try.ntmps88
  go_wp2_with (first
    | (at_make; refine wpList_make_full _ rfl _ _ 42 rfl w.heap.size 148 i0 (.agg #[.int .i64 0, .bool false, .slice none 0 0]) 3 Try.underlying42 hi hz0 hz1 .i64 .i64 _ _ 4 rfl rfl rfl rfl ?c1 ?c2 ?c3 ?_))
  case c1 => rw [hz2]; omega
  case c2 => unfold maxLen; omega
  case c3 => exact Nat.le_refl _
  intro w1 hown hg
  have hown0 : w1.ownsRow w.heap.size 148 3 (.slice (some ⟨w.heap.size, 0, none⟩) 4 4) 4 (emptyRows 0).flatten := by rw [show (madeCells #[Value.int .i64 0, .bool false, .slice none 0 0] 12).toList = (emptyRows 0).flatten from made_rows [.int .i64 0, .bool false, .slice none 0 0] 4] at hown; exact hown
  have hb0 : Below w.heap.size w w1 := (Below.refl _ _).grown hg (Nat.le_refl _) (fun k hk => by cases hk)
  clear hown hg
  go_wp2
  go_loopw [6] (fun c wr => ∃ k : Nat, k ≤ 4 ∧ c = .int .i64 k ∧ wr.ownsRow w.heap.size 148 3 (.slice (some ⟨w.heap.size, 0, none⟩) 4 4) 4 (emptyRows k).flatten ∧ Below w.heap.size w wr) (fun c _ => 4 - (intOf c).toNat)
  case atStart => exact ⟨0, by omega, rfl, hown0, hb0⟩
  case round =>
    clear hown0 hb0
    obtain ⟨k, hk, rfl, hown, hb⟩ := hrel
    by_cases hlt : k < 4
    · have i1 : (k : Int) < 4 := by omega
      have i2 : 0 ≤ (k : Int) := by omega
      obtain ⟨u, hu⟩ := emptyRows_get k hlt
      have c0 := (hown.cellAt (k * 3) (by omega)).trans hu
      have fr := hown.frozenAt (k * 3)
      have hst := hown.stored (k * 3) (.int .i64 (-1))
      rw [emptyRows_set k hlt] at hst
      have R1 := Lib.hid hst.1
      have R2 := Lib.hid (hb.grown hst.2 hb.size (fun j hj => by cases hj; exact Nat.le_refl _))
      clear hst hown hu
      go_wp2
      go_roundw
      case rel => exact ⟨k + 1, by omega, by go_num, R1.out, R2.out⟩
      case measure => simp [intOf]; omega
    · obtain rfl : k = 4 := by omega
      go_wp2
      go_ret
      exact ⟨w.heap.size, 4, rfl, hown, hb⟩

set_option maxHeartbeats 1000000 in
theorem memory_fits (da sa : Option Addr) (L : List (List Nat)) (xs : List Int) (dc sc : Nat) (w : World) (hd : DataAt w da L) (hs : IntsAt .i64 w sa xs) (lx : xs.length ≤ 1000000000) (ll : L.length ≤ 1000000000) (le : ∀ l ∈ L, l.length ≤ 1000000000) :
    Calls Try.prog 86 #[.slice da L.length dc, .slice sa xs.length sc] w fun e w' => e = .returned (.bool (decide (L.length = xs.length) && fitsL xs L)) ∧ Below w.heap.size w w' := by
  go_enter Try.func86, Try.ntmps86
  by_cases hln : L.length = xs.length
  case neg =>
    have g0 : ((L.length : Int) != (xs.length : Int)) = true := by simp; omega
    go_wp2
    go_ret
    exact ⟨ret_bool (by rw [decide_eq_false hln]; rfl), Below.refl _ _⟩
  case pos =>
  have g0 : ((L.length : Int) != (xs.length : Int)) = false := by simp; omega
  have HL := Lib.hid hln
  rw [decide_eq_true hln, Bool.true_and]
  clear hln
  go_upto_region 3 with fail
  clear g0
  go_wp2_with fail
  go_loop [14] (fun c => ∃ k : Nat, k ≤ L.length ∧ c = .int .i64 k ∧ fitsL xs L = fitsL (xs.drop k) (L.drop k)) (fun c => L.length - (intOf c).toNat)
  case atStart => exact ⟨0, by omega, rfl, rfl⟩
  case round =>
    obtain ⟨k, hk, rfl, heq⟩ := hrel
    have HE := Lib.hid heq
    clear heq
    by_cases hlt : k < L.length
    · have hlx : k < xs.length := by have := HL.out; omega
      obtain ⟨b1, o1, rfl, hc1⟩ := hd.some hlt
      obtain ⟨a2, c2, d1, _⟩ := hc1 k hlt
      obtain ⟨b2, o2, rfl, hc2⟩ := hs.some hlx
      have d2 := hc2 k hlx
      have HF := Lib.hid (fits_here xs L k hlx hlt)
      have hle := le _ (List.getElem_mem hlt)
      have i1 : (k : Int) < (L.length : Int) := by omega
      have i2 : (k : Int) < (xs.length : Int) := by omega
      have i3 : 0 ≤ (k : Int) := by omega
      clear hc1 hc2 hd hs
      generalize L[k] = l at *
      generalize xs[k] = x at *
      by_cases hx : (l.length : Int) ≤ x
      · have i4 : ¬ x < (l.length : Int) := by omega
        go_wp2
        go_round
        case rel => exact ⟨k + 1, by omega, by go_num, by rw [HE.out, HF.out, decide_eq_true hx, Bool.true_and]⟩
        case measure => simp [intOf]; omega
      · have i4 : x < (l.length : Int) := by omega
        go_wp2
        go_ret
        exact ⟨ret_bool (by rw [HE.out, HF.out, decide_eq_false (by omega), Bool.false_and]), Below.refl _ _⟩
    · go_wp2
      go_ret
      exact ⟨ret_bool (by rw [HE.out, fits_end _ _ _ (by omega)]), Below.refl _ _⟩

theorem cell_size : (Try.prog.info? 127).map (·.size) = some 2 := by
  obtain ⟨i0, hi, _, h1, _⟩ := info_parts info_cell4
  rw [hi]; simp [h1]

theorem _root_.Go.World.ownsRow.later2 {w w' : World} {base : Nat} {e : TypeId} {k : Nat} {v : Value} {n : Nat} {xs : List Value} (h : w.ownsRow base e k v n xs) (hb : Below w.heap.size w w') : w'.ownsRow base e k v n xs :=
  h.kept (grownBy_below hb rfl none) (by
    by_cases hn : v.ownBlock = none
    · exact .inl hn
    · exact .inr hn)

/-- While Load goes on. -/
structure LdS (base c : Nat) (W1 : World) (xs : List (Nat × Nat)) (W : World) : Prop where
  own : W.ownsRow base 127 2 (.slice (some ⟨c, 0, none⟩) 512 512) 512 (cellRows xs).flatten
  below : Below base W1 W
  hb : base ≤ c

theorem cells_rows0 {w : World} {base c : Nat} {xs : List (Nat × Nat)} (hl : xs.length = 512) (h : w.ownsRow base 127 2 (.slice (some ⟨c, 0, none⟩) 512 512) 512 (cellRows xs).flatten) : CellsAt w (some ⟨c, 0, none⟩) xs := by
  obtain ⟨_, a, cap, hv, hc, _⟩ := CellsAt.of_own h
  rw [hl] at hv
  cases hv
  exact hc

theorem fits_all : ∀ {xs : List Int} {L : List (List Nat)}, fitsL xs L = true → ∀ r (h : r < L.length) (h2 : r < xs.length), ((L[r].length : Nat) : Int) ≤ xs[r]
  | [], _, _, r, _, h2 => by simp at h2
  | x :: xs, [], _, r, h, _ => by simp at h
  | x :: xs, l :: L, hf, 0, _, _ => by
    rw [fitsL, Bool.and_eq_true] at hf
    exact of_decide_eq_true hf.1
  | x :: xs, l :: L, hf, r + 1, h, h2 => by
    rw [fitsL, Bool.and_eq_true] at hf
    exact fits_all hf.2 r (by simpa using h) (by simpa using h2)

set_option maxHeartbeats 2000000 in
set_option maxRecDepth 100000 in
theorem memory_LoadF (ka sa la da : Option Addr) (kn kc sc dc lc : Nat) (xs bs : List Int) (L : List (List Nat)) (key : Int) (w : World) (hs : IntsAt .i64 w sa xs) (hl : IntsAt .i64 w la bs) (hd : DataAt w da L)
    (lx : xs.length ≤ 1000000) (lb : bs.length ≤ 1000000) (ld : L.length ≤ 1000000000) (le : ∀ l ∈ L, l.length ≤ 1000000000) :
    Calls Try.prog 50 #[.agg #[.slice ka kn kc, .slice sa xs.length sc, .slice da L.length dc], .agg #[.slice la bs.length lc, .int .u16 key]] w (GivesLoadF bs xs L w) := by
  obtain ⟨i0, hi, hz0, hz1, hz2⟩ := info_parts info_cell4
  have A1 := World.grownBy_alloc (w.alloc (.cells #[.slice ka kn kc, .slice sa xs.length sc, .slice da L.length dc] 26)) (.cells #[.slice la bs.length lc, .int .u16 key] 29) none
  have A2 := World.grownBy_alloc ((w.alloc (.cells #[.slice ka kn kc, .slice sa xs.length sc, .slice da L.length dc] 26)).alloc (.cells #[.slice la bs.length lc, .int .u16 key] 29)) (.cells #[.slice none 0 0, .slice none 0 0] 44) none
  have bp := ((Blk.new (W := w) #[.slice ka kn kc, .slice sa xs.length sc, .slice da L.length dc] 26).kept A1 (by simp)).kept A2 (by simp)
  have bl := (Blk.new (W := w.alloc (.cells #[.slice ka kn kc, .slice sa xs.length sc, .slice da L.length dc] 26)) #[.slice la bs.length lc, .int .u16 key] 29).kept A2 (by simp)
  have br := Blk.new (W := (w.alloc (.cells #[.slice ka kn kc, .slice sa xs.length sc, .slice da L.length dc] 26)).alloc (.cells #[.slice la bs.length lc, .int .u16 key] 29)) #[.slice none 0 0, .slice none 0 0] 44
  have hB : Below w.heap.size w (((w.alloc (.cells #[.slice ka kn kc, .slice sa xs.length sc, .slice da L.length dc] 26)).alloc (.cells #[.slice la bs.length lc, .int .u16 key] 29)).alloc (.cells #[.slice none 0 0, .slice none 0 0] 44)) :=
    ((Below.alloc (Below.refl w.heap.size w) (Nat.le_refl _) _).alloc (by simp) _).alloc (by simp; omega) _
  have hz : (((w.alloc (.cells #[.slice ka kn kc, .slice sa xs.length sc, .slice da L.length dc] 26)).alloc (.cells #[.slice la bs.length lc, .int .u16 key] 29)).alloc (.cells #[.slice none 0 0, .slice none 0 0] 44)).heap.size = w.heap.size + 3 := by simp
  have e1 : (w.alloc (.cells #[.slice ka kn kc, .slice sa xs.length sc, .slice da L.length dc] 26)).heap.size = w.heap.size + 1 := by simp
  have e2 : ((w.alloc (.cells #[.slice ka kn kc, .slice sa xs.length sc, .slice da L.length dc] 26)).alloc (.cells #[.slice la bs.length lc, .int .u16 key] 29)).heap.size = w.heap.size + 1 + 1 := by simp
  rw [e1] at bl
  rw [e2] at br
  have hs0 := hs.later hB
  have hl0 := hl.later hB
  have hd0 := hd.later hB
  clear A1 A2 e1 e2 hs hl hd
  go_enter Try.func50, Try.ntmps50
  go_upto_region 1 with fail
  generalize ((w.alloc (.cells #[.slice ka kn kc, .slice sa xs.length sc, .slice da L.length dc] 26)).alloc (.cells #[.slice la bs.length lc, .int .u16 key] 29)).alloc (.cells #[.slice none 0 0, .slice none 0 0] 44) = W0 at *
  have hV := Lib.hid (layout_Valid la bs lc key sa xs sc W0 lb lx hl0 hs0)
  have hFt := Lib.hid (fun W (h : Below W0.heap.size W0 W) => memory_fits da sa L xs dc sc W (hd0.later h) (hs0.later h) (by omega) ld le)
  have p1 := (bp 1 (by simp)).1
  have p2 := (bp 2 (by simp)).1
  have l0 := (bl 0 (by simp)).1
  have l1 := (bl 1 (by simp)).1
  have hBad : ∀ (w9 : World), loadOk bs xs L = false → Below w.heap.size w w9 → GivesLoadF bs xs L w (.returned (.tuple #[.agg #[.slice none 0 0, .slice none 0 0], .int .i64 1])) w9 := fun w9 h1 h2 => ⟨h2, .inl ⟨h1, rfl⟩⟩
  have HBad := Lib.hid hBad
  clear hBad
  go_wp2_with fail
  refine hV.out.mono ?_
  rintro e W1 ⟨rfl, hb1⟩
  have p1 := cell_later hb1 p1
  have p2 := cell_later hb1 p2
  have l0 := cell_later hb1 l0
  cases hlb : layB bs xs with
  | false =>
    have hB1 := hB.trans (hb1.mono (by omega))
    have br := br.later hb1
    have r0 := (br 0 (by simp)).1
    have r1 := (br 1 (by simp)).1
    have fr0 := (br 0 (by simp)).2
    have fr1 := (br 1 (by simp)).2
    have HO : Hid (loadOk bs xs L = false) := Lib.hid (by unfold loadOk; rw [hlb, Bool.false_and])
    have HW := Lib.hid ((hB1.setCell (p := ⟨w.heap.size + 1 + 1, 0, none⟩) (by simp; omega) (.slice none 0 0)).setCell (p := ⟨w.heap.size + 1 + 1, 1, none⟩) (by simp; omega) (.slice none 0 0))
    clear hFt hV hs0 hl0 hd0 bl bp hB1 hB hb1 hz
    go_wp2
    refine bodyPost_ret (v := .tuple #[.agg #[.slice none 0 0, .slice none 0 0], .int .i64 1]) (by simp [results, Try.results50, go_sem, r0, r1]) rfl (HBad.out _ HO.out HW.out)
  | true =>
    go_wp2_with fail
    refine (hFt.out W1 hb1).mono ?_
    rintro e W2 ⟨rfl, hb2⟩
    have hb2 := hb1.trans (hb2.mono hb1.size)
    have hB2 := hB.trans (hb2.mono (by omega))
    have br := br.later hb2
    have hz2 : w.heap.size + 3 ≤ W2.heap.size := by have := hb2.size; omega
    have hs2 := hs0.later hb2
    have hl2 := hl0.later hb2
    have hd2 := hd0.later hb2
    have bp2 := bp.later hb2
    have bl2 := bl.later hb2
    have p2 := (bp2 2 (by simp)).1
    have l0 := (bl2 0 (by simp)).1
    have r0 := (br 0 (by simp)).1
    have r1 := (br 1 (by simp)).1
    have fr0 := (br 0 (by simp)).2
    have fr1 := (br 1 (by simp)).2
    clear hb1 hb2 hFt hV hs0 hl0 hd0 bl bp hB hz l1 p1
    cases hft : (decide (L.length = xs.length) && fitsL xs L) with
    | false =>
      have HO : Hid (loadOk bs xs L = false) := Lib.hid (by unfold loadOk; rw [hft, Bool.and_false])
      have HW := Lib.hid ((hB2.setCell (p := ⟨w.heap.size + 1 + 1, 0, none⟩) (by simp; omega) (.slice none 0 0)).setCell (p := ⟨w.heap.size + 1 + 1, 1, none⟩) (by simp; omega) (.slice none 0 0))
      clear hB2 hs2 hl2 hd2 bp2 bl2 br
      go_wp2
      refine bodyPost_ret (v := .tuple #[.agg #[.slice none 0 0, .slice none 0 0], .int .i64 1]) (by simp [results, Try.results50, go_sem, r0, r1]) rfl (HBad.out _ HO.out HW.out)
    | true =>
      have HO : Hid (loadOk bs xs L = true) := Lib.hid (by unfold loadOk; rw [hft, hlb]; rfl)
      rw [Bool.and_eq_true] at hft
      obtain ⟨hft1, hft2⟩ := hft
      have HL := Lib.hid (of_decide_eq_true hft1)
      have HFA := Lib.hid (fits_all hft2)
      obtain ⟨s, hsd⟩ : ∃ s, s = xs.map Int.toNat := ⟨_, rfl⟩
      have hvb : validB xs = true ∧ LV bs s := by
        unfold layB at hlb
        rw [Bool.and_eq_true] at hlb
        exact ⟨hlb.1, by rw [hsd]; exact of_decide_eq_true hlb.2⟩
      have hLV := Lib.hid hvb.2
      have hsx : Hid (s.length = xs.length ∧ ∀ k (h : k < xs.length) (h2 : k < s.length), xs[k] = ((s[k] : Nat) : Int) ∧ 1 ≤ s[k]) := Lib.hid (by
        obtain ⟨t, ht, rfl⟩ := validB_some hvb.1
        rw [toNat_map] at hsd
        subst hsd
        exact ⟨by simp, fun k h h2 => ⟨by simp, (ht.2.2 _ (List.getElem_mem h2)).1⟩⟩)
      have HSD := Lib.hid hsd
      clear hvb hsd hft1 hft2 hlb HBad
      go_upto_region 3 with fail
      go_wp2_with (first
        | (at_make; refine wpList_make_full _ rfl _ _ 41 rfl W2.heap.size 127 i0 (.agg #[.int .u8 0, .int .u16 0]) 2 Try.underlying41 hi hz0 hz1 .i64 .i64 _ _ 512 rfl rfl rfl rfl ?c1 ?c2 ?c3 ?_))
      case c1 => rw [‹i0.bytes = 4›]; omega
      case c2 => unfold maxLen; omega
      case c3 => exact Nat.le_refl _
      intro W3 hown hg3
      have hS0 : LdS W2.heap.size W2.heap.size W2 (loadTo bs s L 0 0) W3 := by
        rw [loadTo_start]
        refine ⟨?_, (Below.refl _ _).grown hg3 (Nat.le_refl _) (fun k hk => by cases hk), Nat.le_refl _⟩
        rw [show (cellRows (List.replicate 512 (0, 0))) = List.replicate 512 [.int .u8 0, .int .u16 0] by simp only [cellRows, List.map_replicate]; rfl]
        rw [show (madeCells #[Value.int .u8 0, .int .u16 0] 1024).toList = (List.replicate 512 [Value.int .u8 0, .int .u16 0]).flatten from made_rows [.int .u8 0, .int .u16 0] 512] at hown
        exact hown
      have P2 := cell_later hS0.below p2
      clear hown hg3
      go_wp2_with fail
      go_loopw [27] (fun cc wr => ∃ k : Nat, k ≤ L.length ∧ cc = .int .i64 k ∧ LdS W2.heap.size W2.heap.size W2 (loadTo bs s L k 0) wr) (fun cc _ => L.length - (intOf cc).toNat)
      case atStart => exact ⟨0, by omega, rfl, hS0⟩
      case round =>
        clear hS0 P2
        obtain ⟨k, hk, rfl, hS⟩ := hrel
        have P2 := cell_later hS.below p2
        have L0 := cell_later hS.below l0
        by_cases hlt : k < L.length
        · have hkx : k < xs.length := by have := HL.out; omega
          have hks : k < s.length := by have := hsx.out.1; omega
          have hkb : k < bs.length := by have := hLV.out.1; omega
          obtain ⟨bd, od, rfl, hdc⟩ := hd2.some hlt
          obtain ⟨a2, c2, dc1, dn⟩ := hdc k hlt
          have dc0 := cell_later hS.below dc1
          obtain ⟨bl, ol, rfl, hlc⟩ := (hl2.later hS.below).some hkb
          have lc0 := hlc k hkb
          have i6 : bl < W2.heap.size := by
            rcases hl2 with h | ⟨b', o', ha, h⟩
            · rw [h] at hkb; simp at hkb
            · cases ha; exact World.block_lt_of_cell? _ _ (h k hkb)
          clear hdc hlc dc1
          have hfk := HFA.out k hlt hkx
          have hxk := hsx.out.2 k hkx hks
          have hH := ins_holds hLV.out.1 (bs := bs) (k := k) (j := s[k] - 1) hks (by omega)
          have hH0 := ins_holds hLV.out.1 (bs := bs) (k := k) (j := 0) hks (by omega)
          obtain ⟨_, h512⟩ := holds_range hLV.out hH
          obtain ⟨hge, _⟩ := holds_range hLV.out hH0
          obtain ⟨b, hb⟩ : ∃ b : Nat, bs.getD k 0 = (b : Int) := ⟨(bs.getD k 0).toNat, by omega⟩
          have hlL : L[k].length ≤ s[k] := by omega
          have HSp := Lib.hid (loadTo_splice hLV.out hlt hks hb hlL (by omega))
          have hgd : bs.getD k 0 = bs[k] := getD_at bs 0 hkb
          rw [hb] at hgd
          rw [← hgd] at lc0
          have hfit : b + L[k].length ≤ 512 := by omega
          have hb512 : b < 512 := by omega
          clear hH hH0 h512 hge hgd hxk hfk hlL hb
          have HN := Lib.hid (fun W (h : Below W2.heap.size W2 W) => word_Numbers a2 L[k] c2 W (by omega) (dn.later h))
          clear dn
          generalize L[k] = l at *
          have i1 : (k : Int) < (L.length : Int) := by omega
          have i2 : 0 ≤ (k : Int) := by omega
          have i3 : (k : Int) < (bs.length : Int) := by omega
          have i4 : (b : Int) ≤ 512 := by omega
          have i5 : 0 ≤ (b : Int) := by omega
          have own := hS.own.drew
          have hsz := cell_size
          have bel := hS.below.drew
          go_upto_region 7 with fail
          go_region_held_law (fun W => W.cell? ⟨w.heap.size + 1, 0, none⟩ = some (.slice (some ⟨bl, ol, none⟩) bs.length lc) ∧ W.cell? ⟨bl, ol + k, none⟩ = some (.int .i64 (b : Int)))
            (first
              | exact ⟨L0, lc0⟩
              | assumption
              | exact ⟨cell_later hb5 (by go_split_ands; assumption), cell_later hb5 (by go_split_ands; assumption)⟩
              | exact ⟨hg6.cell (by go_split_ands; assumption) (fun e => by have e2 : w.heap.size + 1 = W2.heap.size := Option.some.inj e; omega), hg6.cell (by go_split_ands; assumption) (fun e => by have e2 : bl = W2.heap.size := Option.some.inj e; omega)⟩)
            (first
              | (go_at_call 87; refine (HN.out _ bel).mono ?_; rintro e W5 ⟨a5, c5, rfl, hC5, hb5⟩)
              | (refine step_copy_wide (by rfl) _ _ _ _ (by rfl) 127 2 Try.underlying41 hsz _ _ _ _ _ _ _ (by rfl) (by rfl) W2.heap.size 512 _ (own.later2 hb5) l.length (by simp [numsOf]; exact (Nat.min_eq_left (by omega)).symm) (cellRows (numsOf l)).flatten (by rw [length_flatten (wide_cells _), length_cellRows]; simp [numsOf]) (cells_src hC5) (by rw [length_flatten (wide_cells _), length_cellRows]; simp [numsOf]; omega) (cells_one _) ?_; intro W6 hown6 hg6))
          have own6 := hown6.out
          rw [cellRows_splice, HSp.out] at own6
          have R6 : Hid (LdS W2.heap.size W2.heap.size W2 (loadTo bs s L (k + 1) 0) W6) := Lib.hid ⟨own6, (bel.trans (hb5.mono bel.size)).grown hg6 (by have := bel.size; have := hb5.size; omega) (fun j hj => by cases hj; exact Nat.le_refl _), Nat.le_refl _⟩
          clear own6 hown6 hg6 own bel hb5 hC5 hS P2 L0 dc0 lc0
          go_wp2
          go_roundw
          case rel => exact ⟨k + 1, by omega, by go_num, R6.out⟩
          case measure => simp [intOf]; omega
        · obtain rfl : k = L.length := by omega
          have HE := Lib.hid (memory_emptyLines wr)
          go_wp2_with fail
          refine HE.out.mono ?_
          rintro e W7 ⟨g, cl, rfl, hown7, hb7⟩
          have hB7 := hB2.trans ((hS.below.trans (hb7.mono hS.below.size)).mono hB2.size)
          have own7 := hS.own.later2 hb7
          have br7 := (br.later hS.below).later hb7
          have r0 := (br7 0 (by simp)).1
          have r1 := (br7 1 (by simp)).1
          have fr0 := (br7 0 (by simp)).2
          have fr1 := (br7 1 (by simp)).2
          have hW7 := hb7.size
          have hWr := hS.below.size
          have g1 := grownBy_cell W7 (w.heap.size + 1 + 1) 0 (.slice (some ⟨W2.heap.size, 0, none⟩) 512 512)
          have g2 := grownBy_cell (W7.setCell ⟨w.heap.size + 1 + 1, 0, none⟩ (.slice (some ⟨W2.heap.size, 0, none⟩) 512 512)) (w.heap.size + 1 + 1) 1 (.slice (some ⟨g, 0, none⟩) 4 cl)
          have hgb := (hown7.lt g rfl).1
          have own8 := (own7.kept g1 (.inr (fun e => by have e2 : W2.heap.size = w.heap.size + 1 + 1 := Option.some.inj e; omega))).kept g2 (.inr (fun e => by have e2 : W2.heap.size = w.heap.size + 1 + 1 := Option.some.inj e; omega))
          have lin8 := (hown7.kept g1 (.inr (fun e => by have e2 : g = w.heap.size + 1 + 1 := Option.some.inj e; omega))).kept g2 (.inr (fun e => by have e2 : g = w.heap.size + 1 + 1 := Option.some.inj e; omega))
          have hC := cells_rows0 (length_loadTo _ _ _ _ _) own8
          obtain ⟨hn3, al, cl2, hv2, hR, hn4⟩ := RowsAt.of_row (by omega) wide_empty lin8
          have HW := Lib.hid ((hB7.setCell (p := ⟨w.heap.size + 1 + 1, 0, none⟩) (by simp; omega) (.slice (some ⟨W2.heap.size, 0, none⟩) 512 512)).setCell (p := ⟨w.heap.size + 1 + 1, 1, none⟩) (by simp; omega) (.slice (some ⟨g, 0, none⟩) 4 cl))
          have HG : Hid (GivesLoadF bs xs L w (.returned (.tuple #[.agg #[.slice (some ⟨W2.heap.size, 0, none⟩) 512 512, .slice (some ⟨g, 0, none⟩) 4 cl], .int .i64 0])) ((W7.setCell ⟨w.heap.size + 1 + 1, 0, none⟩ (.slice (some ⟨W2.heap.size, 0, none⟩) 512 512)).setCell ⟨w.heap.size + 1 + 1, 1, none⟩ (.slice (some ⟨g, 0, none⟩) 4 cl))) :=
            Lib.hid ⟨HW.out, .inr ⟨HO.out, _, _, _, _, rfl, by rw [← HSD.out]; exact hC, by
              simp only [Value.slice.injEq] at hv2
              obtain ⟨rfl, _, _⟩ := hv2
              exact .of_empty hR, by have := (own8.lt W2.heap.size rfl).1; omega, by have := (lin8.lt g rfl).1; omega⟩⟩
          clear own7 own8 lin8 hC hn3 hn4 hv2 hR g1 g2 hS hown7 hb7 hB7 br7 P2 L0
          go_wp2
          refine bodyPost_ret (v := .tuple #[.agg #[.slice (some ⟨W2.heap.size, 0, none⟩) 512 512, .slice (some ⟨g, 0, none⟩) 4 cl], .int .i64 0]) (by simp [results, Try.results50, go_sem, r0, r1]) rfl HG.out

theorem memory_Load (ka sa la da : Option Addr) (kn kc sc dc lc : Nat) (xs bs : List Int) (L : List (List Nat)) (key : Int) (w : World) (hs : IntsAt .i64 w sa xs) (hl : IntsAt .i64 w la bs) (hd : DataAt w da L)
    (lx : xs.length ≤ 1000000) (lb : bs.length ≤ 1000000) (ld : L.length ≤ 1000000000) (le : ∀ l ∈ L, l.length ≤ 1000000000) :
    Calls Try.prog 50 #[.agg #[.slice ka kn kc, .slice sa xs.length sc, .slice da L.length dc], .agg #[.slice la bs.length lc, .int .u16 key]] w (GivesLoad bs xs L w) :=
  (memory_LoadF ka sa la da kn kc sc dc lc xs bs L key w hs hl hd lx lb ld le).mono fun _ _ h => h.weak
end Go.Proofs.Ythajndgljfbifaa
