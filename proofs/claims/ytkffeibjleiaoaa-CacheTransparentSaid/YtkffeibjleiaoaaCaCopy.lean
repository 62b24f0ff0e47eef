/-
  Contracts: slices.Clone of cells and of lines; Copy of a memory, both the program's and the document's.
-/
import Derived.Test.YtkffeibjleiaoaaCaOwn
import Derived.OwnWalk
import Derived.Lib.SliceRun
import Derived.RegionTactic
import Derived.Laws.AppendOwnNone
import Derived.Deep.AppendLies
namespace Go.Proofs.Ytkffeibjleiaoaa
open Go.RowKit

set_option maxHeartbeats 1000000 in
theorem slices_Clone_cells (a : Option Addr) (xs : List (Nat × Nat)) (ca : Nat) (w : World) (ha : CellsAt w a xs) (lx : xs.length ≤ 1000000) :
    Calls Try.prog 46 #[.slice a xs.length ca] w fun e w' => ∃ ad c, e = .returned (.slice ad xs.length c) ∧ w'.ownsRow w.heap.size 25 2 (.slice ad xs.length c) xs.length (cellRows xs).flatten ∧ Below w.heap.size w w' := by
  have q := fun (w : World) (a : Option Addr) (n c n' c' : Nat) => Lib.run_eql_slice_nil (P := Try.prog) w _ _ a n c n' c' Try.underlying28
  cases a with
  | none =>
    obtain rfl : xs = [] := by
      rcases ha with h | ⟨_, _, h, _⟩
      · exact h
      · cases h
    go_enter Try.func46, Try.ntmps46
    go_wp2
    go_ret
    exact ⟨_, _, rfl, World.ownsRow_nil _ _ _ _, Below.refl _ _⟩
  | some ad =>
    obtain ⟨i0, hi, hz0, hz1, hz2⟩ := info_parts info_cell4
    have hsrc : ∀ j u, (cellRows xs).flatten[j]? = some u → w.cell? (ad.add j) = some u := by
      rcases cells_src ha with h | ⟨ad2, h2, h3⟩
      · intro j u hj; rw [h] at hj; simp at hj
      · cases h2; exact h3
    have hlen : (cellRows xs).flatten.length = xs.length * 2 := by rw [length_flatten (wide_cells xs), length_cellRows]
    have hone := cells_one xs
    have hof : ∀ (W : World) (v : Value), W.ownsRow w.heap.size 25 2 v xs.length (cellRows xs).flatten → ∃ ad c, v = .slice ad xs.length c := fun W v h => by
      obtain ⟨_, a, c, h1, _⟩ := CellsAt.of_own h
      exact ⟨a, c, h1⟩
    have HOF := Lib.hid hof
    clear ha hof
    generalize (cellRows xs).flatten = R at *
    go_enter Try.func46, Try.ntmps46
    go_wp2_with (at_builtin; refine wpList_append_own _ rfl _ _ 28 rfl w.heap.size 25 i0 (.agg #[.int .u8 0, .int .u16 0]) 2 4 Try.underlying28 hi hz0 hz1 hz2 rfl (by decide) _ _ _ rfl (World.ownsRow_made w #[] 0 (Nat.le_refl _) (Nat.zero_le _) rfl) ad xs.length ca R rfl ?qc1 ?qc2 ?qc3 ?qc4 ?qc5 ?qc6 ?_)
    case qc1 => exact hlen
    case qc2 => exact fun j u hj => Lib.cell?_alloc_some _ (hsrc j u hj)
    case qc3 => exact hone
    case qc4 => unfold maxLen; omega
    case qc5 => omega
    case qc6 => simp
    intro v' w1 hown hgrow hnil
    have hown : w1.ownsRow w.heap.size 25 2 v' xs.length R := by simpa using hown
    obtain ⟨ad2, c2, rfl⟩ := HOF.out _ _ hown
    go_wp2
    go_ret
    refine ⟨ad2, c2, rfl, hown, ?_⟩
    exact ((Below.refl _ w).alloc (Nat.le_refl _) _).grown hgrow (by simp) (by intro k hk; simp [Value.ownBlock] at hk; omega)

set_option maxHeartbeats 1000000 in
theorem slices_Clone_lines (a : Option Addr) (ls : List MLine) (vs : List Value) (ca : Nat) (w : World) (hl : vs.length = ls.length) (ha : RowsAt 0 w a 3 (lineRows ls vs)) (hv : ∀ v ∈ vs, v.oneCell' = true) (lx : ls.length ≤ 1000000) (h0 : 0 < ls.length) :
    Calls Try.prog 48 #[.slice a ls.length ca] w fun e w' => ∃ h ch, e = .returned (.slice (some ⟨h, 0, none⟩) ls.length ch) ∧ w'.ownsRow w.heap.size 53 3 (.slice (some ⟨h, 0, none⟩) ls.length ch) ls.length (lineRows ls vs).flatten ∧ Below w.heap.size w w' := by
  have q := fun (w : World) (a : Option Addr) (n c n' c' : Nat) => Lib.run_eql_slice_nil (P := Try.prog) w _ _ a n c n' c' Try.underlying29
  cases a with
  | none =>
    exfalso
    rcases ha with h | ⟨_, _, h, _⟩
    · have := length_lineRows ls vs hl
      rw [h] at this
      simp at this
      omega
    · cases h
  | some ad =>
    obtain ⟨i0, hi, hz0, hz1, hz2⟩ := info_parts info_line
    have hsrc := rows_src (by omega) (wide_lines ls vs) ha
    have hlen : (lineRows ls vs).flatten.length = ls.length * 3 := by rw [length_flatten (wide_lines ls vs), length_lineRows _ _ hl]
    have hone := lines_one ls vs hv
    clear ha
    generalize (lineRows ls vs).flatten = R at *
    go_enter Try.func48, Try.ntmps48
    go_wp2_with (at_builtin; refine wpList_append_own _ rfl _ _ 29 rfl w.heap.size 53 i0 (.agg #[.int .i64 0, .bool false, .slice none 0 0]) 3 40 Try.underlying29 hi hz0 hz1 hz2 rfl (by decide) _ _ _ rfl (World.ownsRow_made w #[] 0 (Nat.le_refl _) (Nat.zero_le _) rfl) ad ls.length ca R rfl ?qc1 ?qc2 ?qc3 ?qc4 ?qc5 ?qc6 ?_)
    case qc1 => exact hlen
    case qc2 => exact fun j u hj => Lib.cell?_alloc_some _ (hsrc j u hj)
    case qc3 => exact hone
    case qc4 => unfold maxLen; omega
    case qc5 => omega
    case qc6 => simp
    intro v' w1 hown hgrow hnil
    obtain ⟨g, cap, rfl, _, _⟩ := hown.form h0
    go_wp2
    go_ret
    refine ⟨g, cap, rfl, by simpa using hown, ?_⟩
    exact ((Below.refl _ w).alloc (Nat.le_refl _) _).grown hgrow (by simp) (by intro k hk; simp [Value.ownBlock] at hk; omega)

/-- While the lines are copied: k of them have cells of the call's own. -/
structure CopyS (B : Nat) (W : World) (v : Value) (n : Nat) (vs : List Value) (ls : List MLine) (k : Nat) : Prop where
  lines : W.ownsRow B 53 3 v n (lineRows ls vs).flatten
  vlen : vs.length = n
  le : n ≤ ls.length
  each : ∀ i (_ : i < k) (h2 : i < ls.length) (h3 : i < vs.length), W.ownsRow B 25 2 vs[i] ls[i].cells.length (cellRows ls[i].cells).flatten ∧ (vs[i].ownBlock = none ∨ vs[i].ownBlock ≠ v.ownBlock)
  apart : ∀ i j (_ : i < k) (_ : j < k) (h1 : i < vs.length) (h2 : j < vs.length), i ≠ j → vs[i].ownBlock = none ∨ vs[i].ownBlock ≠ vs[j].ownBlock

section copy
variable {B n k : Nat} {W W' : World} {v : Value} {vs : List Value} {ls : List MLine}

theorem CopyS.later (H : CopyS B W v n vs ls k) (hb : Below W.heap.size W W') : CopyS B W' v n vs ls k :=
  ⟨H.lines.late hb, H.vlen, H.le, fun i h1 h2 h3 => ⟨(H.each i h1 h2 h3).1.late hb, (H.each i h1 h2 h3).2⟩, H.apart⟩

theorem new_block {C : Nat} {T : TypeId} {v u : Value} {n q : Nat} {xs ys : List Value} {W : World} (h : W.ownsRow B T q v n xs) {W5 : World} {r : Nat} (h5 : W5.ownsRow C 25 2 u r ys) (hC : W.heap.size ≤ C) : v.ownBlock = none ∨ v.ownBlock ≠ u.ownBlock := by
  by_cases e : v.ownBlock = none
  · exact .inl e
  · obtain ⟨g, hg⟩ := Option.ne_none_iff_exists'.1 e
    refine .inr (fun e2 => ?_)
    have h1 := (h.lt g hg).2
    have h2 := (h5.lt g (e2 ▸ hg)).1
    omega

theorem CopyS.there {h ch : Nat} (H : CopyS B W (.slice (some ⟨h, 0, none⟩) n ch) n vs ls k) (q : Nat) (hq : q < n) : (∃ u, W.cell? ⟨h, q * 3 + 2, none⟩ = some u) ∧ W.frozen? ⟨h, q * 3 + 2, none⟩ = false := by
  have hv := H.vlen
  have hl := H.le
  refine ⟨?_, H.lines.frozenAt _⟩
  rw [H.lines.cellAt (q * 3 + 2) (by omega), lineRows_get _ _ q 2 (by omega) (by omega) (by omega)]
  exact ⟨_, rfl⟩

/-- Line k gets its own cells. -/
theorem CopyS.set {h ch : Nat} (H : CopyS B W (.slice (some ⟨h, 0, none⟩) n ch) n vs ls k) (hk : k < n) (hb : Below W.heap.size W W') (hB : B ≤ W.heap.size) {u : Value} {hkl : k < ls.length}
    (hu : W'.ownsRow W.heap.size 25 2 u ls[k].cells.length (cellRows ls[k].cells).flatten) : CopyS B (W'.setCell ⟨h, k * 3 + 2, none⟩ u) (.slice (some ⟨h, 0, none⟩) n ch) n (vs.set k u) ls (k + 1) := by
  have hv := H.vlen
  have H' := H.later hb
  have hk2 : k < vs.length := by omega
  have hg := grownBy_cell W' h (k * 3 + 2) u
  have hs := (H'.lines.stored (k * 3 + 2) u).1
  have hh := H.lines.lt h rfl
  have e : (lineRows ls vs).set k (lineRow ls[k] u) = lineRows ls (vs.set k u) := by
    rw [lineRows_set, List.set_getElem_self]
  rw [line_cell ls vs k 2 u hkl hk2 (by omega), show (lineRow ls[k] vs[k]).set 2 u = lineRow ls[k] u from rfl, e] at hs
  have hne : u.ownBlock = none ∨ u.ownBlock ≠ some h := by
    by_cases e9 : u.ownBlock = none
    · exact .inl e9
    · exact .inr (fun e8 => by have := (hu.lt h e8).1; omega)
  refine ⟨hs, by simpa using hv, H.le, fun i h1 h2 h3 => ?_, fun i j h1 h2 h3 h4 hij => ?_⟩
  · by_cases e : k = i
    · subst e
      simp only [List.getElem_set, if_pos]
      exact ⟨(hu.mono hB).kept hg hne, hne⟩
    · simp only [List.getElem_set, if_neg e]
      obtain ⟨h5, h6⟩ := H'.each i (by omega) h2 (by simpa using h3)
      exact ⟨h5.kept hg h6, h6⟩
  · simp only [List.getElem_set]
    by_cases e1 : k = i
    · rw [if_pos e1, if_neg (by omega)]
      have hj := (H.each j (by omega) (by have := H.le; omega) (by simpa using h4)).1
      rcases new_block hj hu (Nat.le_refl _) with h7 | h7
      · by_cases h8 : u.ownBlock = none
        · exact .inl h8
        · exact .inr (fun h9 => h8 (by rw [h9, h7]))
      · exact .inr (fun h9 => h7 h9.symm)
    · rw [if_neg e1]
      by_cases e2 : k = j
      · rw [if_pos e2]
        exact new_block (H.each i (by omega) (by have := H.le; omega) (by simpa using h3)).1 hu (Nat.le_refl _)
      · rw [if_neg e2]
        exact H.apart i j (by omega) (by omega) (by simpa using h3) (by simpa using h4) hij

/-- Behind the last line. -/
theorem CopyS.own {h ch g cg : Nat} {cs : List (Nat × Nat)} (H : CopyS B W (.slice (some ⟨h, 0, none⟩) 4 ch) 4 vs ls 4) (hl : ls.length = 4) (hc : W.ownsRow B 25 2 (.slice (some ⟨g, 0, none⟩) 512 cg) 512 (cellRows cs).flatten)
    (hne : g ≠ h) (hg : ∀ i (h1 : i < vs.length), vs[i].ownBlock ≠ some g) : OwnM B W g cg h ch vs ⟨cs, ls⟩ := by
  have hv := H.vlen
  refine ⟨hc, H.lines, ⟨hl, hv⟩, hne, fun i h1 h2 => ?_, fun i j h1 h2 hij => H.apart i j (by omega) (by omega) h1 h2 hij⟩
  have h1b : i < ls.length := h1
  obtain ⟨h3, h4⟩ := H.each i (by omega) h1b h2
  refine ⟨h3, hg i h2, fun e => ?_⟩
  rcases h4 with h4 | h4
  · rw [h4] at e; cases e
  · exact h4 e
end copy

/-- The call returns a copy in memory of its own. -/
def GivesCopy (m : Mem) (w : World) (e : Ending) (w' : World) : Prop :=
  ∃ g cg h ch vs, e = .returned (.agg #[.slice (some ⟨g, 0, none⟩) 512 cg, .slice (some ⟨h, 0, none⟩) 4 ch]) ∧ OwnM w.heap.size w' g cg h ch vs m ∧ Below w.heap.size w w'

set_option maxHeartbeats 2000000 in
theorem memory_Copy (a al : Option Addr) (ca cl : Nat) (m : Mem) (w : World) (hM : MemAt w a al m) (hV : MV m) : Calls Try.prog 40 #[.agg #[.slice a 512 ca, .slice al 4 cl]] w (GivesCopy m w) := by
  have bm := (Blk.new (W := w) #[.slice a 512 ca, .slice al 4 cl] 31).kept (World.grownBy_alloc (w.alloc (.cells #[.slice a 512 ca, .slice al 4 cl] 31)) (.cells #[.slice none 0 0, .slice none 0 0] 31) none) (by simp)
  have br := Blk.new (W := w.alloc (.cells #[.slice a 512 ca, .slice al 4 cl] 31)) #[.slice none 0 0, .slice none 0 0] 31
  have hs1 : (w.alloc (.cells #[.slice a 512 ca, .slice al 4 cl] 31)).heap.size = w.heap.size + 1 := by simp
  have hs2 : ((w.alloc (.cells #[.slice a 512 ca, .slice al 4 cl] 31)).alloc (.cells #[.slice none 0 0, .slice none 0 0] 31)).heap.size = w.heap.size + 2 := by simp
  rw [hs1] at br
  have hB := Below.alloc (Below.alloc (Below.refl w.heap.size w) (Nat.le_refl _) (.cells #[.slice a 512 ca, .slice al 4 cl] 31)) (by rw [hs1]; omega) (.cells #[.slice none 0 0, .slice none 0 0] 31)
  have hM0 := hM.later hB
  clear hs1 hM
  go_enter Try.func40, Try.ntmps40
  go_upto_region 1 with fail
  generalize (w.alloc (.cells #[.slice a 512 ca, .slice al 4 cl] 31)).alloc (.cells #[.slice none 0 0, .slice none 0 0] 31) = W0 at *
  obtain ⟨vs0, hvl, hrow, hval⟩ := lines_values hM0.2
  have hv1 : ∀ v ∈ vs0, v.oneCell' = true := fun v hv => by
    obtain ⟨i, hi, rfl⟩ := List.getElem_of_mem hv
    obtain ⟨_, _, he, _⟩ := hval i (by omega) hi
    rw [he]; rfl
  have h4 := hV.lines
  have HL := slices_Clone_lines al m.lines vs0 cl W0 hvl hrow hv1 (by omega) (by omega)
  rw [h4] at HL
  have HL := Lib.hid HL
  have H4 := Lib.hid h4
  have H5 := Lib.hid hV.len
  have m0 := (bm 0 (by simp)).1
  have m1 := (bm 1 (by simp)).1
  have bm0 := Lib.hid bm
  clear hrow hval hv1
  go_wp2_with fail
  refine HL.out.mono ?_
  rintro e W1 ⟨h, ch, rfl, hown, hb1⟩
  have m0 := cell_later hb1 m0
  have m1 := cell_later hb1 m1
  have hB1 := hB.trans (hb1.mono (by omega))
  have HS0 : CopyS W0.heap.size W1 (.slice (some ⟨h, 0, none⟩) 4 ch) 4 vs0 m.lines 0 := ⟨hown, by omega, by omega, fun i hi => by omega, fun i j hi => by omega⟩
  have hh := (hown.lt h rfl)
  clear HL hown
  go_wp2_with fail
  go_loopw [12] (fun c wr => ∃ (k : Nat) (vs : List Value), k ≤ 4 ∧ c = .int .i64 k ∧ CopyS W0.heap.size wr (.slice (some ⟨h, 0, none⟩) 4 ch) 4 vs m.lines k ∧ Below W0.heap.size W0 wr) (fun c _ => 4 - (intOf c).toNat)
  case atStart => exact ⟨0, vs0, by omega, rfl, HS0, hb1⟩
  case round =>
    clear HS0 m0 m1 bm
    obtain ⟨k, vs, hk, rfl, HS, hb⟩ := hrel
    by_cases hlt : k < 4
    · have hkl : k < m.lines.length := by have := H4.out; omega
      obtain ⟨b, o, rfl, hc⟩ := (hM0.2.later hb).some hkl
      obtain ⟨c0, c1, a2, k2, c2, hcx⟩ := hc k hkl
      have hx4 := hV.short _ (List.getElem_mem hkl)
      have i1 : (k : Int) < 4 := by omega
      have i2 : 0 ≤ (k : Int) := by omega
      clear hc
      have hu := Lib.hid (fun (u : Value) (W' : World) (hb9 : Below wr.heap.size wr W') (hu : W'.ownsRow wr.heap.size 25 2 u m.lines[k].cells.length (cellRows m.lines[k].cells).flatten) => HS.set (hkl := hkl) hlt hb9 hb.size hu)
      have HS := Lib.hid HS
      generalize m.lines[k] = x at *
      have hA := Below.alloc (Below.refl wr.heap.size wr) (Nat.le_refl _) (.cells #[.int .i64 x.tag, .bool x.dirty, .slice a2 x.cells.length k2] 53)
      have bx := Blk.new (W := wr) #[.int .i64 x.tag, .bool x.dirty, .slice a2 x.cells.length k2] 53
      have HC := Lib.hid (slices_Clone_cells a2 x.cells k2 _ (hcx.later hA) (by omega))
      clear hcx
      go_upto_region 5 with fail
      clear c0 c1 c2
      have hsz : (wr.alloc (.cells #[.int .i64 x.tag, .bool x.dirty, .slice a2 x.cells.length k2] 53)).heap.size = wr.heap.size + 1 := by simp
      generalize wr.alloc (.cells #[.int .i64 x.tag, .bool x.dirty, .slice a2 x.cells.length k2] 53) = W2 at *
      have x2 := (bx 2 (by simp)).1
      go_wp2_with (go_at_call 46; (with_reducible refine HC.out.mono ?_); rintro e W3 ⟨a3, c3, rfl, hown3, hb3⟩; have hb9 := Lib.hid (hA.trans (hb3.mono hA.size)); obtain ⟨⟨u, q1⟩, q2⟩ := (HS.out.later hb9.out).there k hlt)
      have R1 := Lib.hid (hu.out _ _ hb9.out (hown3.mono (by omega)))
      have R2 := Lib.hid ((hb.trans (hb9.out.mono hb.size)).setCell (p := ⟨h, k * 3 + 2, none⟩) hh.1 (.slice a3 x.cells.length c3))
      clear hb9 hb3 hown3 hA hsz hu HS bx x2
      go_wp2
      go_roundw
      case rel => exact ⟨k + 1, _, by omega, by go_num, R1.out, R2.out⟩
      case measure => simp [intOf]; omega
    · obtain rfl : k = 4 := by omega
      have bm := bm0.out.later hb
      have br := br.later hb
      have m0 := (bm 0 (by simp)).1
      have HC := slices_Clone_cells a m.cells ca wr (hM0.1.later hb) (by have := H5.out; omega)
      rw [H5.out] at HC
      have HC := Lib.hid HC
      have HS := Lib.hid HS
      have hsz := hb.size
      clear bm hM0
      go_wp2_with fail
      refine HC.out.mono ?_
      rintro e W5 ⟨ag, cg, rfl, hown5, hb5⟩
      obtain ⟨g, cg', he, hg1, hg2⟩ := hown5.form (by omega)
      simp only [Value.slice.injEq, true_and] at he
      obtain ⟨rfl, rfl⟩ := he
      have br := br.later hb5
      have r0 := (br 0 (by simp)).1
      have r1 := (br 1 (by simp)).1
      have f0 := (br 0 (by simp)).2
      have f1 := (br 1 (by simp)).2
      have hB5 := hB.trans ((hb.trans (hb5.mono hb.size)).mono (by omega))
      have HW := Lib.hid ((hB5.setCell (p := ⟨w.heap.size + 1, 0, none⟩) (by simp) (.slice (some ⟨g, 0, none⟩) 512 cg)).setCell (p := ⟨w.heap.size + 1, 1, none⟩) (by simp) (.slice (some ⟨h, 0, none⟩) 4 ch))
      have HO : OwnM W0.heap.size W5 g cg h ch vs m := (HS.out.later hb5).own H4.out (hown5.mono hsz) (by have := (HS.out.lines.lt h rfl).2; omega) (fun i h1 e => by
        have h9 := (HS.out.each i (by have := HS.out.vlen; omega) (by have := HS.out.vlen; have := H4.out; omega) h1).1.lt g e
        omega)
      have HO : Hid (GivesCopy m w (.returned (.agg #[.slice (some ⟨g, 0, none⟩) 512 cg, .slice (some ⟨h, 0, none⟩) 4 ch])) ((W5.setCell ⟨w.heap.size + 1, 0, none⟩ (.slice (some ⟨g, 0, none⟩) 512 cg)).setCell ⟨w.heap.size + 1, 1, none⟩ (.slice (some ⟨h, 0, none⟩) 4 ch))) :=
        Lib.hid ⟨g, cg, h, ch, vs, rfl, ((HO.far (grownBy_cell _ _ _ _) (by omega)).far (grownBy_cell _ _ _ _) (by omega)).mono (by omega), HW.out⟩
      clear HW hB5 hown5 hb5 HS HC br hg1 hg2
      go_wp2
      refine bodyPost_ret (v := .agg #[.slice (some ⟨g, 0, none⟩) 512 cg, .slice (some ⟨h, 0, none⟩) 4 ch]) (by simp [results, Try.results40, go_sem, r0, r1]) rfl HO.out

theorem run_append_nil_any {P : Program} (w : World) (t ty e : TypeId) (i : TypeInfo) (c : Nat) (ht : P.underlying t = some (.slice e)) (hi : P.info? e = some i) :
    (Builtin.append_ #[t, t] ty #[.slice none 0 0, .slice none 0 c]).run P w = .ok (.slice none 0 0) w := by
  simp [Builtin.append_, run_underlying ht, sizeOf, typeInfo, hi, Builtin.lenOf, Builtin.firstCells]

/-- append onto nil: what comes is of the call's own. -/
theorem wpList_append_nil {P : Program} (w : World) {ops : Array Oper} {rest : List Oper} {o : Oper} {a : Act} {Q : Exit → Act → World → Prop} (hgd : o.guard = none) (s x : Operand) (t : TypeId)
    (ho : o.op = .call { callee := .builtin .append, args := #[s, x], argTypes := #[t, t] })
    (e : TypeId) (i : TypeInfo) (z : Value) (size bytes : Nat) (ht : P.underlying t = some (.slice e)) (hi : P.info? e = some i) (hz : i.zero = some z)
    (hsize : i.size = size) (hby : i.bytes = bytes) (hzs : z.cells.size = size) (hsz : 0 < size)
    (hs : a.eval s = .slice none 0 0) (ad : Option Addr) (m c : Nat) (hx : a.eval x = .slice ad m c) (news : List Value) (hl : news.length = m * size)
    (hnews : news = [] ∨ ∃ b, ad = some b ∧ ∀ j u, news[j]? = some u → w.cell? (b.add j) = some u) (h1 : ∀ u ∈ news, u.oneCell' = true) (h63 : m ≤ maxLen) (hbytes : m * bytes ≤ 140737488355328)
    (h : ∀ ad' c' w', w'.ownsRow w.heap.size e size (.slice ad' m c') m news → w.grownBy w' none → wpList P ops Q rest (a.put o.dst (.slice ad' m c')) w') : wpList P ops Q (o :: rest) a w := by
  cases ad with
  | none =>
    have hnil : news = [] := by
      rcases hnews with h | ⟨_, h, _⟩
      · exact h
      · cases h
    subst hnil
    have hm : m = 0 := by
      rcases Nat.eq_zero_or_pos m with h | h
      · exact h
      · have := Nat.mul_pos h hsz; simp at hl; omega
    subst hm
    refine wpList_plain hgd fun K hK => ?_
    have hrun := run_append_nil_any (P := P) w t o.type e i c ht hi
    unfold Oper.wp
    simp [execOp, ho, resolve, invoke, builtin, hs, hx, hrun, Result.andThen]
    exact hK _ _ (h none 0 w (World.ownsRow_nil _ _ _ _) ⟨rfl, rfl, rfl, Nat.le_refl _, fun _ _ _ => rfl⟩)
  | some b =>
    have hn : ∀ j u, news[j]? = some u → w.cell? (b.add j) = some u := by
      rcases hnews with h | ⟨b', h2, h3⟩
      · intro j u hj; rw [h] at hj; simp at hj
      · cases h2; exact h3
    refine wpList_append_own w hgd s x t ho w.heap.size e i z size bytes ht hi hz hsize hby hzs hsz _ 0 [] hs (World.ownsRow_nil _ _ _ _) b m c news hx hl hn h1 (by omega) (by rw [Nat.zero_add]; exact hbytes) (Nat.le_refl _) ?_
    intro v' w' hown hg hnil
    rw [Nat.zero_add, List.nil_append] at hown
    rcases hown.2 with ⟨rfl, h0⟩ | ⟨g, cap, cur, rfl, hrest⟩
    · subst h0; exact h none 0 w' hown hg
    · exact h _ _ w' hown hg

section copy2
variable {B k : Nat} {W W' : World} {v : Value} {vs : List Value} {ls : List MLine}

theorem CopyS.far (H : CopyS B W v k vs ls k) {r : Nat} (hg : W.grownBy W' (some r)) (hr : r < B) : CopyS B W' v k vs ls k := by
  have hv := H.vlen
  refine ⟨H.lines.kept hg (.inr (fun e => by have := (H.lines.lt r e).1; omega)), H.vlen, H.le, fun i h1 h2 h3 => ⟨(H.each i h1 h2 h3).1.kept hg (.inr (fun e => by have := ((H.each i h1 h2 h3).1.lt r e).1; omega)), (H.each i h1 h2 h3).2⟩, H.apart⟩

theorem lineRows_snoc (ls : List MLine) (vs : List Value) (u : Value) (hv : vs.length = k) (hk : k < ls.length) : lineRows ls (vs ++ [u]) = lineRows ls vs ++ [lineRow ls[k] u] := by
  subst hv
  unfold lineRows
  apply List.ext_getElem
  · simp; omega
  · intro i h1 h2
    simp at h1
    by_cases e : i < vs.length
    · rw [List.getElem_append_left (by simp; omega)]
      simp [e]
    · obtain rfl : i = vs.length := by omega
      rw [List.getElem_append_right (by simp; omega)]
      simp

/-- A line is appended. -/
theorem CopyS.snoc {g cap : Nat} (H : CopyS B W v k vs ls k) (hk : k < ls.length) {u : Value} (hu : W.ownsRow B 25 2 u ls[k].cells.length (cellRows ls[k].cells).flatten) (huv : u.ownBlock = none ∨ u.ownBlock ≠ v.ownBlock)
    (hua : ∀ i (h1 : i < vs.length), vs[i].ownBlock = none ∨ vs[i].ownBlock ≠ u.ownBlock) (hg : W.grownBy W' v.ownBlock) (hat : v.ownBlock = some g ∨ g = W.heap.size)
    (ho : W'.ownsRow B 53 3 (.slice (some ⟨g, 0, none⟩) (k + 1) cap) (k + 1) ((lineRows ls vs).flatten ++ lineRow ls[k] u)) : CopyS B W' (.slice (some ⟨g, 0, none⟩) (k + 1) cap) (k + 1) (vs ++ [u]) ls (k + 1) := by
  have hv := H.vlen
  have hnew : ∀ {x : Value} {r : Nat} {ys : List Value}, W.ownsRow B 25 2 x r ys → (x.ownBlock = none ∨ x.ownBlock ≠ v.ownBlock) → (x.ownBlock = none ∨ x.ownBlock ≠ some g) := by
    intro x r ys hx h1
    rcases h1 with h1 | h1
    · exact .inl h1
    · rcases hat with h2 | h2
      · rw [← h2]; exact .inr h1
      · exact .inr (fun e => by have := (hx.lt g e).2; omega)
  refine ⟨?_, by simp [hv], hk, fun i h1 h2 h3 => ?_, fun i j h1 h2 h3 h4 hij => ?_⟩
  · rw [lineRows_snoc ls vs u hv hk]
    simpa using ho
  · by_cases e : i < vs.length
    · rw [List.getElem_append_left e]
      obtain ⟨h5, h6⟩ := H.each i (by omega) h2 e
      exact ⟨h5.kept hg h6, hnew h5 h6⟩
    · obtain rfl : i = k := by omega
      rw [List.getElem_append_right (by omega)]
      simp only [hv, Nat.sub_self, List.getElem_cons_zero]
      exact ⟨hu.kept hg huv, hnew hu huv⟩
  · by_cases e1 : i < vs.length
    · rw [List.getElem_append_left e1]
      by_cases e2 : j < vs.length
      · rw [List.getElem_append_left e2]
        exact H.apart i j (by omega) (by omega) e1 e2 hij
      · rw [List.getElem_append_right (by omega)]
        simpa using hua i e1
    · rw [List.getElem_append_right (by omega)]
      by_cases e2 : j < vs.length
      · rw [List.getElem_append_left e2]
        simp only [List.getElem_singleton]
        rcases hua j e2 with h7 | h7
        · by_cases h8 : u.ownBlock = none
          · exact .inl h8
          · exact .inr (fun h9 => h8 (by rw [h9, h7]))
        · exact .inr (fun h9 => h7 h9.symm)
      · simp at h3 h4; omega
end copy2

set_option maxHeartbeats 2000000 in
theorem ref04_Copy (a al : Option Addr) (ca cl : Nat) (m : Mem) (w : World) (hM : MemAt w a al m) (hV : MV m) : Calls Try.prog 27 #[.agg #[.slice a 512 ca, .slice al 4 cl]] w (GivesCopy m w) := by
  obtain ⟨i0, hi, hz0, hz1, hz2⟩ := info_parts info_cell4
  obtain ⟨j0, hj, hy0, hy1, hy2⟩ := info_parts info_line
  have bm := (Blk.new (W := w) #[.slice a 512 ca, .slice al 4 cl] 31).kept (World.grownBy_alloc (w.alloc (.cells #[.slice a 512 ca, .slice al 4 cl] 31)) (.cells #[.slice none 0 0, .slice none 0 0] 31) none) (by simp)
  have br := Blk.new (W := w.alloc (.cells #[.slice a 512 ca, .slice al 4 cl] 31)) #[.slice none 0 0, .slice none 0 0] 31
  have hs1 : (w.alloc (.cells #[.slice a 512 ca, .slice al 4 cl] 31)).heap.size = w.heap.size + 1 := by simp
  have hs2 : ((w.alloc (.cells #[.slice a 512 ca, .slice al 4 cl] 31)).alloc (.cells #[.slice none 0 0, .slice none 0 0] 31)).heap.size = w.heap.size + 2 := by simp
  rw [hs1] at br
  have hB := Below.alloc (Below.alloc (Below.refl w.heap.size w) (Nat.le_refl _) (.cells #[.slice a 512 ca, .slice al 4 cl] 31)) (by rw [hs1]; omega) (.cells #[.slice none 0 0, .slice none 0 0] 31)
  have hM0 := hM.later hB
  have HS2 := Lib.hid hs2
  clear hs1 hM hs2
  go_enter Try.func27, Try.ntmps27
  go_upto_region 1 with fail
  generalize (w.alloc (.cells #[.slice a 512 ca, .slice al 4 cl] 31)).alloc (.cells #[.slice none 0 0, .slice none 0 0] 31) = W0 at *
  have H4 := Lib.hid hV.lines
  have H5 := Lib.hid hV.len
  have m0 := (bm 0 (by simp)).1
  have m1 := (bm 1 (by simp)).1
  have hlen : (cellRows m.cells).flatten.length = 1024 := by rw [length_flatten (wide_cells _), length_cellRows, H5.out]
  have hone := cells_one m.cells
  have hsrc := cells_src hM0.1
  obtain ⟨R, hR⟩ : ∃ R, R = (cellRows m.cells).flatten := ⟨_, rfl⟩
  rw [← hR] at hlen hone hsrc
  have HR := Lib.hid hR
  clear hR
  go_wp2_with (at_builtin; refine wpList_append_nil _ rfl _ _ 28 rfl 25 i0 (.agg #[.int .u8 0, .int .u16 0]) 2 4 Try.underlying28 hi hz0 hz1 hz2 rfl (by decide) rfl _ _ _ rfl R ?qc1 ?qc2 ?qc3 ?qc4 ?qc5 ?_)
  case qc3 => exact hone
  case qc4 => unfold maxLen; omega
  intro ag cg W1 hown1 hg1
  rw [HR.out] at hown1
  clear hlen hsrc hone m0
  obtain ⟨g, cg', he, hg2, hg3⟩ := hown1.form (by omega)
  simp only [Value.slice.injEq, true_and] at he
  obtain ⟨rfl, rfl⟩ := he
  have hb1 : Below W0.heap.size W0 W1 := (Below.refl _ _).grown hg1 (Nat.le_refl _) (fun k hk => by cases hk)
  clear hg1
  have hA := Below.alloc (Below.refl W1.heap.size W1) (Nat.le_refl _) (.cells #[.slice (some ⟨g, 0, none⟩) 512 cg, .slice none 0 0] 31)
  have bo := Blk.new (W := W1) #[.slice (some ⟨g, 0, none⟩) 512 cg, .slice none 0 0] 31
  have hs3 : (W1.alloc (.cells #[.slice (some ⟨g, 0, none⟩) 512 cg, .slice none 0 0] 31)).heap.size = W1.heap.size + 1 := by simp
  have hb2 := hb1.trans (hA.mono hb1.size)
  have hB2 := hB.trans (hb2.mono (by rw [HS2.out]; omega))
  have br0 := Lib.hid br
  have bm := bm.later hb2
  have br := br.later hb2
  have hM2 := hM0.later hb2
  have hown2 := hown1.late hA
  have m1 := (bm 1 (by simp)).1
  have hs2W : W0.heap.size ≤ W1.heap.size := hb1.size
  go_upto_region 2 with fail
  generalize W1.alloc (.cells #[.slice (some ⟨g, 0, none⟩) 512 cg, .slice none 0 0] 31) = W2 at *
  generalize W1.heap.size = O at *
  have HS3 := Lib.hid hs3
  clear hown1 hA hs3
  go_wp2_with fail
  go_loopw [13] (fun c wr => ∃ (k : Nat) (v : Value) (vs : List Value), k ≤ 4 ∧ c = .int .i64 k ∧ CopyS W2.heap.size wr v k vs m.lines k ∧ Blk wr O [.slice (some ⟨g, 0, none⟩) 512 cg, v] ∧
    wr.ownsRow W0.heap.size 25 2 (.slice (some ⟨g, 0, none⟩) 512 cg) 512 (cellRows m.cells).flatten ∧ Below W0.heap.size W0 wr ∧ W2.heap.size ≤ wr.heap.size) (fun c _ => 4 - (intOf c).toNat)
  case atStart => exact ⟨0, _, [], by omega, rfl, ⟨by simp [lineRows, World.ownsRow_nil], rfl, by omega, fun i hi => by omega, fun i j hi => by omega⟩, bo, hown2, hb2, Nat.le_refl _⟩
  case round =>
    clear bo hown2 bm br m1
    obtain ⟨k, v, vs, hk, rfl, HS, bo, hown, hb, hsz⟩ := hrel
    have HS := Lib.hid HS
    have hown := Lib.hid hown
    by_cases hlt : k < 4
    · have hkl : k < m.lines.length := by have := H4.out; omega
      obtain ⟨b, o, rfl, hc⟩ := (hM0.2.later hb).some hkl
      obtain ⟨c0, c1, a2, k2, c2, hcx⟩ := hc k hkl
      have hx4 := hV.short _ (List.getElem_mem hkl)
      have i1 : (k : Int) < 4 := by omega
      have i2 : 0 ≤ (k : Int) := by omega
      clear hc
      obtain ⟨x, hxe⟩ : ∃ x, m.lines[k] = x := ⟨_, rfl⟩
      rw [hxe] at c0 c1 c2 hcx hx4
      have HX := Lib.hid hxe
      have hA := Below.alloc (Below.refl wr.heap.size wr) (Nat.le_refl _) (.cells #[.int .i64 x.tag, .bool x.dirty, .slice a2 x.cells.length k2] 53)
      have bx := Blk.new (W := wr) #[.int .i64 x.tag, .bool x.dirty, .slice a2 x.cells.length k2] 53
      have hsrc := cells_src (hcx.later hA)
      have hone := cells_one x.cells
      have hlen : (cellRows x.cells).flatten.length = x.cells.length * 2 := by rw [length_flatten (wide_cells _), length_cellRows]
      obtain ⟨R2, hR2⟩ : ∃ R2, R2 = (cellRows x.cells).flatten := ⟨_, rfl⟩
      rw [← hR2] at hlen hone hsrc
      have HR2 := Lib.hid hR2
      clear hcx hxe hR2
      go_upto_region 5 with fail
      clear c0 c1 c2
      have hsw : (wr.alloc (.cells #[.int .i64 x.tag, .bool x.dirty, .slice a2 x.cells.length k2] 53)).heap.size = wr.heap.size + 1 := by simp
      generalize wr.alloc (.cells #[.int .i64 x.tag, .bool x.dirty, .slice a2 x.cells.length k2] 53) = W3 at *
      have x2 := (bx 2 (by simp)).1
      go_wp2_with (at_builtin; refine wpList_append_nil _ rfl _ _ 28 rfl 25 i0 (.agg #[.int .u8 0, .int .u16 0]) 2 4 Try.underlying28 hi hz0 hz1 hz2 rfl (by decide) rfl _ _ _ rfl R2 ?rc1 ?rc2 ?rc3 ?rc4 ?rc5 ?_)
      case rc3 => exact hone
      case rc4 => unfold maxLen; omega
      case rc5 => omega
      intro a4 c4 W4 hown4 hg4
      rw [HR2.out] at hown4
      have hb4 : Below wr.heap.size wr W4 := hA.grown hg4 hA.size (fun k hk => by cases hk)
      have bx4 := bx.kept hg4 (by simp)
      have x0 := (bx4 0 (by simp)).1
      have x1 := (bx4 1 (by simp)).1
      have x2 := (bx4 2 (by simp)).1
      have f2 := (bx4 2 (by simp)).2
      have bx5 := bx4.put 2 (.slice a4 x.cells.length c4)
      have hb5 := hb4.setCell (p := ⟨wr.heap.size, 2, none⟩) (Nat.le_refl _) (.slice a4 x.cells.length c4)
      have hown5 := hown4.kept (grownBy_cell W4 wr.heap.size 2 (.slice a4 x.cells.length c4)) (by
        by_cases e : (Value.slice a4 x.cells.length c4).ownBlock = none
        · exact .inl e
        · exact .inr (fun e2 => by have := (hown4.lt _ e2).1; omega))
      clear hA bx x0 x1 hown4 hg4 bx4 hone hlen hsrc hb4
      go_upto_region 6 with fail
      clear x2 f2
      generalize W4.setCell ⟨wr.heap.size, 2, none⟩ (.slice a4 x.cells.length c4) = W5 at *
      have bo5 := bo.kept (grownBy_below hb5 rfl none) (by simp)
      have hX0 := (bx5 0 (by simp)).1
      have hX1 := (bx5 1 (by simp)).1
      have hX2 := (bx5 2 (by simp)).1
      have hO1 := (bo5 1 (by simp)).1
      have hA6 := Below.alloc (Below.refl W5.heap.size W5) (Nat.le_refl _) (.cells #[.int .i64 x.tag, .bool x.dirty, .slice a4 x.cells.length c4] 53)
      have hs6 : (W5.alloc (.cells #[.int .i64 x.tag, .bool x.dirty, .slice a4 x.cells.length c4] 53)).heap.size = W5.heap.size + 1 := by simp
      have hb6 := hb5.trans (hA6.mono hb5.size)
      have HS6 := (HS.out.later hb6).lines
      have hlr := length_lineRows
      obtain ⟨R3, hR3⟩ : ∃ R3, R3 = (lineRows m.lines vs).flatten := ⟨_, rfl⟩
      rw [← hR3] at HS6
      have HR3 := Lib.hid hR3
      have hsrc6 : ∀ j u, [Value.int .i64 x.tag, .bool x.dirty, .slice a4 x.cells.length c4][j]? = some u → (W5.alloc (.cells #[.int .i64 x.tag, .bool x.dirty, .slice a4 x.cells.length c4] 53)).cell? ((⟨W5.heap.size, 0, none⟩ : Addr).add j) = some u := World.news_of_block (cs := #[.int .i64 x.tag, .bool x.dirty, .slice a4 x.cells.length c4]) (t := 53) (fr := (0, 0)) (heap_alloc_new W5 _)
      have hsz5 := hb5.size
      clear hR3 bx5 hlr
      go_wp2_with (at_builtin; refine wpList_append_lies _ rfl _ _ 29 rfl W2.heap.size 53 j0 (.agg #[.int .i64 0, .bool false, .slice none 0 0]) 3 40 Try.underlying29 hj hy0 hy1 hy2 rfl (by decide) _ _ _ rfl HS6 ⟨W5.heap.size, 0, none⟩ 1 1 [.int .i64 x.tag, .bool x.dirty, .slice a4 x.cells.length c4] rfl ?sc1 ?sc2 ?sc3 ?sc4 ?sc5 ?sc6 ?sc7 _ rfl ?_)
      case sc1 => rfl
      case sc2 => exact hsrc6
      case sc3 => intro u hu; simp at hu; rcases hu with rfl | rfl | rfl <;> rfl
      case sc4 => omega
      case sc5 => unfold maxLen; omega
      case sc6 => omega
      case sc7 => rw [hs6]; omega
      intro g2 cap W7 hown7 hg7 hat hlt7
      have hvb : ∀ q, v.ownBlock = some q → W2.heap.size ≤ q := fun q hq => (HS.out.lines.lt q hq).1
      have hO3 := HS3.out
      have hu6 := (hown5.mono (show W2.heap.size ≤ wr.heap.size + 1 by omega)).late hA6
      have huc := hown5.late hA6
      rw [HR3.out] at hown7
      have hS7 : CopyS W2.heap.size W7 (.slice (some ⟨g2, 0, none⟩) (k + 1) cap) (k + 1) (vs ++ [.slice a4 x.cells.length c4]) m.lines (k + 1) :=
        (HS.out.later hb6).snoc hkl (by rw [HX.out]; exact hu6) (by
            rcases new_block HS.out.lines hown5 (by omega) with h7 | h7
            · by_cases h8 : (Value.slice a4 x.cells.length c4).ownBlock = none
              · exact .inl h8
              · exact .inr (fun h9 => h8 (by rw [h9, h7]))
            · exact .inr (fun h9 => h7 h9.symm))
          (fun i h1 => new_block (HS.out.each i (by have := HS.out.vlen; omega) (by have := HS.out.vlen; omega) h1).1 hown5 (by omega)) hg7 (by rw [hs6]; exact hat) (by rw [HX.out]; exact hown7)
      have hc7 := (hown.out.late hb6).kept hg7 (by
        by_cases e : v.ownBlock = none
        · rw [e]; exact .inr (by simp [Value.ownBlock])
        · exact .inr (fun e2 => by have := hvb g e2.symm; omega))
      have bo7 := (bo5.kept (World.grownBy_alloc W5 (.cells #[.int .i64 x.tag, .bool x.dirty, .slice a4 x.cells.length c4] 53) none) (by simp)).kept hg7 (fun e => by have := hvb O e.symm; omega)
      have hb7 := (hb.trans (hb6.mono hb.size)).grown hg7 (by rw [hs6]; have := hb.size; omega) (fun q hq => by have := hvb q hq; omega)
      have hsz7 := hg7.size
      have y1 := (bo7 1 (by simp)).1
      have yf := (bo7 1 (by simp)).2
      have hg8 := grownBy_cell W7 O 1 (.slice (some ⟨g2, 0, none⟩) (k + 1) cap)
      have R1 := Lib.hid (hS7.far hg8 (by omega))
      have R2 := Lib.hid (bo7.put 1 (.slice (some ⟨g2, 0, none⟩) (k + 1) cap))
      have R3' := Lib.hid (hc7.kept hg8 (.inr (fun e => by have e2 : g = O := Option.some.inj e; omega)))
      have R4 := Lib.hid (hb7.setCell (p := ⟨O, 1, none⟩) (by simp; omega) (.slice (some ⟨g2, 0, none⟩) (k + 1) cap))
      have R5 : Hid (W2.heap.size ≤ (W7.setCell ⟨O, 1, none⟩ (.slice (some ⟨g2, 0, none⟩) (k + 1) cap)).heap.size) := Lib.hid (by have := hg8.size; rw [hs6] at hsz7; omega)
      clear hg8 hb7 hsz7 bo7 hc7 hS7 hu6 huc hvb hO3 hown7 hg7 hat hlt7 hsrc6 HS6 hs6 hA6 hb6 bo5 hb5 hown5 bo HS hown hsz5
      go_wp2
      go_roundw
      case rel => exact ⟨k + 1, _, _, by omega, by go_num, R1.out, R2.out, R3'.out, R4.out, R5.out⟩
      case measure => simp [intOf]; omega
    · obtain rfl : k = 4 := by omega
      obtain ⟨h, ch, rfl, hh1, hh2⟩ := HS.out.lines.form (by omega)
      have br := br0.out.later hb
      have r0 := (br 0 (by simp)).1
      have r1 := (br 1 (by simp)).1
      have f0 := (br 0 (by simp)).2
      have f1 := (br 1 (by simp)).2
      have o0 := (bo 0 (by simp)).1
      have o1 := (bo 1 (by simp)).1
      have hO3 := HS3.out
      have hBr := hB.trans (hb.mono (by rw [HS2.out]; omega))
      have HW := Lib.hid ((hBr.setCell (p := ⟨w.heap.size + 1, 0, none⟩) (by simp) (.slice (some ⟨g, 0, none⟩) 512 cg)).setCell (p := ⟨w.heap.size + 1, 1, none⟩) (by simp) (.slice (some ⟨h, 0, none⟩) 4 ch))
      have HO : OwnM W0.heap.size wr g cg h ch vs m := (show CopyS W0.heap.size wr _ 4 vs m.lines 4 from ⟨HS.out.lines.mono (by omega), HS.out.vlen, HS.out.le, fun i h1 h2 h3 => ⟨(HS.out.each i h1 h2 h3).1.mono (by omega), (HS.out.each i h1 h2 h3).2⟩, HS.out.apart⟩).own H4.out hown.out (by omega) (fun i h1 e => by
        have h9 := (HS.out.each i (by have := HS.out.vlen; omega) (by have := HS.out.vlen; have := H4.out; omega) h1).1.lt g e
        omega)
      have HO : Hid (GivesCopy m w (.returned (.agg #[.slice (some ⟨g, 0, none⟩) 512 cg, .slice (some ⟨h, 0, none⟩) 4 ch])) ((wr.setCell ⟨w.heap.size + 1, 0, none⟩ (.slice (some ⟨g, 0, none⟩) 512 cg)).setCell ⟨w.heap.size + 1, 1, none⟩ (.slice (some ⟨h, 0, none⟩) 4 ch))) :=
        Lib.hid ⟨g, cg, h, ch, vs, rfl, ((HO.far (grownBy_cell _ _ _ _) (by rw [HS2.out]; omega)).far (grownBy_cell _ _ _ _) (by rw [HS2.out]; omega)).mono (by rw [HS2.out]; omega), HW.out⟩
      clear HW hBr hO3 br hh1 hh2 hown HS bo
      go_wp2
      refine bodyPost_ret (v := .agg #[.slice (some ⟨g, 0, none⟩) 512 cg, .slice (some ⟨h, 0, none⟩) 4 ch]) (by simp [results, Try.results27, go_sem, r0, r1]) rfl HO.out
end Go.Proofs.Ytkffeibjleiaoaa
