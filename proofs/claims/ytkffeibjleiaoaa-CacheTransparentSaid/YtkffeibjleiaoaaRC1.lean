/-
  Contracts of the document's own cache: Fetch.
-/
import Derived.Test.YtkffeibjleiaoaaCaC4
namespace Go.Proofs.Ytkffeibjleiaoaa
open Go.RowKit

/-- A memory of the call's own, behind a pointer. -/
structure RefS (B P g cg h ch : Nat) (vs : List Value) (m : Mem) (w : World) : Prop where
  own : OwnM B w g cg h ch vs m
  box : Blk w P [.slice (some ⟨g, 0, none⟩) 512 cg, .slice (some ⟨h, 0, none⟩) 4 ch]
  pg : P ≠ g
  ph : P ≠ h
  pv : ∀ i (hi : i < vs.length), vs[i].ownBlock ≠ some P
  hB : B ≤ w.heap.size

theorem RefS.later {B P g cg h ch : Nat} {vs : List Value} {m : Mem} {w w' : World} (H : RefS B P g cg h ch vs m w) (hb : Below w.heap.size w w') : RefS B P g cg h ch vs m w' :=
  ⟨H.own.later hb, H.box.later hb, H.pg, H.ph, H.pv, Nat.le_trans H.hB hb.size⟩

theorem grown_none {w w' : World} (hg : w.grownBy w' none) : Below w.heap.size w w' := (Below.refl _ _).grown hg (Nat.le_refl _) (fun k hk => by cases hk)

def GivesRF (B P g cg h ch : Nat) (vs : List Value) (m : Mem) (n k : Nat) (w : World) (e : Ending) (w' : World) : Prop :=
  ∃ vs', e = .returned (.pointer (some ⟨h, k * 3, none⟩)) ∧ RefS B P g cg h ch vs' (fetchM m n) w' ∧ Below B w w' ∧
    (∀ r, r < w.heap.size → (∀ i (hi : i < vs.length), vs[i].ownBlock ≠ some r) → ∀ i (hi : i < vs'.length), vs'[i].ownBlock ≠ some r) ∧
    ∀ r, r < w.heap.size → r ≠ g → r ≠ h → w'.heap[r]? = w.heap[r]?

theorem Blk.same {w w' : World} {R : Nat} {l : List Value} (h : Blk w R l) (e : w'.heap[R]? = w.heap[R]?) : Blk w' R l := fun j hj => ⟨(World.cell?_of_block e).trans (h j hj).1, (World.frozen?_of_block e).trans (h j hj).2⟩

/-- A write into a block that is none of theirs. -/
theorem RefS.write {B P g cg h ch : Nat} {vs : List Value} {m : Mem} {w w' : World} (H : RefS B P g cg h ch vs m w) {r : Nat} (hg : w.grownBy w' (some r)) (h0 : r ≠ P) (h1 : r ≠ g) (h2 : r ≠ h) (h3 : ∀ i (hi : i < vs.length), vs[i].ownBlock ≠ some r) : RefS B P g cg h ch vs m w' :=
  ⟨⟨H.own.cells.kept hg (.inr (fun e => h1 (Option.some.inj e).symm)), H.own.lines.kept hg (.inr (fun e => h2 (Option.some.inj e).symm)), H.own.four, H.own.ne, fun i q1 q2 => ⟨(H.own.each i q1 q2).1.kept hg (.inr (h3 i q2)), (H.own.each i q1 q2).2⟩, H.own.apart⟩,
    H.box.kept hg (fun e => h0 (Option.some.inj e).symm), H.pg, H.ph, H.pv, Nat.le_trans H.hB hg.size⟩

set_option maxHeartbeats 4000000 in
set_option maxRecDepth 20000 in
theorem ref05_Fetch (B P g cg h ch : Nat) (vs : List Value) (m : Mem) (x n k : Nat) (w : World) (H : RefS B P g cg h ch vs m w) (hV : MV m) (hx : x < 512) (hn : x / 4 = n) (hk : n % 4 = k) :
    Calls Try.prog 47 #[.pointer (some ⟨P, 0, none⟩), .int .i64 (x : Int)] w (GivesRF B P g cg h ch vs m n k w) := by
  obtain ⟨z0, hi, hz0, hz1, hz2⟩ := info_parts info_cell4
  have n1 : (x : Int) / 4 = (n : Int) := by omega
  have n2 : (n : Int) % 4 = (k : Int) := by omega
  have hn8 : n < 128 := by omega
  have i1 : (k : Int) < 4 := by omega
  have i2 : 0 ≤ (k : Int) := by omega
  have hkl : k < m.lines.length := by have := hV.lines; omega
  have hkv : k < vs.length := by have := H.own.four; omega
  obtain ⟨t0, t1, t2, tf⟩ := H.own.head k hkl hkv
  obtain ⟨va, vc, hve, hvc⟩ := H.own.val k hkl hkv
  have hL : lineM m n = m.lines[k] := by unfold lineM; rw [hk, getD_in _ _ hkl]
  have hVL := hV.line n
  rw [hk] at hVL
  rw [hve] at t2
  rw [← hL] at t0 t1 t2 hvc
  have P0 := (H.box 0 (by simp)).1
  have P1 := (H.box 1 (by simp)).1
  have hbo := H.own.bounds
  have hgh := H.own.ne
  have HVL := Lib.hid hVL
  have HF0 := Lib.hid (fetch_held (m := m) (n := n))
  have HF1 := Lib.hid (fetch_new (m := m) (n := n))
  have HFC := Lib.hid (show fetchC m n = backL m.cells (lineM m n) from rfl)
  have HHB := Lib.hid H.hB
  have HPG := Lib.hid H.pg
  have HPH := Lib.hid H.ph
  have HPV := Lib.hid H.pv
  rw [hk] at HF1
  have HOB := Lib.hid (And.intro H.own H.box)
  clear hn hk hL hve hVL H
  generalize lineM m n = l at *
  go_enter Try.func47, Try.ntmps47
  go_upto_region 3 with fail
  by_cases ht : l.tag = (n : Int)
  · have g0 : (l.tag == (n : Int)) = true := by rw [ht]; simp
    have hm := HF0.out ht
    go_wp2
    go_ret
    exact ⟨vs, rfl, by rw [hm]; exact ⟨HOB.out.1, HOB.out.2, HPG.out, HPH.out, HPV.out, HHB.out⟩, Below.refl _ _, fun _ _ h => h, fun _ _ _ _ => rfl⟩
  · have g0 : (l.tag == (n : Int)) = false := by rw [beq_eq_false_iff_ne]; exact ht
    have hm := Lib.hid (HF1.out ht)
    go_upto_if 26 with fail
    go_cut [26] (fun _ wx => OwnM B wx g cg h ch vs ⟨fetchC m n, m.lines⟩ ∧ Blk wx P [.slice (some ⟨g, 0, none⟩) 512 cg, .slice (some ⟨h, 0, none⟩) 4 ch] ∧ w.grownBy wx (some g))
    case first =>
      cases hd : l.dirty with
      | false =>
        have hbk : fetchC m n = m.cells := by rw [HFC.out]; unfold backL; rw [if_neg (by simp [hd])]
        go_wp2
        go_meet
        exact ⟨by rw [hbk]; exact HOB.out.1, HOB.out.2, grownBy_drewN w _ 0⟩
      | true =>
        have hVL := HVL.out
        rcases hVL.tag with ⟨_, h2, _⟩ | ⟨n', ht', hn', _, hlen⟩
        · rw [h2] at hd; cases hd
        have hbk : fetchC m n = splice m.cells (n' * 4) l.cells := by rw [HFC.out]; unfold backL; rw [if_pos hd, ht', Int.toNat_natCast]
        have HS : Hid (splice (cellRows m.cells).flatten (n' * 4 * 2) (cellRows l.cells).flatten = (cellRows (splice m.cells (n' * 4) l.cells)).flatten) := Lib.hid (cellRows_splice m.cells l.cells (n' * 4))
        have hlr : (cellRows l.cells).flatten.length = 8 := by rw [length_flatten (wide_cells _), length_cellRows, hlen]
        have hone := Lib.hid (cells_one l.cells)
        have hsrc := Lib.hid (cells_src hvc)
        have hown0 := HOB.out.1.cells
        rw [ht'] at t0
        rw [hlen] at t2
        obtain ⟨R, hR⟩ : ∃ R, R = (cellRows l.cells).flatten := ⟨_, rfl⟩
        obtain ⟨R1, hR1⟩ : ∃ R1, R1 = (cellRows m.cells).flatten := ⟨_, rfl⟩
        rw [← hR] at HS hlr hone hsrc
        rw [← hR1] at HS hown0
        have hsz := cell_size2
        obtain ⟨q, hq⟩ : ∃ q, n' * 4 = q := ⟨_, rfl⟩
        rw [hq] at HS hbk
        have HBK := Lib.hid hbk
        have j0 : (n' : Int) * 4 = (q : Int) := by omega
        have j1 : (q : Int) ≤ 512 := by omega
        have j2 : 0 ≤ (q : Int) := by omega
        have j3 : q < 512 := by omega
        have j4 : q + 4 ≤ 512 := by omega
        have j5 := (own_cap hown0)
        have j7 : ¬ cg = q := by omega
        have j6 : IntKind.i64.wrap (q : Int) = (q : Int) := IntWalk.i64_in _ (by omega)
        have hPg := HPG.out
        clear hq ht' hlen hd hR hR1 hbk t1 hm hvc
        go_upto_region 6 with fail
        go_region_held_law (fun W => W.cell? ⟨P, 0, none⟩ = some (.slice (some ⟨g, 0, none⟩) 512 cg) ∧ W.cell? ⟨h, k * 3, none⟩ = some (.int .i64 (n' : Int)) ∧ W.cell? ⟨h, k * 3 + 2, none⟩ = some (.slice va 4 vc))
          (first
            | exact ⟨P0, t0, t2⟩
            | assumption
            | exact ⟨hg6.cell (by go_split_ands; assumption) (fun e => by have e2 : P = g := Option.some.inj e; omega), hg6.cell (by go_split_ands; assumption) (fun e => by have e2 : h = g := Option.some.inj e; omega), hg6.cell (by go_split_ands; assumption) (fun e => by have e2 : h = g := Option.some.inj e; omega)⟩)
          (first
            | (refine step_copy_wide2 (by rfl) (.tmp 36) (.tmp 40) 28 28 (by rfl) 25 2 Try.underlying28 hsz g (q * 2) (512 - q) (cg - q) va 4 vc (by rfl) (by rfl) B 512 cg R1 hown0.drew 4 (by show 4 = min 4 (512 - q); omega) R hlr hsrc.out (by rw [hlr]; omega) hone.out ?_; intro W6 hown6 hg6))
        have own6 := hown6.out
        rw [HS.out, ← HBK.out] at own6
        have HD : OwnM B w.drew g cg h ch vs m := HOB.out.1.later (Below.refl _ _).drew
        have R6 := Lib.hid (HD.cells_set hg6 own6)
        have R7 := Lib.hid ((HOB.out.2.later (Below.refl _ _).drew).kept hg6 (by simp; omega))
        have R8 : Hid (w.grownBy W6 (some g)) := Lib.hid (grownBy_trans (grownBy_drewN w _ 1) hg6)
        clear hown6 own6 hg6 hown0 HD P0 P1 t0 t2 tf
        go_wp2
        go_meet
        exact ⟨R6.out, R7.out, R8.out⟩
    case rest =>
      obtain ⟨H1, b1, hg1⟩ := hcut
      have hsz1 := hg1.size
      have T2 := (H1.tag_set k hkl (n : Int)).dirty_set k (by simpa using hkl) false
      simp only [List.getElem_set_self, List.set_set] at T2
      obtain ⟨s0, s1, s2, sf⟩ := H1.head k hkl hkv
      have s3 := sf (k * 3)
      have s4 := sf (k * 3 + 1)
      have g1 := grownBy_cell wc h (k * 3) (.int .i64 (n : Int))
      have g2 := grownBy_cell (wc.setCell ⟨h, k * 3, none⟩ (.int .i64 (n : Int))) h (k * 3 + 1) (.bool false)
      have hne : some P ≠ some h := by have := HPH.out; simp; omega
      have b2 := (b1.kept g1 hne).kept g2 hne
      have hg2 := Lib.hid (grownBy_trans g1 g2)
      clear g1 g2 sf P0 P1 t0 t1 t2 tf
      go_upto_region 8 with fail
      clear s0 s1 s2 s3 s4
      have hsz2 := hg2.out.size
      generalize (wc.setCell ⟨h, k * 3, none⟩ (.int .i64 (n : Int))).setCell ⟨h, k * 3 + 1, none⟩ (.bool false) = W2 at *
      have T2 := Lib.hid T2
      obtain ⟨q, hq⟩ : ∃ q, n * 4 = q := ⟨_, rfl⟩
      have j0 : (n : Int) * 4 = (q : Int) := by omega
      have j1 : ((n : Int) + 1) * 4 = (q : Int) + 4 := by omega
      have hq5 : q + 4 ≤ 512 := by omega
      have j2 : 0 ≤ (q : Int) := by omega
      have j7 : ¬ cg = q := by have := own_cap T2.out.cells; omega
      have j8 : 512 ≤ cg := own_cap T2.out.cells
      have hpart := T2.out.part q 4 hq5
      simp only at hpart
      have HFM := hm.out
      rw [hq] at HFM
      have hlx : (((fetchC m n).drop q).take 4).length = 4 := by
        have := T2.out.len
        simp only at this
        rw [List.length_take, List.length_drop, this]; omega
      generalize ((fetchC m n).drop q).take 4 = xs at *
      have HFM := Lib.hid HFM
      have hsrc := cells_src hpart
      have hone := cells_one xs
      have hlen : (cellRows xs).flatten.length = 8 := by rw [length_flatten (wide_cells _), length_cellRows, hlx]
      obtain ⟨R2, hR2⟩ : ∃ R2, R2 = (cellRows xs).flatten := ⟨_, rfl⟩
      rw [← hR2] at hlen hone hsrc
      have HR2 := Lib.hid hR2
      have HLX := Lib.hid hlx
      have p0 := (b2 0 (by simp)).1
      clear hq hpart hR2 hlx
      go_upto_region 9 with (at_builtin; refine wpList_append_nil _ rfl _ _ 28 rfl 25 z0 (.agg #[.int .u8 0, .int .u16 0]) 2 4 Try.underlying28 hi hz0 hz1 hz2 rfl (by decide) rfl _ _ _ rfl R2 (by rw [hlen]; omega) hsrc hone (by unfold maxLen; omega) (by omega) ?_; intro a6 c6 W6 hown6 hg6; rw [show q + 4 - q = 4 by omega] at hown6 ⊢; have hb6 := grown_none hg6; obtain ⟨p1, p2, p3, p4⟩ := (T2.out.later hb6).head k (by simpa using hkl) hkv; have p5 := p4 (k * 3 + 2))
      have hO6 := T2.out.later hb6
      have hne6 : ∀ q, (Value.slice a6 4 c6).ownBlock = some q → W2.heap.size ≤ q := fun q hq => (hown6.lt q hq).1
      rw [HR2.out] at hown6
      have T3 := hO6.slice_set k (by simpa using hkl) (v := .slice a6 4 c6) (xs := xs) (by rw [HLX.out]; exact hown6.mono (by have := HHB.out; omega)) (fun e => by have := hne6 g e; omega) (fun e => by have := hne6 h e; omega) (fun j hj _ => new_block (T2.out.each j (by have := T2.out.four; omega) hj).1 hown6 (Nat.le_refl _))
      simp only [List.getElem_set_self, List.set_set] at T3
      rw [← HFM.out] at T3
      have hg3 := grownBy_cell W6 h (k * 3 + 2) (.slice a6 4 c6)
      have b3 := (b2.later hb6).kept hg3 hne
      have hpr : ∀ r, r < w.heap.size → (∀ i (hi : i < vs.length), vs[i].ownBlock ≠ some r) → ∀ i (hi : i < (vs.set k (.slice a6 4 c6)).length), (vs.set k (.slice a6 4 c6))[i].ownBlock ≠ some r := fun r hr hv i hi => by
        simp only [List.getElem_set]
        split
        · exact fun e => by have := hne6 r e; omega
        · exact hv i (by simpa using hi)
      have hpv := hpr P (World.block_lt_of_cell? _ _ (HOB.out.2 0 (by simp)).1) HPV.out
      have hBW : Below B w (W6.setCell ⟨h, k * 3 + 2, none⟩ (.slice a6 4 c6)) :=
        (((((Below.refl B w).grown hg1 HHB.out (fun q hq => by cases hq; exact hbo.1)).grown hg2.out (by have := HHB.out; omega) (fun q hq => by cases hq; exact hbo.2.2.1)).trans (hb6.mono (by have := HHB.out; omega))).setCell (p := ⟨h, k * 3 + 2, none⟩) hbo.2.2.1 _)
      have hsz6 := hb6.size
      have hsame : ∀ r, r < w.heap.size → r ≠ g → r ≠ h → (W6.setCell ⟨h, k * 3 + 2, none⟩ (.slice a6 4 c6)).heap[r]? = w.heap[r]? := fun r hr h1 h2 => by
        rw [hg3.block r (by omega) (by simp; exact h2), hb6.block r (by omega), hg2.out.block r (by omega) (by simp; exact h2), hg1.block r hr (by simp; exact h1)]
      have hBs : B ≤ (W6.setCell ⟨h, k * 3 + 2, none⟩ (.slice a6 4 c6)).heap.size := by have := hg3.size; have := HHB.out; omega
      have HR : Hid (GivesRF B P g cg h ch vs m n k w (.returned (.pointer (some ⟨h, k * 3, none⟩))) (W6.setCell ⟨h, k * 3 + 2, none⟩ (.slice a6 4 c6))) := Lib.hid ⟨_, rfl, ⟨T3, b3, HPG.out, HPH.out, hpv, hBs⟩, hBW, hpr, hsame⟩
      clear hpr hsame T3 hO6 hne6 hown6 hg3 b3 hpv hBW hBs
      go_wp2
      go_ret
      exact HR.out
end Go.Proofs.Ytkffeibjleiaoaa
