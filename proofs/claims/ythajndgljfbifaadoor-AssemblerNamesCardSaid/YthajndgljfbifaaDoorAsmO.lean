/-
  Lines read: addInstruction.
-/
import Derived.Test.YthajndgljfbifaaDoorAsmRd
import Derived.Lib.QuietBelow
import Derived.Deep.RegionHeldLaw
namespace Go.Proofs.YthajndgljfbifaaDoor
open Go.RowKit Go.Sort
set_option maxRecDepth 100000

theorem info_jump7 : (Tryd.prog.info? 103).map (fun i => (i.zero, i.size, i.bytes)) = some (some (.agg #[.int .i64 0, .int .i64 0, .string ⟨#[]⟩]), 3, 32) := by kernel_rfl
theorem info_ins7 : (Tryd.prog.info? 51).map (fun i => (i.zero, i.size, i.bytes)) = some (some (.agg #[.int .i64 0, .int .i64 0, .int .i64 0, .int .i64 0, .int .i64 0]), 5, 40) := by kernel_rfl

theorem codeCells_snoc (C : List Ins) (x : Ins) : codeCells (C ++ [x]) = codeCells C ++ (insCells x).toList := by
  unfold codeCells
  rw [List.flatMap_append]
  simp
theorem juCells_snoc (J : List (Nat × Nat × ByteArray)) (j : Nat × Nat × ByteArray) : juCells (J ++ [j]) = juCells J ++ [.int .i64 (j.1 : Int), .int .i64 (j.2.1 : Int), .string j.2.2] := by
  unfold juCells
  rw [List.flatMap_append]
  simp

/-- The jumps behind an instruction. -/
def moreJ (J : List (Nat × Nat × ByteArray)) (o line k : Nat) (lab : ByteArray) : List (Nat × Nat × ByteArray) := if jumpB (o : Int) then J ++ [(line, k, lab)] else J

set_option maxHeartbeats 4000000 in
theorem asm_addInstruction (B b mb nl : Nat) (f : ByteArray → Option Nat) (C : List Ins) (S : List Nat) (L : List (List Nat)) (J : List (Nat × Nat × ByteArray)) (line wb woff o : Nat) (vs : List ByteArray) (n cw : Nat) (x : Ins) (lab : ByteArray) (w : World) (h : Reads w B b mb nl f C S L J) (hBw : B ≤ w.heap.size) (ho : OpsTab w)
    (hn : n = vs.length + 1) (hc : StrsAt w wb woff (nameB (o : Int) :: vs)) (ho25 : o < 25) (hl : vs.length = (opdL (o : Int)).length) (hs : ∀ y ∈ vs, y.size ≤ 1000000)
    (hok : ∀ k (h : k < vs.length) (h2 : k < (opdL (o : Int)).length), opdOk (opdL (o : Int))[k] vs[k] = true) (hx : (rdI (o : Int) vs vs.length).1 = x) (hlab : (rdI (o : Int) vs vs.length).2 = lab) (hop : x.op = (o : Int)) (hC : C.length < 64) (hv : vinB x = true) (hlea : x.op = 15 → x.imm < (S.length : Int)) (hJ : J.length ≤ 64) :
    Calls Tryd.prog 55 #[.pointer (some ⟨b, 0, none⟩), .int .i64 (line : Int), .slice (some ⟨wb, woff, none⟩) n cw] w fun e w' => e = .returned (.int .i64 0) ∧ Reads w' B b mb nl f (C ++ [x]) S L (moreJ J o line C.length lab) ∧ Below B w w' := by
  obtain ⟨vc, vss, vd, vj, h⟩ := h
  obtain ⟨ac, cc, rfl⟩ := own_form0 h.code
  obtain ⟨a2, c2, rfl⟩ := own_form0 h.sizes
  have HI := Lib.hid (asm_instructionOf wb woff o vs n cw w ho hn hc ho25 hl hs hok)
  rw [hx, hlab] at HI
  unfold insV at HI
  have H := Lib.hid h
  have HV := Lib.hid (fun W => instr_Valid x W)
  rw [hv] at HV
  unfold insV at HV
  have HTL := Lib.hid (fun W (hW : OpsTab W) => asm_takesLabel o W hW ho25)
  have HMJ : Hid (moreJ J o line C.length lab = if jumpB (o : Int) then J ++ [(line, C.length, lab)] else J) := Lib.hid rfl
  have HLEA := Lib.hid hlea
  have HOP := Lib.hid hop
  have HO := Lib.hid ho
  clear h hc hs hok hx hlab hl hn hv ho hlea
  obtain ⟨op, xa, xb, xc, xi⟩ := x
  simp only at HI HV HLEA hop
  subst hop
  go_enter Tryd.func55, Tryd.ntmps55
  go_upto_region 2 with (go_at_call 70; (with_reducible refine HI.out.mono ?_); rintro e w1 ⟨rfl, hb1⟩)
  have hA := Below.alloc (Below.refl w1.heap.size w1) (Nat.le_refl _) (.cells #[.int .i64 (o : Int), .int .i64 xa, .int .i64 xb, .int .i64 xc, .int .i64 xi] 51)
  have hX : (w1.alloc (.cells #[.int .i64 (o : Int), .int .i64 xa, .int .i64 xb, .int .i64 xc, .int .i64 xi] 51)).heap[w1.heap.size]? = some (.cells (insCells ⟨(o : Int), xa, xb, xc, xi⟩) 51 (0, 0)) := heap_alloc_new w1 _
  have hb2 := hb1.trans (hA.mono hb1.size)
  have h2 := H.out.later hb2
  have HO2 := Lib.hid (HO.out.later hb2)
  have HB2 := Lib.hid (hb2.mono hBw)
  have HXB : Hid (w.heap.size ≤ w1.heap.size) := Lib.hid hb1.size
  clear hA hb1 hb2 H HI
  generalize w1.alloc (.cells #[.int .i64 (o : Int), .int .i64 xa, .int .i64 xb, .int .i64 xc, .int .i64 xi] 51) = W2 at *
  generalize w1.heap.size = Z at *
  go_upto_region 4 with fail
  go_cut [45] (fun v wx => v = .bool false ∧ Below W2.heap.size W2 wx)
  case first =>
    obtain ⟨p0, p1, p2, p3, p4, _⟩ := h2.cells
    have k0 := cell_regrown p0
    have k1 := cell_regrown p1
    have e0 : W2.cell? ⟨Z, 0, none⟩ = some (.int .i64 (o : Int)) := (Lib.cell_of_heap hX 0).trans rfl
    have e1 : W2.cell? ⟨Z, 1, none⟩ = some (.int .i64 xa) := (Lib.cell_of_heap hX 1).trans rfl
    have e2 : W2.cell? ⟨Z, 2, none⟩ = some (.int .i64 xb) := (Lib.cell_of_heap hX 2).trans rfl
    have e3 : W2.cell? ⟨Z, 3, none⟩ = some (.int .i64 xc) := (Lib.cell_of_heap hX 3).trans rfl
    have e4 : W2.cell? ⟨Z, 4, none⟩ = some (.int .i64 xi) := (Lib.cell_of_heap hX 4).trans rfl
    have z0 := cell_regrown e0
    have z1 := cell_regrown e1
    have z2 := cell_regrown e2
    have z3 := cell_regrown e3
    have z4 := cell_regrown e4
    have cV := fun d os => Calls.regrown_of (HV.out (grow (redrawn W2 d) os))
    have g1 : ((C.length : Int) == 64) = false := by rw [beq_eq_false_iff_ne]; omega
    clear e0 e1 e2 e3 e4 p0 p1 p2 p3 p4 hX h2 HV HTL
    by_cases h15 : o = 15
    · have g2 : ((o : Int) == 15) = true := by rw [beq_iff_eq]; omega
      have g3 : ¬ (S.length : Int) ≤ xi := by have := HLEA.out (show (o : Int) = 15 by omega); omega
      clear h15
      refine wp_region_quiet_below (by kernel_rfl) (by kernel_rfl) ?_
      repeat (go_big_quiet_step (exact cV _ _))
      refine wpQuiet_nil ?_
      intro _ hw'
      obtain ⟨⟨dq, osq⟩, hw''⟩ := hw'
      subst hw''
      have HB := Lib.hid (below_regrown W2 dq osq)
      go_wp2_with fail
      go_meet
      exact ⟨rfl, HB.out⟩
    · have g2 : ((o : Int) == 15) = false := by rw [beq_eq_false_iff_ne]; omega
      clear h15
      refine wp_region_quiet_below (by kernel_rfl) (by kernel_rfl) ?_
      repeat (go_big_quiet_step (exact cV _ _))
      refine wpQuiet_nil ?_
      intro _ hw'
      obtain ⟨⟨dq, osq⟩, hw''⟩ := hw'
      subst hw''
      have HB := Lib.hid (below_regrown W2 dq osq)
      go_wp2_with fail
      go_meet
      exact ⟨rfl, HB.out⟩
  case rest =>
    obtain ⟨rfl, hwc⟩ := hcut
    have h3 := h2.later hwc
    have hX3 := heap_later hwc hX
    have HB3 := Lib.hid (HB2.out.trans (hwc.mono (Nat.le_trans hBw (Nat.le_trans HXB.out (Nat.le_of_lt (Array.getElem?_eq_some_iff.1 hX).1)))))
    have HO3 := Lib.hid (HO2.out.later hwc)
    have hs3 : B ≤ wc.heap.size := Nat.le_trans hBw HB3.out.size
    clear h2 hX hwc HO2 HB2 HV HO HLEA HOP
    have e0 : wc.cell? ⟨Z, 0, none⟩ = some (.int .i64 (o : Int)) := (Lib.cell_of_heap hX3 0).trans rfl
    have HTL := Lib.hid (HTL.out wc HO3.out)
    go_upto_if 48 with (go_at_call 43; (with_reducible refine HTL.out.mono ?_); rintro e wd ⟨rfl, rfl⟩)
    go_cut [6] (fun v wx => v = .int .i64 0 ∧ (∃ vj', RdAt wx B b mb nl f C S L (moreJ J o line C.length lab) (.slice ac C.length cc) (.slice a2 S.length c2) vd vj') ∧ wx.heap[Z]? = some (.cells (insCells ⟨(o : Int), xa, xb, xc, xi⟩) 51 (0, 0)) ∧ Below B w wx)
    case first =>
      cases hj : jumpB (o : Int) with
      | false =>
        have hm : moreJ J o line C.length lab = J := by rw [HMJ.out, hj]; rfl
        have HM := Lib.hid hm
        have HR := Lib.hid h3
        have HX := Lib.hid hX3
        clear h3 hX3 hm hj e0
        go_wp2_with fail
        go_meet
        rw [HM.out]
        exact ⟨rfl, ⟨_, HR.out⟩, HX.out, HB3.out⟩
      | true =>
        have hm : moreJ J o line C.length lab = J ++ [(line, C.length, lab)] := by rw [HMJ.out, hj]; rfl
        have HM := Lib.hid hm
        obtain ⟨j0, hj0, hj1, hj2, hj3⟩ := info_parts info_jump7
        obtain ⟨p0, p1, p2, p3, p4, _⟩ := h3.cells
        have hA := Below.alloc (Below.refl wd.heap.size wd) (Nat.le_refl _) (.cells #[.int .i64 (line : Int), .int .i64 (C.length : Int), .string lab] 103)
        have hAB := Below.alloc (Below.refl B wd) hs3 (.cells #[.int .i64 (line : Int), .int .i64 (C.length : Int), .string lab] 103)
        have h4 := (h3.later hA).later (Below.drew (Below.refl _ _))
        have r0 := (h3.later hA).cells.1
        have r4 := (h3.later hA).cells.2.2.2.2.1
        have hX4 := heap_later hA hX3
        have HX3 := Lib.hid hX3
        clear hA hm hj e0 hX3
        go_upto_region 7 with fail
        go_region_law (first
          | (refine step_append_lies _ (by rfl) _ _ _ (by rfl) B 103 j0 _ 3 32 Tryd.underlying75 hj0 hj1 hj2 hj3 rfl (by omega) _ J.length _ (by rfl) h4.jumps ⟨wd.heap.size, 0, none⟩ 1 1 [.int .i64 (line : Int), .int .i64 (C.length : Int), .string lab] (by rfl) (by rfl) (World.news_of_block (cs := #[.int .i64 (line : Int), .int .i64 (C.length : Int), .string lab]) (t := 103) (fr := (0, 0)) (heap_alloc_new wd _)) (by simp [Value.oneCell']) (by omega) (by unfold maxLen; omega) (by omega) (by simp; omega) (wd.heap.size + 1) (by simp) ?_; intro gg cap6 W6 hown6 hg6 hat6 hlt6; have hbx6 := heap_grown h4.jumps hg6 h4.box (by decide); have q4 : W6.cell? ⟨b, 4, none⟩ = some vj := (Lib.cell_of_heap hbx6 4).trans rfl; have f4 := Lib.frozen_of_heap hbx6 4))
        all_goals
          have hjl : (J ++ [(line, C.length, lab)]).length = J.length + 1 := by simp
          have h7 := Lib.hid (h4.grow_jumps (J' := J ++ [(line, C.length, lab)]) hg6 (by rw [hjl, juCells_snoc]; exact hown6))
          have hX7 := Lib.hid (heap_set hbx6 (heap_grown h4.jumps hg6 (show (wd.alloc (.cells #[.int .i64 (line : Int), .int .i64 (C.length : Int), .string lab] 103)).drew.heap[Z]? = _ from hX4) (by decide)) (by decide) 4 (.slice (some ⟨gg, 0, none⟩) (J.length + 1) cap6))
          have HB7 := Lib.hid (HB3.out.trans (((Below.drew hAB).grown hg6 (by simp; omega) (fun k hk => (h4.jumps.lt k hk).1)).setCell (p := ⟨b, 4, none⟩) h4.hb (.slice (some ⟨gg, 0, none⟩) (J.length + 1) cap6)))
          clear hbx6 h4 hX4 hg6 hown6 hat6 hlt6 q4 f4 r0 r4 p0 p1 p2 p3 p4 hAB hjl h3
          go_wp2_with fail
          go_meet
          rw [HM.out]
          exact ⟨rfl, ⟨_, h7.out⟩, hX7.out, HB7.out⟩
    case rest =>
      obtain ⟨rfl, ⟨vj', h5⟩, hX5, hB5⟩ := hcut
      clear h3 hX3 HB3 HMJ HTL e0 hs3
      obtain ⟨j0, hj0, hj1, hj2, hj3⟩ := info_parts info_ins7
      have hs5 : B ≤ wc.heap.size := Nat.le_trans hBw hB5.size
      obtain ⟨p0, p1, p2, p3, p4, _⟩ := h5.cells
      have e0 : wc.cell? ⟨Z, 0, none⟩ = some (.int .i64 (o : Int)) := (Lib.cell_of_heap hX5 0).trans rfl
      have e1 : wc.cell? ⟨Z, 1, none⟩ = some (.int .i64 xa) := (Lib.cell_of_heap hX5 1).trans rfl
      have e2 : wc.cell? ⟨Z, 2, none⟩ = some (.int .i64 xb) := (Lib.cell_of_heap hX5 2).trans rfl
      have e3 : wc.cell? ⟨Z, 3, none⟩ = some (.int .i64 xc) := (Lib.cell_of_heap hX5 3).trans rfl
      have e4 : wc.cell? ⟨Z, 4, none⟩ = some (.int .i64 xi) := (Lib.cell_of_heap hX5 4).trans rfl
      have hA := Below.alloc (Below.refl wc.heap.size wc) (Nat.le_refl _) (.cells #[.int .i64 (o : Int), .int .i64 xa, .int .i64 xb, .int .i64 xc, .int .i64 xi] 51)
      have hAB := Below.alloc (Below.refl B wc) hs5 (.cells #[.int .i64 (o : Int), .int .i64 xa, .int .i64 xb, .int .i64 xc, .int .i64 xi] 51)
      have h6 := (h5.later hA).later (Below.drew (Below.refl _ _))
      have r0 := (h5.later hA).cells.1
      have HB5 := Lib.hid hB5
      clear hA hX5 hB5 h5 p1 p2 p3 p4
      go_upto_region 8 with fail
      go_region_law (first
        | (refine step_append_lies _ (by rfl) _ _ _ (by rfl) B 51 j0 _ 5 40 Tryd.underlying23 hj0 hj1 hj2 hj3 rfl (by omega) _ C.length _ (by rfl) h6.code ⟨wc.heap.size, 0, none⟩ 1 1 [.int .i64 (o : Int), .int .i64 xa, .int .i64 xb, .int .i64 xc, .int .i64 xi] (by rfl) (by rfl) (World.news_of_block (cs := #[.int .i64 (o : Int), .int .i64 xa, .int .i64 xb, .int .i64 xc, .int .i64 xi]) (t := 51) (fr := (0, 0)) (heap_alloc_new wc _)) (by simp [Value.oneCell']) (by omega) (by unfold maxLen; omega) (by omega) (by simp; omega) (wc.heap.size + 1) (by simp) ?_; intro gg cap6 W6 hown6 hg6 hat6 hlt6; have hbx6 := heap_grown h6.code hg6 h6.box (by decide); have q4 : W6.cell? ⟨b, 0, none⟩ = some (.slice ac C.length cc) := (Lib.cell_of_heap hbx6 0).trans rfl; have f4 := Lib.frozen_of_heap hbx6 0))
      all_goals
        have hcl : (C ++ [(⟨(o : Int), xa, xb, xc, xi⟩ : Ins)]).length = C.length + 1 := by simp
        have h7 := Lib.hid (h6.grow_code (C' := C ++ [⟨(o : Int), xa, xb, xc, xi⟩]) hg6 (by rw [hcl, codeCells_snoc]; exact hown6))
        have HB7 := Lib.hid (HB5.out.trans (((Below.drew hAB).grown hg6 (by simp; omega) (fun k hk => (h6.code.lt k hk).1)).setCell (p := ⟨b, 0, none⟩) h6.hb (.slice (some ⟨gg, 0, none⟩) (C.length + 1) cap6)))
        clear hbx6 h6 hg6 hown6 hat6 hlt6 q4 f4 r0 p0 hAB hcl e0 e1 e2 e3 e4
        go_wp2
        go_ret
        exact ⟨rfl, ⟨_, _, _, _, h7.out⟩, HB7.out⟩
end Go.Proofs.YthajndgljfbifaaDoor
