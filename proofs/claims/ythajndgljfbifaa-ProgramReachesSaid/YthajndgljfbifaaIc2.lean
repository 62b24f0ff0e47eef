/-
  The program's Valid, Branch and Encode, and the document's Encode.
-/
import Derived.Test.YthajndgljfbifaaIc1
namespace Go.Proofs.Ythajndgljfbifaa
open Go.RowKit
set_option maxRecDepth 100000

set_option maxHeartbeats 4000000 in
theorem instr_Valid (x : Ins) (w : World) :
    Calls Try.prog 46 #[insV x] w fun e w' => e = .returned (.bool (vinB x)) ∧ Below w.heap.size w w' := by
  have hup := Lib.hid (fun v m W => instr_upTo v m W)
  by_cases hop : x.op < 0 ∨ 24 < x.op
  · have hv := Lib.hid (vin_none x hop)
    have HG := Lib.hid (fun W => instr_greatest_none x.op W hop)
    obtain ⟨op, a, b, c, imm⟩ := x
    unfold insV at *
    simp only at HG
    clear hop
    have hB := Below.alloc (Below.refl w.heap.size w) (Nat.le_refl _) (.cells #[.int .i64 op, .int .i64 a, .int .i64 b, .int .i64 c, .int .i64 imm] 66)
    go_enter Try.func46, Try.ntmps46
    go_wp2_with (go_at_call 83; (with_reducible refine (HG.out _).mono ?_); rintro e w1 ⟨rfl, hb1⟩)
    go_ret
    refine ⟨ret_bool hv.out.symm, ?_⟩
    exact (hB.trans (hb1.mono hB.size)).alloc (by have := hb1.size; have := hB.size; omega) _
  · have h0 : 0 ≤ x.op := by omega
    have h1 : x.op ≤ 24 := by omega
    have hv := Lib.hid (vin_most x h0 h1)
    have HG := Lib.hid (fun W => instr_greatest x.op W h0 h1)
    obtain ⟨op, a, b, c, imm⟩ := x
    simp only at HG hv h0 h1
    have e0 : (mostI op).op = op := rfl
    generalize mostI op = mo at *
    obtain ⟨op', ma, mb, mc, mi⟩ := mo
    simp only at e0
    subst e0
    unfold insV at *
    simp only at HG hv
    clear hop h0 h1
    have hB := Below.alloc (Below.refl w.heap.size w) (Nat.le_refl _) (.cells #[.int .i64 op', .int .i64 a, .int .i64 b, .int .i64 c, .int .i64 imm] 66)
    have b0 := Blk.new (W := w) #[.int .i64 op', .int .i64 a, .int .i64 b, .int .i64 c, .int .i64 imm] 66
    have hA := Lib.hid (fun W => hup.out a ma W)
    have hBb := Lib.hid (fun W => hup.out b mb W)
    have hC := Lib.hid (fun W => hup.out c mc W)
    have hI := Lib.hid (fun W => hup.out imm mi W)
    generalize upV a ma = u1 at *
    generalize upV b mb = u2 at *
    generalize upV c mc = u3 at *
    generalize upV imm mi = u4 at *
    go_enter Try.func46, Try.ntmps46
    go_wp2_with fail
    refine (HG.out _).mono ?_
    rintro e w1 ⟨rfl, hb1⟩
    have b1 := b0.later hb1
    have hA1 := Below.alloc (Below.refl w1.heap.size w1) (Nat.le_refl _) (.cells #[.int .i64 op', .int .i64 ma, .int .i64 mb, .int .i64 mc, .int .i64 mi] 66)
    have m1 := Blk.new (W := w1) #[.int .i64 op', .int .i64 ma, .int .i64 mb, .int .i64 mc, .int .i64 mi] 66
    have b2 := b1.later hA1
    have hB2 := (hB.trans (hb1.mono hB.size)).trans (hA1.mono (Nat.le_trans hB.size hb1.size))
    clear b0 b1 hb1 hA1 hB HG
    go_upto_region 2 with fail
    generalize w1.alloc (.cells #[.int .i64 op', .int .i64 ma, .int .i64 mb, .int .i64 mc, .int .i64 mi] 66) = W2 at *
    generalize w1.heap.size = M at *
    have f1 := (b2 1 (by simp)).1
    have f2 := (b2 2 (by simp)).1
    have f3 := (b2 3 (by simp)).1
    have f4 := (b2 4 (by simp)).1
    have k1 := (m1 1 (by simp)).1
    have k2 := (m1 2 (by simp)).1
    have k3 := (m1 3 (by simp)).1
    have k4 := (m1 4 (by simp)).1
    clear b2 m1
    cases u1 <;> cases u2 <;> cases u3 <;> cases u4
    all_goals
      go_wp2_with (first
        | (go_at_call 84; (with_reducible refine (hA.out _).mono ?_); rintro e w' ⟨rfl, rfl⟩)
        | (go_at_call 84; (with_reducible refine (hBb.out _).mono ?_); rintro e w' ⟨rfl, rfl⟩)
        | (go_at_call 84; (with_reducible refine (hC.out _).mono ?_); rintro e w' ⟨rfl, rfl⟩)
        | (go_at_call 84; (with_reducible refine (hI.out _).mono ?_); rintro e w' ⟨rfl, rfl⟩))
      go_ret
      exact ⟨ret_bool hv.out.symm, hB2⟩
end Go.Proofs.Ythajndgljfbifaa
