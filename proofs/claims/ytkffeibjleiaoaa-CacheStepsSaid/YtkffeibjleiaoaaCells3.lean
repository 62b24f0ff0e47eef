/-
  Contracts: SameWords, Same, slices.Equal, the document's Same and Distance.
-/
import Derived.Test.YtkffeibjleiaoaaCells2
import Derived.WalkSmall
namespace Go.Proofs.Ytkffeibjleiaoaa
open Go.RowKit
theorem ref01_Same (a b : Option Addr) (xs ys : List (Nat × Nat)) (ca cb : Nat) (w : World) (ha : CellsAt w a xs) (hb : CellsAt w b ys) (lx : xs.length ≤ 1000000) (ly : ys.length ≤ 1000000) :
    Calls Try.prog 35 #[.slice a xs.length ca, .slice b ys.length cb] w fun e w' => e = .returned (.bool (decide (xs = ys))) ∧ Below w.heap.size w w' := by
  by_cases hl : xs.length = ys.length
  · have h1 : ((xs.length : Int) != (ys.length : Int)) = false := by rw [bne_eq_false_iff_eq]; omega
    have HL := Lib.hid hl
    clear hl
    go_enter Try.func35, Try.ntmps35
    go_wp2
    go_loopw [5, 13] (fun _ c wr => ∃ k : Nat, k ≤ xs.length ∧ c = .int .i64 k ∧ xs.take k = ys.take k ∧ Below w.heap.size w wr) (fun _ c _ => xs.length - (intOf c).toNat)
    case atStart => exact ⟨0, by omega, rfl, rfl, Below.refl _ _⟩
    case round =>
      obtain ⟨k, hk, rfl, heq, hw⟩ := hrel
      have hq := Lib.hid heq
      clear heq
      by_cases hlt : k < xs.length
      · have hlt2 : k < ys.length := by have := HL.out; omega
        obtain ⟨ba, oa, rfl, ca2⟩ := (ha.later hw).some hlt
        obtain ⟨bb, ob, rfl, cb2⟩ := (hb.later hw).some hlt2
        obtain ⟨c1, c2⟩ := ca2 k hlt
        obtain ⟨c3, c4⟩ := cb2 k hlt2
        clear ca2 cb2
        have i1 : (k : Int) < (xs.length : Int) := by omega
        have i2 : (k : Int) < (ys.length : Int) := by omega
        have i3 : 0 ≤ (k : Int) := by omega
        have hE1 : Hid (xs[k] = ys[k] → xs.take (k + 1) = ys.take (k + 1)) := Lib.hid fun e => by
          rw [List.take_succ_eq_append_getElem hlt, List.take_succ_eq_append_getElem hlt2, hq.out, e]
        have hE2 : Hid (xs[k] ≠ ys[k] → xs ≠ ys) := Lib.hid fun e h => e (by subst h; rfl)
        generalize xs[k] = x at *
        generalize ys[k] = y at *
        obtain ⟨t, v⟩ := x
        obtain ⟨s, u⟩ := y
        simp only at c1 c2 c3 c4
        by_cases h5 : t = s
        · subst h5
          by_cases h6 : v = u
          · subst h6
            go_wp2
            go_quiet (fail)
            go_wp2
            go_roundw
            case rel => exact ⟨k + 1, by omega, by go_num, by first | exact hE1.out rfl | exact hE1.out trivial, below_drewN hw _⟩
            case measure => simp [intOf]; omega
          · have hd := Lib.hid (decide_eq_false (hE2.out (by intro e; exact h6 (congrArg Prod.snd e))))
            go_wp2
            go_quiet (fail)
            go_wp2
            go_ret
            exact ⟨ret_bool hd.out.symm, below_drewN hw _⟩
        · have hd := Lib.hid (decide_eq_false (hE2.out (by intro e; exact h5 (congrArg Prod.fst e))))
          go_wp2
          go_quiet (fail)
          go_wp2
          go_ret
          exact ⟨ret_bool hd.out.symm, below_drewN hw _⟩
      · have hd : Hid (decide (xs = ys) = true) := Lib.hid (decide_eq_true (by
          have h1 := hq.out
          rw [List.take_of_length_le (by omega), List.take_of_length_le (by have := HL.out; omega)] at h1
          exact h1))
        go_wp2
        go_ret
        exact ⟨ret_bool hd.out.symm, hw⟩
  · have h1 : ((xs.length : Int) != (ys.length : Int)) = true := by rw [bne_iff_ne]; omega
    have hne : xs ≠ ys := fun h => hl (by rw [h])
    have hd := Lib.hid (decide_eq_false hne)
    clear hne hl
    go_enter Try.func35, Try.ntmps35
    go_wp2
    go_ret
    exact ⟨ret_bool hd.out.symm, Below.refl _ _⟩
end Go.Proofs.Ytkffeibjleiaoaa
