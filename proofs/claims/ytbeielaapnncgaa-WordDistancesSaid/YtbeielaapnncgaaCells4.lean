/-
  Contracts: slices.Equal at cells, Same, and the document's Distance.
-/
import Derived.Test.YtbeielaapnncgaaCells3
namespace Go.Proofs.Ytbeielaapnncgaa
open Go.RowKit

theorem equal_any (a b : Option Addr) (xs ys : List (Nat × Nat)) (ca cb : Nat) (w : World) (ha : CellsAt w a xs) (hb : CellsAt w b ys) (lx : xs.length ≤ 1000000) (ly : ys.length ≤ 1000000) :
    Calls Try.prog 34 #[.slice a xs.length ca, .slice b ys.length cb] w fun e w' => e = .returned (.bool (decide (xs = ys))) ∧ Below w.heap.size w w' := by
  by_cases hl : xs.length = ys.length
  · have h1 : ((xs.length : Int) != (ys.length : Int)) = false := by rw [bne_eq_false_iff_eq]; omega
    have HL := Lib.hid hl
    clear hl
    go_enter Try.func34, Try.ntmps34
    go_wp2
    go_loopw [5, 13] (fun _ c wr => ∃ k : Nat, k ≤ xs.length ∧ c = .int .i64 k ∧ xs.take k = ys.take k ∧ Below w.heap.size w wr) (fun _ c _ => xs.length - (intOf c).toNat)
    case atStart => exact ⟨0, by omega, rfl, rfl, Below.refl _ _⟩
    case round =>
      obtain ⟨k, hk, rfl, heq, hw⟩ := hrel
      have hq := Lib.hid heq
      clear heq
      by_cases hlt : k < xs.length
      · have hlt2 : k < ys.length := by have := HL.out; omega
        obtain ⟨ba, oa, rfl, ca2⟩ := (ha.later hw).some hlt
        obtain ⟨bb, ob, rfl, cb2⟩ := (hb.later hw).some hlt2
        obtain ⟨c1, c2⟩ := ca2 k hlt
        obtain ⟨c3, c4⟩ := cb2 k hlt2
        clear ca2 cb2
        have i1 : (k : Int) < (xs.length : Int) := by omega
        have i2 : (k : Int) < (ys.length : Int) := by omega
        have i3 : 0 ≤ (k : Int) := by omega
        have hE1 : Hid (xs[k] = ys[k] → xs.take (k + 1) = ys.take (k + 1)) := Lib.hid fun e => by
          rw [List.take_succ_eq_append_getElem hlt, List.take_succ_eq_append_getElem hlt2, hq.out, e]
        have hE2 : Hid (xs[k] ≠ ys[k] → xs ≠ ys) := Lib.hid fun e h => e (by subst h; rfl)
        generalize xs[k] = x at *
        generalize ys[k] = y at *
        obtain ⟨t, v⟩ := x
        obtain ⟨s, u⟩ := y
        simp only at c1 c2 c3 c4
        by_cases h5 : t = s
        · subst h5
          by_cases h6 : v = u
          · subst h6
            go_wp2
            go_quiet (fail)
            go_wp2
            go_roundw
            case rel => exact ⟨k + 1, by omega, by go_num, by first | exact hE1.out rfl | exact hE1.out trivial, below_drewN hw _⟩
            case measure => simp [intOf]; omega
          · have hd := Lib.hid (decide_eq_false (hE2.out (by intro e; exact h6 (congrArg Prod.snd e))))
            go_wp2
            go_quiet (fail)
            go_wp2
            go_ret
            exact ⟨ret_bool hd.out.symm, below_drewN hw _⟩
        · have hd := Lib.hid (decide_eq_false (hE2.out (by intro e; exact h5 (congrArg Prod.fst e))))
          go_wp2
          go_quiet (fail)
          go_wp2
          go_ret
          exact ⟨ret_bool hd.out.symm, below_drewN hw _⟩
      · have hd : Hid (decide (xs = ys) = true) := Lib.hid (decide_eq_true (by
          have h1 := hq.out
          rw [List.take_of_length_le (by omega), List.take_of_length_le (by have := HL.out; omega)] at h1
          exact h1))
        go_wp2
        go_ret
        exact ⟨ret_bool hd.out.symm, hw⟩
  · have h1 : ((xs.length : Int) != (ys.length : Int)) = true := by rw [bne_iff_ne]; omega
    have hne : xs ≠ ys := fun h => hl (by rw [h])
    have hd := Lib.hid (decide_eq_false hne)
    clear hne hl
    go_enter Try.func34, Try.ntmps34
    go_wp2
    go_ret
    exact ⟨ret_bool hd.out.symm, Below.refl _ _⟩

theorem same_any (a b : Option Addr) (xs ys : List (Nat × Nat)) (ca cb : Nat) (w : World) (ha : CellsAt w a xs) (hb : CellsAt w b ys) (lx : xs.length ≤ 1000000) (ly : ys.length ≤ 1000000) :
    Calls Try.prog 22 #[.slice a xs.length ca, .slice b ys.length cb] w fun e w' => e = .returned (.bool (decide (xs = ys))) ∧ Below w.heap.size w w' := by
  have hE := Lib.hid (equal_any a b xs ys ca cb w ha hb lx ly)
  go_enter Try.func22, Try.ntmps22
  go_wp2_with (go_at_call 34; (with_reducible refine hE.out.mono ?_); rintro e w' ⟨rfl, hb5⟩)
  go_ret
  exact ⟨rfl, hb5⟩

set_option maxHeartbeats 2000000 in
theorem rdist_any (a b : Option Addr) (xs ys : List (Nat × Nat)) (ca cb : Nat) (w : World) (ha : CellsAt w a xs) (hb : CellsAt w b ys) (ox : OkCells xs) (oy : OkCells ys) (lx : xs.length ≤ 100000) (ly : ys.length ≤ 100000) :
    Calls Try.prog 21 #[.slice a xs.length ca, .slice b ys.length cb] w fun e w' => e = .returned (.int .i64 (dist xs ys : Nat)) ∧ Below w.heap.size w w' := by
  go_enter Try.func21, Try.ntmps21
  go_wp2
  go_loopw [5, 6] (fun d c wr => ∃ k : Nat, k ≤ max xs.length ys.length ∧ c = .int .i64 k ∧ d = .int .i64 ((distTo xs ys k : Nat) : Int) ∧ Below w.heap.size w wr) (fun _ c _ => max xs.length ys.length - (intOf c).toNat)
  case atStart => exact ⟨0, by omega, rfl, rfl, Below.refl _ _⟩
  case round =>
    obtain ⟨k, hk, rfl, rfl, hw⟩ := hrel
    have hdl := distTo_le xs ys k
    by_cases hlt1 : k < xs.length
    · by_cases hlt2 : k < ys.length
      · have hS := Lib.hid (show distTo xs ys (k + 1) = distTo xs ys k + cellD xs[k] ys[k] by rw [distTo, placeD_both xs ys k hlt1 hlt2])
        obtain ⟨ba, oa, rfl, ca2⟩ := (ha.later hw).some hlt1
        obtain ⟨bb, ob, rfl, cb2⟩ := (hb.later hw).some hlt2
        obtain ⟨c1, c2⟩ := ca2 k hlt1
        obtain ⟨c3, c4⟩ := cb2 k hlt2
        clear ca2 cb2
        have ox1 := ox _ (List.getElem_mem hlt1)
        have oy1 := oy _ (List.getElem_mem hlt2)
        have i1 : (k : Int) < (xs.length : Int) := by omega
        have i2 : (k : Int) < (ys.length : Int) := by omega
        have i3 : 0 ≤ (k : Int) := by omega
        have g1 : decide ((xs.length : Int) ≤ (k : Int)) = false := by simp; omega
        have g2 : decide ((ys.length : Int) ≤ (k : Int)) = false := by simp; omega
        generalize xs[k] = x at *
        generalize ys[k] = y at *
        obtain ⟨t, v⟩ := x
        obtain ⟨s, u⟩ := y
        simp only at c1 c2 c3 c4 ox1 oy1
        have hX := xor_words v u ox1.2 oy1.2
        have hz := xor_lt v u ox1.2 oy1.2
        have ho := ones_le (v ^^^ u)
        have hO := Lib.hid (fun W => (rones_any (v ^^^ u) W hz).mono (fun e w' (h : _ ∧ W = w') => (⟨h.1, h.2.symm⟩ : _ ∧ w' = W)))
        have hS2 : Hid (distTo xs ys (k + 1) = distTo xs ys k + (ones (v ^^^ u) + if t = s then 0 else 1)) := hS
        clear hS
        generalize v ^^^ u = z at *
        have hW : IntKind.i64.wrap ((distTo xs ys k : Nat) + ((ones z : Nat) : Int)) = ((distTo xs ys k : Nat) : Int) + (ones z : Nat) := IntWalk.i64_in _ (by omega)
        by_cases hts : t = s
        · subst hts
          go_wp2
          go_quiet ((go_at_call 15; exact Calls.quiet_of_same (hO.out _)))
          go_wp2
          go_quiet (fail)
          go_wp2
          go_roundw
          case rel => exact ⟨k + 1, by omega, by go_num, by rw [hS2.out]; simp, below_drewN hw _⟩
          case measure => simp [intOf]; omega
        · go_wp2
          go_quiet ((go_at_call 15; exact Calls.quiet_of_same (hO.out _)))
          go_wp2
          go_quiet (fail)
          go_wp2
          go_roundw
          case rel => exact ⟨k + 1, by omega, by go_num, by rw [hS2.out, if_neg hts]; go_num, below_drewN hw _⟩
          case measure => simp [intOf]; omega
      · have hS := Lib.hid (show distTo xs ys (k + 1) = distTo xs ys k + 17 by rw [distTo, placeD_left xs ys k hlt1 (by omega)])
        go_wp2
        go_roundw
        case rel => exact ⟨k + 1, by omega, by go_num, by rw [hS.out]; go_num, hw⟩
        case measure => simp [intOf]; omega
    · by_cases hlt2 : k < ys.length
      · have hS := Lib.hid (show distTo xs ys (k + 1) = distTo xs ys k + 17 by rw [distTo, placeD_right xs ys k (by omega) hlt2])
        go_wp2
        go_roundw
        case rel => exact ⟨k + 1, by omega, by go_num, by rw [hS.out]; go_num, hw⟩
        case measure => simp [intOf]; omega
      · have hE : Hid (distTo xs ys k = dist xs ys) := Lib.hid (distTo_all _ _ _ (by omega))
        go_wp2
        go_ret
        exact ⟨ret_int (by rw [hE.out]), hw⟩
end Go.Proofs.Ytbeielaapnncgaa
