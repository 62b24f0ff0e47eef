/-
  The library's Sort at two ints.
-/
import Derived.Test.YtbhpolnoeccofaaIc7
namespace Go.Proofs.Ytbhpolnoeccofaa
open Go.RowKit
set_option maxRecDepth 100000

theorem cmp_isNaN (x : Int) (w : World) :
    Calls Try.prog 52 #[.int .i64 x] w fun e w' => e = .returned (.bool false) ∧ w' = w := by
  go_enter Try.func52, Try.ntmps52
  go_wp2
  go_ret
  exact ⟨ret_bool (by simp), rfl⟩

theorem cmp_Less (x y : Int) (b : Bool) (w : World) (hb : decide (x < y) = b) :
    Calls Try.prog 42 #[.int .i64 x, .int .i64 y] w fun e w' => e = .returned (.bool b) ∧ w' = w := by
  have HN := Lib.hid (fun v W => cmp_isNaN v W)
  go_enter Try.func42, Try.ntmps42
  go_wp2_with (go_at_call 52; (with_reducible refine (HN.out _ _).mono ?_); rintro e w' ⟨rfl, rfl⟩)
  go_ret
  exact ⟨rfl, rfl⟩

theorem bits_Len64_two (w : World) : Calls Try.prog 46 #[.int .u64 2] w fun e w' => e = .returned (.int .i64 2) ∧ w' = w := by
  go_enter Try.func46, Try.ntmps46
  go_wp2
  go_ret
  exact ⟨by kernel_rfl, rfl⟩

theorem bits_Len_two (w : World) : Calls Try.prog 35 #[.int .u64 2] w fun e w' => e = .returned (.int .i64 2) ∧ w' = w := by
  go_enter Try.func35, Try.ntmps35
  go_wp2_with (go_at_call 46; (with_reducible refine (bits_Len64_two _).mono ?_); rintro e w' ⟨rfl, rfl⟩)
  go_ret
  exact ⟨rfl, rfl⟩

/-- Two ints in a block that the call may write. -/
def Pair (w : World) (B : Nat) (x y : Int) : Prop := Blk w B [.int .i64 x, .int .i64 y]

/-- The two are in order, and nothing else is written. -/
def Ordered (w : World) (B : Nat) (x y : Int) (w' : World) : Prop := Pair w' B (min x y) (max x y) ∧ w.grownBy w' (some B)

theorem Ordered.drewN {w w' : World} {B : Nat} {x y : Int} (h : Ordered w B x y w') (n : Nat) : Ordered w B x y (w'.drewN n) :=
  ⟨h.1.kept (grownBy_drewN w' none n) (by simp), grownBy_trans h.2 (grownBy_drewN _ _ _)⟩

theorem kept2 {w : World} {B : Nat} {x y : Int} {n : Nat} (hp : Pair w B x y) (h : ¬ y < x) : Ordered w B x y (w.drewN n) := by
  have e1 : min x y = x := by omega
  have e2 : max x y = y := by omega
  refine ⟨?_, grownBy_drewN w _ n⟩
  rw [e1, e2]
  exact Blk.kept hp (grownBy_drewN w none n) (by simp)

theorem swapped {w : World} {B : Nat} {x y : Int} {hn : Nat} (hp : Pair w B x y) (h : decide (y < x) = true) :
    Ordered w B x y (((w.drewN hn).setCell ⟨B, 1, none⟩ (.int .i64 x)).setCell ⟨B, 0, none⟩ (.int .i64 y)) ∧ Ordered w B x y (((w.drewN hn).setCell ⟨B, 0, none⟩ (.int .i64 y)).setCell ⟨B, 1, none⟩ (.int .i64 x)) := by
  have h := of_decide_eq_true h
  have e1 : min x y = y := by omega
  have e2 : max x y = x := by omega
  have hd : Blk (w.drewN hn) B [.int .i64 x, .int .i64 y] := Blk.kept hp (grownBy_drewN w none hn) (by simp)
  refine ⟨⟨?_, grownBy_trans (grownBy_drewN w _ hn) (grownBy_trans (grownBy_cell _ _ _ _) (grownBy_cell _ _ _ _))⟩, ⟨?_, grownBy_trans (grownBy_drewN w _ hn) (grownBy_trans (grownBy_cell _ _ _ _) (grownBy_cell _ _ _ _))⟩⟩
  · rw [e1, e2]; exact (hd.put 1 _).put 0 _
  · rw [e1, e2]; exact (hd.put 0 _).put 1 _

set_option maxHeartbeats 2000000 in
theorem insertion_swap (B cap : Nat) (x y : Int) (w : World) (hp : Pair w B x y) (h : y < x) :
    Calls Try.prog 36 #[.slice (some ⟨B, 0, none⟩) 2 cap, .int .i64 0, .int .i64 2] w fun e w' => e = .returned (.tuple #[]) ∧ Ordered w B x y w' := by
  have hL := Lib.hid (fun W => cmp_Less y x true W (decide_eq_true h))
  have c0 := (hp 0 (by simp)).1
  have c1 := (hp 1 (by simp)).1
  have f0 := (hp 0 (by simp)).2
  have f1 := (hp 1 (by simp)).2
  have HP := Lib.hid hp
  clear hp
  have hd : decide (y < x) = true := decide_eq_true h
  clear h
  go_enter Try.func36, Try.ntmps36
  go_wp2
  go_loopw [6] (fun c wr => (c = .int .i64 1 ∧ wr = w) ∨ (c = .int .i64 2 ∧ Ordered w B x y wr)) (fun c _ => 2 - (intOf c).toNat)
  case atStart => exact .inl ⟨rfl, rfl⟩
  case round =>
    rcases hrel with ⟨rfl, rfl⟩ | ⟨rfl, ho⟩
    · go_wp2_with fail
      go_loopw [7] (fun c wr2 => (c = .int .i64 1 ∧ wr2 = wr) ∨ (c = .int .i64 0 ∧ Ordered wr B x y wr2)) (fun c _ => (intOf c).toNat)
      case atStart => exact .inl ⟨rfl, rfl⟩
      case round =>
        rcases hrel with ⟨rfl, rfl⟩ | ⟨rfl, ho⟩
        · go_wp2_with fail
          go_quiet ((go_at_call 42; exact Calls.quiet_of_same (hL.out _)))
          go_wp2_with fail
          have HF := Lib.hid (fun n => swapped (hn := n) HP.out hd)
          clear HP
          go_region
          all_goals
            go_wp2_with fail
            go_roundw
            case rel => exact .inr ⟨rfl, by first | exact (HF.out _).1 | exact (HF.out _).2⟩
            case measure => simp [intOf]
        · have HO := Lib.hid ho
          clear ho
          go_wp2_with fail
          go_quiet (fail)
          go_wp2_with fail
          go_roundw
          case rel => exact .inr ⟨rfl, HO.out.drewN nq⟩
          case measure => simp [intOf]
    · have HO := Lib.hid ho
      clear ho
      go_wp2
      exact bodyPost_end (results_none (by rfl) _ _ _) rfl ⟨rfl, HO.out⟩

set_option maxHeartbeats 2000000 in
theorem insertion_keep (B cap : Nat) (x y : Int) (w : World) (hp : Pair w B x y) (h : ¬ y < x) :
    Calls Try.prog 36 #[.slice (some ⟨B, 0, none⟩) 2 cap, .int .i64 0, .int .i64 2] w fun e w' => e = .returned (.tuple #[]) ∧ Ordered w B x y w' := by
  have hL := Lib.hid (fun W => cmp_Less y x false W (decide_eq_false h))
  have c0 := (hp 0 (by simp)).1
  have c1 := (hp 1 (by simp)).1
  have HP := Lib.hid (fun n => kept2 (n := n) hp h)
  clear hp h
  go_enter Try.func36, Try.ntmps36
  go_wp2
  go_loopw [6] (fun c wr => (c = .int .i64 1 ∧ wr = w) ∨ (c = .int .i64 2 ∧ Ordered w B x y wr)) (fun c _ => 2 - (intOf c).toNat)
  case atStart => exact .inl ⟨rfl, rfl⟩
  case round =>
    rcases hrel with ⟨rfl, rfl⟩ | ⟨rfl, ho⟩
    · go_wp2_with fail
      go_loopw [7] (fun c wr2 => (c = .int .i64 1 ∧ wr2 = wr)) (fun c _ => (intOf c).toNat)
      case atStart => exact ⟨rfl, rfl⟩
      case round =>
        obtain ⟨rfl, rfl⟩ := hrel
        go_wp2_with fail
        go_quiet ((go_at_call 42; exact Calls.quiet_of_same (hL.out _)))
        go_wp2_with fail
        go_roundw
        case rel => exact .inr ⟨rfl, HP.out nq⟩
        case measure => simp [intOf]
    · have HO := Lib.hid ho
      clear ho
      go_wp2
      exact bodyPost_end (results_none (by rfl) _ _ _) rfl ⟨rfl, HO.out⟩

theorem insertion_two (B cap : Nat) (x y : Int) (w : World) (hp : Pair w B x y) :
    Calls Try.prog 36 #[.slice (some ⟨B, 0, none⟩) 2 cap, .int .i64 0, .int .i64 2] w fun e w' => e = .returned (.tuple #[]) ∧ Ordered w B x y w' := by
  by_cases h : y < x
  · exact insertion_swap B cap x y w hp h
  · exact insertion_keep B cap x y w hp h

theorem pdq_two (B cap : Nat) (x y : Int) (w : World) (hp : Pair w B x y) :
    Calls Try.prog 34 #[.slice (some ⟨B, 0, none⟩) 2 cap, .int .i64 0, .int .i64 2, .int .i64 2] w fun e w' => e = .returned (.tuple #[]) ∧ Ordered w B x y w' := by
  have HI := Lib.hid (insertion_two B cap x y w hp)
  clear hp
  go_enter Try.func34, Try.ntmps34
  go_wp2
  go_loopw [1, 2] (fun a b wr => a = .int .i64 0 ∧ b = .int .i64 2 ∧ wr = w) (fun _ _ _ => 0)
  case atStart => exact ⟨rfl, rfl, rfl⟩
  case round =>
    obtain ⟨rfl, rfl, rfl⟩ := hrel
    go_wp2_with (go_at_call 36; (with_reducible refine HI.out.mono ?_); rintro e w' ⟨rfl, ho⟩)
    exact bodyPost_ret (v := .tuple #[]) (results_none (by rfl) _ _ _) rfl ⟨rfl, ho⟩

theorem sort_two (B cap : Nat) (x y : Int) (w : World) (hp : Pair w B x y) :
    Calls Try.prog 31 #[.slice (some ⟨B, 0, none⟩) 2 cap] w fun e w' => e = .returned (.tuple #[]) ∧ Ordered w B x y w' := by
  have HI := Lib.hid (pdq_two B cap x y w hp)
  clear hp
  go_enter Try.func31, Try.ntmps31
  go_wp2_with (first
    | (go_at_call 35; (with_reducible refine (bits_Len_two _).mono ?_); rintro e w' ⟨rfl, rfl⟩)
    | (go_at_call 34; (with_reducible refine HI.out.mono ?_); rintro e w' ⟨rfl, ho⟩))
  exact bodyPost_end (results_none (by rfl) _ _ _) rfl ⟨rfl, ho⟩
end Go.Proofs.Ytbhpolnoeccofaa
