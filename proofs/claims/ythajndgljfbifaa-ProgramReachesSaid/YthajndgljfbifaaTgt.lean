/-
  The library's Sort at two ints.
  The library's Compact at two ints.
  Targets of the document; behind.
  behind and Targets of the program.
-/
import Derived.Test.YthajndgljfbifaaIc7
import Derived.Lib.SliceRun
import Derived.Deep.AppendLies
import Derived.Deep.RegionHeldLaw
import Derived.Deep.DeepCutAuto
namespace Go.Proofs.Ythajndgljfbifaa
open Go.RowKit
set_option maxRecDepth 100000

theorem cmp_isNaN (x : Int) (w : World) :
    Calls Try.prog 138 #[.int .i64 x] w fun e w' => e = .returned (.bool false) ∧ w' = w := by
  go_enter Try.func138, Try.ntmps138
  go_wp2
  go_ret
  exact ⟨ret_bool (by simp), rfl⟩

theorem cmp_Less (x y : Int) (b : Bool) (w : World) (hb : decide (x < y) = b) :
    Calls Try.prog 128 #[.int .i64 x, .int .i64 y] w fun e w' => e = .returned (.bool b) ∧ w' = w := by
  have HN := Lib.hid (fun v W => cmp_isNaN v W)
  go_enter Try.func128, Try.ntmps128
  go_wp2_with (go_at_call 138; (with_reducible refine (HN.out _ _).mono ?_); rintro e w' ⟨rfl, rfl⟩)
  go_ret
  exact ⟨rfl, rfl⟩

theorem bits_Len64_two (w : World) : Calls Try.prog 132 #[.int .u64 2] w fun e w' => e = .returned (.int .i64 2) ∧ w' = w := by
  go_enter Try.func132, Try.ntmps132
  go_wp2
  go_ret
  exact ⟨by kernel_rfl, rfl⟩

theorem bits_Len_two (w : World) : Calls Try.prog 116 #[.int .u64 2] w fun e w' => e = .returned (.int .i64 2) ∧ w' = w := by
  go_enter Try.func116, Try.ntmps116
  go_wp2_with (go_at_call 132; (with_reducible refine (bits_Len64_two _).mono ?_); rintro e w' ⟨rfl, rfl⟩)
  go_ret
  exact ⟨rfl, rfl⟩

/-- Two ints in a block that the call may write. -/
def Pair (w : World) (B : Nat) (x y : Int) : Prop := Blk w B [.int .i64 x, .int .i64 y]

/-- The two are in order, and nothing else is written. -/
def Ordered (w : World) (B : Nat) (x y : Int) (w' : World) : Prop := Pair w' B (min x y) (max x y) ∧ w.grownBy w' (some B)

theorem Ordered.drewN {w w' : World} {B : Nat} {x y : Int} (h : Ordered w B x y w') (n : Nat) : Ordered w B x y (w'.drewN n) :=
  ⟨h.1.kept (grownBy_drewN w' none n) (by simp), grownBy_trans h.2 (grownBy_drewN _ _ _)⟩

theorem kept2 {w : World} {B : Nat} {x y : Int} {n : Nat} (hp : Pair w B x y) (h : ¬ y < x) : Ordered w B x y (w.drewN n) := by
  have e1 : min x y = x := by omega
  have e2 : max x y = y := by omega
  refine ⟨?_, grownBy_drewN w _ n⟩
  rw [e1, e2]
  exact Blk.kept hp (grownBy_drewN w none n) (by simp)

theorem swapped {w : World} {B : Nat} {x y : Int} {hn : Nat} (hp : Pair w B x y) (h : decide (y < x) = true) :
    Ordered w B x y (((w.drewN hn).setCell ⟨B, 1, none⟩ (.int .i64 x)).setCell ⟨B, 0, none⟩ (.int .i64 y)) ∧ Ordered w B x y (((w.drewN hn).setCell ⟨B, 0, none⟩ (.int .i64 y)).setCell ⟨B, 1, none⟩ (.int .i64 x)) := by
  have h := of_decide_eq_true h
  have e1 : min x y = y := by omega
  have e2 : max x y = x := by omega
  have hd : Blk (w.drewN hn) B [.int .i64 x, .int .i64 y] := Blk.kept hp (grownBy_drewN w none hn) (by simp)
  refine ⟨⟨?_, grownBy_trans (grownBy_drewN w _ hn) (grownBy_trans (grownBy_cell _ _ _ _) (grownBy_cell _ _ _ _))⟩, ⟨?_, grownBy_trans (grownBy_drewN w _ hn) (grownBy_trans (grownBy_cell _ _ _ _) (grownBy_cell _ _ _ _))⟩⟩
  · rw [e1, e2]; exact (hd.put 1 _).put 0 _
  · rw [e1, e2]; exact (hd.put 0 _).put 1 _

set_option maxHeartbeats 2000000 in
theorem insertion_swap (B cap : Nat) (x y : Int) (w : World) (hp : Pair w B x y) (h : y < x) :
    Calls Try.prog 122 #[.slice (some ⟨B, 0, none⟩) 2 cap, .int .i64 0, .int .i64 2] w fun e w' => e = .returned (.tuple #[]) ∧ Ordered w B x y w' := by
  have hL := Lib.hid (fun W => cmp_Less y x true W (decide_eq_true h))
  have c0 := (hp 0 (by simp)).1
  have c1 := (hp 1 (by simp)).1
  have f0 := (hp 0 (by simp)).2
  have f1 := (hp 1 (by simp)).2
  have HP := Lib.hid hp
  clear hp
  have hd : decide (y < x) = true := decide_eq_true h
  clear h
  go_enter Try.func122, Try.ntmps122
  go_wp2
  go_loopw [6] (fun c wr => (c = .int .i64 1 ∧ wr = w) ∨ (c = .int .i64 2 ∧ Ordered w B x y wr)) (fun c _ => 2 - (intOf c).toNat)
  case atStart => exact .inl ⟨rfl, rfl⟩
  case round =>
    rcases hrel with ⟨rfl, rfl⟩ | ⟨rfl, ho⟩
    · go_wp2_with fail
      go_loopw [7] (fun c wr2 => (c = .int .i64 1 ∧ wr2 = wr) ∨ (c = .int .i64 0 ∧ Ordered wr B x y wr2)) (fun c _ => (intOf c).toNat)
      case atStart => exact .inl ⟨rfl, rfl⟩
      case round =>
        rcases hrel with ⟨rfl, rfl⟩ | ⟨rfl, ho⟩
        · go_wp2_with fail
          go_quiet ((go_at_call 128; exact Calls.quiet_of_same (hL.out _)))
          go_wp2_with fail
          have HF := Lib.hid (fun n => swapped (hn := n) HP.out hd)
          clear HP
          go_region
          all_goals
            go_wp2_with fail
            go_roundw
            case rel => exact .inr ⟨rfl, by first | exact (HF.out _).1 | exact (HF.out _).2⟩
            case measure => simp [intOf]
        · have HO := Lib.hid ho
          clear ho
          go_wp2_with fail
          go_quiet (fail)
          go_wp2_with fail
          go_roundw
          case rel => exact .inr ⟨rfl, HO.out.drewN nq⟩
          case measure => simp [intOf]
    · have HO := Lib.hid ho
      clear ho
      go_wp2
      exact bodyPost_end (results_none (by rfl) _ _ _) rfl ⟨rfl, HO.out⟩

set_option maxHeartbeats 2000000 in
theorem insertion_keep (B cap : Nat) (x y : Int) (w : World) (hp : Pair w B x y) (h : ¬ y < x) :
    Calls Try.prog 122 #[.slice (some ⟨B, 0, none⟩) 2 cap, .int .i64 0, .int .i64 2] w fun e w' => e = .returned (.tuple #[]) ∧ Ordered w B x y w' := by
  have hL := Lib.hid (fun W => cmp_Less y x false W (decide_eq_false h))
  have c0 := (hp 0 (by simp)).1
  have c1 := (hp 1 (by simp)).1
  have HP := Lib.hid (fun n => kept2 (n := n) hp h)
  clear hp h
  go_enter Try.func122, Try.ntmps122
  go_wp2
  go_loopw [6] (fun c wr => (c = .int .i64 1 ∧ wr = w) ∨ (c = .int .i64 2 ∧ Ordered w B x y wr)) (fun c _ => 2 - (intOf c).toNat)
  case atStart => exact .inl ⟨rfl, rfl⟩
  case round =>
    rcases hrel with ⟨rfl, rfl⟩ | ⟨rfl, ho⟩
    · go_wp2_with fail
      go_loopw [7] (fun c wr2 => (c = .int .i64 1 ∧ wr2 = wr)) (fun c _ => (intOf c).toNat)
      case atStart => exact ⟨rfl, rfl⟩
      case round =>
        obtain ⟨rfl, rfl⟩ := hrel
        go_wp2_with fail
        go_quiet ((go_at_call 128; exact Calls.quiet_of_same (hL.out _)))
        go_wp2_with fail
        go_roundw
        case rel => exact .inr ⟨rfl, HP.out nq⟩
        case measure => simp [intOf]
    · have HO := Lib.hid ho
      clear ho
      go_wp2
      exact bodyPost_end (results_none (by rfl) _ _ _) rfl ⟨rfl, HO.out⟩

theorem insertion_two (B cap : Nat) (x y : Int) (w : World) (hp : Pair w B x y) :
    Calls Try.prog 122 #[.slice (some ⟨B, 0, none⟩) 2 cap, .int .i64 0, .int .i64 2] w fun e w' => e = .returned (.tuple #[]) ∧ Ordered w B x y w' := by
  by_cases h : y < x
  · exact insertion_swap B cap x y w hp h
  · exact insertion_keep B cap x y w hp h

theorem pdq_two (B cap : Nat) (x y : Int) (w : World) (hp : Pair w B x y) :
    Calls Try.prog 115 #[.slice (some ⟨B, 0, none⟩) 2 cap, .int .i64 0, .int .i64 2, .int .i64 2] w fun e w' => e = .returned (.tuple #[]) ∧ Ordered w B x y w' := by
  have HI := Lib.hid (insertion_two B cap x y w hp)
  clear hp
  go_enter Try.func115, Try.ntmps115
  go_wp2
  go_loopw [1, 2] (fun a b wr => a = .int .i64 0 ∧ b = .int .i64 2 ∧ wr = w) (fun _ _ _ => 0)
  case atStart => exact ⟨rfl, rfl, rfl⟩
  case round =>
    obtain ⟨rfl, rfl, rfl⟩ := hrel
    go_wp2_with (go_at_call 122; (with_reducible refine HI.out.mono ?_); rintro e w' ⟨rfl, ho⟩)
    exact bodyPost_ret (v := .tuple #[]) (results_none (by rfl) _ _ _) rfl ⟨rfl, ho⟩

theorem sort_two (B cap : Nat) (x y : Int) (w : World) (hp : Pair w B x y) :
    Calls Try.prog 97 #[.slice (some ⟨B, 0, none⟩) 2 cap] w fun e w' => e = .returned (.tuple #[]) ∧ Ordered w B x y w' := by
  have HI := Lib.hid (pdq_two B cap x y w hp)
  clear hp
  go_enter Try.func97, Try.ntmps97
  go_wp2_with (first
    | (go_at_call 116; (with_reducible refine (bits_Len_two _).mono ?_); rintro e w' ⟨rfl, rfl⟩)
    | (go_at_call 115; (with_reducible refine HI.out.mono ?_); rintro e w' ⟨rfl, ho⟩))
  exact bodyPost_end (results_none (by rfl) _ _ _) rfl ⟨rfl, ho⟩
end Go.Proofs.Ythajndgljfbifaa
namespace Go.Proofs.Ythajndgljfbifaa
open Go.RowKit
set_option maxRecDepth 100000

theorem compact_ne (B cap : Nat) (x y : Int) (w : World) (hp : Pair w B x y) (h : x ≠ y) :
    Calls Try.prog 98 #[.slice (some ⟨B, 0, none⟩) 2 cap] w fun e w' => e = .returned (.slice (some ⟨B, 0, none⟩) 2 cap) ∧ Pair w' B x y ∧ w.grownBy w' (some B) := by
  have c0 := (hp 0 (by simp)).1
  have c1 := (hp 1 (by simp)).1
  have HP := Lib.hid (fun n => (⟨Blk.kept hp (grownBy_drewN w none n) (by simp), grownBy_drewN w _ n⟩ : Pair (w.drewN n) B x y ∧ w.grownBy (w.drewN n) (some B)))
  have g : (y == x) = false := by rw [beq_eq_false_iff_ne]; exact fun e => h e.symm
  clear hp h
  go_enter Try.func98, Try.ntmps98
  go_wp2
  go_loopw [3] (fun c wr => (c = .int .i64 1 ∧ wr = w) ∨ (c = .int .i64 2 ∧ ∃ n, wr = w.drewN n)) (fun c _ => 2 - (intOf c).toNat)
  case atStart => exact .inl ⟨rfl, rfl⟩
  case round =>
    rcases hrel with ⟨rfl, rfl⟩ | ⟨rfl, n, rfl⟩
    · go_wp2_with fail
      go_quiet (fail)
      go_wp2_with fail
      go_roundw
      case rel => exact .inr ⟨rfl, nq, rfl⟩
      case measure => simp [intOf]
    · go_wp2
      go_ret
      exact ⟨rfl, HP.out n⟩

theorem cleared {w : World} {B : Nat} {x : Int} {n : Nat} (hp : Pair w B x x) : Blk ((w.drewN n).setCells B 1 [.int .i64 0]) B [.int .i64 x] ∧ w.grownBy ((w.drewN n).setCells B 1 [.int .i64 0]) (some B) := by
  have hd : Blk (w.drewN n) B [.int .i64 x, .int .i64 x] := Blk.kept hp (grownBy_drewN w none n) (by simp)
  have h1 := hd.put 1 (.int .i64 0)
  refine ⟨fun j hj => ?_, grownBy_trans (grownBy_drewN w _ n) (grownBy_cell _ _ _ _)⟩
  obtain rfl : j = 0 := by simpa using hj
  exact h1 0 (by simp)

set_option maxHeartbeats 1000000 in
theorem compact_eq (B cap : Nat) (x : Int) (w : World) (hp : Pair w B x x) (hc : 2 ≤ cap) :
    Calls Try.prog 98 #[.slice (some ⟨B, 0, none⟩) 2 cap] w fun e w' => e = .returned (.slice (some ⟨B, 0, none⟩) 1 cap) ∧ Blk w' B [.int .i64 x] ∧ w.grownBy w' (some B) := by
  have c0 := (hp 0 (by simp)).1
  have c1 := (hp 1 (by simp)).1
  have f1 := (hp 1 (by simp)).2
  have hv : ∀ W, (zeroValue 3).run Try.prog W = .ok (.int .i64 0) W := fun W => by kernel_rfl
  have hcl : ∀ n ty, (Builtin.clear_ #[23] ty #[.slice (some ⟨B, 1, none⟩) 1 (cap - 1)]).run Try.prog (w.drewN n) = .ok (.tuple #[]) ((w.drewN n).setCells B 1 [.int .i64 0]) := fun n ty =>
    Lib.run_clear_slice (w.drewN n) 23 3 ty (.int .i64 0) Try.underlying23 hv rfl rfl B 1 1 (cap - 1) (by omega) (fun j hj => by
      obtain rfl : j = 0 := by omega
      show (w.cell? ⟨B, 1, none⟩).isSome = true
      rw [c1]; rfl) (fun j hj => by
      obtain rfl : j = 0 := by omega
      exact f1)
  have HP := Lib.hid (fun n => cleared (n := n) hp)
  have k1 : ¬ cap = 1 := by omega
  have k2 : 1 ≤ cap := by omega
  clear hp hv
  go_enter Try.func98, Try.ntmps98
  go_wp2
  go_loopw [3] (fun c wr => (c = .int .i64 1 ∧ wr = w)) (fun c _ => 2 - (intOf c).toNat)
  case atStart => exact ⟨rfl, rfl⟩
  case round =>
    obtain ⟨rfl, rfl⟩ := hrel
    go_wp2_with fail
    go_quiet (fail)
    go_wp2_with fail
    go_loopw [3, 5] (fun c d wr2 => c = .int .i64 1 ∧ d = .int .i64 1 ∧ wr2 = wr.drewN nq) (fun c _ _ => 0)
    case atStart => exact ⟨rfl, rfl, rfl⟩
    case round =>
      obtain ⟨rfl, rfl, rfl⟩ := hrel
      go_wp2
      go_ret
      exact ⟨rfl, HP.out nq⟩
end Go.Proofs.Ythajndgljfbifaa
namespace Go.Proofs.Ythajndgljfbifaa
open Go.RowKit
set_option maxRecDepth 100000

/-- The program counters that may follow. -/
def tgtV (x : Ins) (p : Int) : List Int :=
  if x.op = 18 ∨ x.op = 21 then [x.imm] else if x.op = 22 ∨ x.op = 24 then [] else if x.op = 19 ∨ x.op = 20 then (if x.imm < p then [x.imm, p] else if p < x.imm then [p, x.imm] else [p]) else [p]

def i64s (l : List Int) : List Value := l.map fun n => Value.int .i64 n

theorem length_i64s (l : List Int) : (i64s l).length = l.length := by simp [i64s]

theorem ints_blk {w : World} {B : Nat} {l : List Int} (h : Blk w B (i64s l)) : IntsAt .i64 w (some ⟨B, 0, none⟩) l :=
  .inr ⟨B, 0, rfl, fun i hi => by
    have := (h i (by rw [length_i64s]; exact hi)).1
    simpa [i64s] using this⟩

/-- Ints in a block from lo on. -/
def IntsLo (lo : Nat) (w : World) (a : Option Addr) (l : List Int) : Prop := l = [] ∨ ∃ b off, a = some ⟨b, off, none⟩ ∧ lo ≤ b ∧ ∀ i (h : i < l.length), w.cell? ⟨b, off + i, none⟩ = some (.int .i64 l[i])

theorem IntsLo.at {lo : Nat} {w : World} {a : Option Addr} {l : List Int} (h : IntsLo lo w a l) : IntsAt .i64 w a l := h.imp id fun ⟨b, off, h1, _, h3⟩ => ⟨b, off, h1, h3⟩

theorem ints_lo {w : World} {B lo : Nat} {l : List Int} (hlo : lo ≤ B) (h : Blk w B (i64s l)) : IntsLo lo w (some ⟨B, 0, none⟩) l :=
  .inr ⟨B, 0, rfl, hlo, fun i hi => by
    have := (h i (by rw [length_i64s]; exact hi)).1
    simpa [i64s] using this⟩

/-- The call returns ints in new memory. -/
def GivesInts (l : List Int) (w : World) (e : Ending) (w' : World) : Prop :=
  ∃ a cap, e = .returned (.slice a l.length cap) ∧ IntsLo w.heap.size w' a l ∧ Below w.heap.size w w'

theorem tgt_jump (x : Ins) (p : Int) (h : x.op = 18 ∨ x.op = 21) : tgtV x p = [x.imm] := by unfold tgtV; rw [if_pos h]
theorem tgt_none (x : Ins) (p : Int) (h : x.op = 22 ∨ x.op = 24) : tgtV x p = [] := by unfold tgtV; rw [if_neg (by omega), if_pos h]
theorem tgt_lo (x : Ins) (p : Int) (h : x.op = 19 ∨ x.op = 20) (h2 : x.imm < p) : tgtV x p = [x.imm, p] := by unfold tgtV; rw [if_neg (by omega), if_neg (by omega), if_pos h, if_pos h2]
theorem tgt_hi (x : Ins) (p : Int) (h : x.op = 19 ∨ x.op = 20) (h2 : p < x.imm) : tgtV x p = [p, x.imm] := by unfold tgtV; rw [if_neg (by omega), if_neg (by omega), if_pos h, if_neg (by omega), if_pos h2]
theorem tgt_eq (x : Ins) (p : Int) (h : x.op = 19 ∨ x.op = 20) (h2 : p = x.imm) : tgtV x p = [p] := by unfold tgtV; rw [if_neg (by omega), if_neg (by omega), if_pos h, if_neg (by omega), if_neg (by omega)]
theorem tgt_rest (x : Ins) (p : Int) (h1 : ¬ (x.op = 18 ∨ x.op = 21)) (h2 : ¬ (x.op = 22 ∨ x.op = 24)) (h3 : ¬ (x.op = 19 ∨ x.op = 20)) : tgtV x p = [p] := by unfold tgtV; rw [if_neg h1, if_neg h2, if_neg h3]

theorem gives_one {w W : World} {v : Int} {B : Nat} (hB : Below w.heap.size w W) (hS : W.heap.size = B) : GivesInts [v] w (.returned (.slice (some ⟨B, 0, none⟩) 1 1)) (W.alloc (.cells #[.int .i64 v] 3)) :=
  hS ▸ ⟨_, 1, rfl, ints_lo (l := [v]) hB.size (Blk.new (W := W) _ _), hB.alloc hB.size _⟩

theorem gives_two {w W : World} {u v : Int} {B : Nat} (hB : Below w.heap.size w W) (hS : W.heap.size = B) : GivesInts [u, v] w (.returned (.slice (some ⟨B, 0, none⟩) 2 2)) (W.alloc (.cells #[.int .i64 u, .int .i64 v] 3)) :=
  hS ▸ ⟨_, 2, rfl, ints_lo (l := [u, v]) hB.size (Blk.new (W := W) _ _), hB.alloc hB.size _⟩

theorem gives_none {w W : World} (hB : Below w.heap.size w W) : GivesInts [] w (.returned (.slice none 0 0)) W := ⟨none, 0, rfl, .inl rfl, hB⟩

set_option maxHeartbeats 4000000 in
theorem ref06_Targets (x : Ins) (p : Nat) (w : World) (hp : p < 64) :
    Calls Try.prog 28 #[insV x, .int .i64 (p : Int)] w (GivesInts (tgtV x ((p : Int) + 1)) w) := by
  have hw : IntKind.i64.wrap ((p : Int) + 1) = (p : Int) + 1 := IntWalk.i64_in _ (by omega)
  have T1 := tgt_jump x ((p : Int) + 1)
  have T2 := tgt_none x ((p : Int) + 1)
  have T3 := tgt_lo x ((p : Int) + 1)
  have T4 := tgt_hi x ((p : Int) + 1)
  have T5 := tgt_eq x ((p : Int) + 1)
  have T6 := tgt_rest x ((p : Int) + 1)
  generalize tgtV x ((p : Int) + 1) = L at *
  obtain ⟨op, a, b, c, imm⟩ := x
  simp only at T1 T2 T3 T4 T5 T6
  unfold insV
  have hB := Below.alloc (Below.refl w.heap.size w) (Nat.le_refl _) (.cells #[.int .i64 op, .int .i64 a, .int .i64 b, .int .i64 c, .int .i64 imm] 66)
  by_cases h1 : op = 18 ∨ op = 21
  · have HT := T1 h1
    subst HT
    have HG := Lib.hid (gives_one (v := imm) hB (B := w.heap.size + 1) (by simp))
    clear T1 T2 T3 T4 T5 T6 hB
    rcases h1 with rfl | rfl
    all_goals
      go_enter Try.func28, Try.ntmps28
      go_wp2
      go_ret
      exact HG.out
  by_cases h2 : op = 22 ∨ op = 24
  · have HT := T2 h2
    subst HT
    have HG := Lib.hid (gives_none hB)
    clear T1 T2 T3 T4 T5 T6 hB h1
    rcases h2 with rfl | rfl
    all_goals
      go_enter Try.func28, Try.ntmps28
      go_wp2
      go_ret
      exact HG.out
  by_cases h3 : op = 19 ∨ op = 20
  · rcases (by omega : imm < (p : Int) + 1 ∨ (p : Int) + 1 < imm ∨ (p : Int) + 1 = imm) with h4 | h4 | h4
    · have HT := T3 h3 h4
      subst HT
      have HG := Lib.hid (gives_two (u := imm) (v := (p : Int) + 1) hB (B := w.heap.size + 1) (by simp))
      clear T1 T2 T3 T4 T5 T6 hB h1 h2
      rcases h3 with rfl | rfl
      all_goals
        go_enter Try.func28, Try.ntmps28
        go_wp2
        go_ret
        exact HG.out
    · have HT := T4 h3 h4
      subst HT
      have HG := Lib.hid (gives_two (u := (p : Int) + 1) (v := imm) hB (B := w.heap.size + 1) (by simp))
      have h5 : ¬ imm < (p : Int) + 1 := by omega
      clear T1 T2 T3 T4 T5 T6 hB h1 h2
      rcases h3 with rfl | rfl
      all_goals
        go_enter Try.func28, Try.ntmps28
        go_wp2
        go_ret
        exact HG.out
    · have HT := T5 h3 h4
      subst HT
      have HG := Lib.hid (gives_one (v := (p : Int) + 1) hB (B := w.heap.size + 1) (by simp))
      have h5 : ¬ imm < (p : Int) + 1 := by omega
      have h6 : ¬ (p : Int) + 1 < imm := by omega
      clear T1 T2 T3 T4 T5 T6 hB h1 h2 h4
      rcases h3 with rfl | rfl
      all_goals
        go_enter Try.func28, Try.ntmps28
        go_wp2
        go_ret
        exact HG.out
  · have HT := T6 h1 h2 h3
    subst HT
    have HG := Lib.hid (gives_one (v := (p : Int) + 1) hB (B := w.heap.size + 1) (by simp))
    have g1 : (op == 18) = false := by rw [beq_eq_false_iff_ne]; omega
    have g2 : (op == 19) = false := by rw [beq_eq_false_iff_ne]; omega
    have g3 : (op == 20) = false := by rw [beq_eq_false_iff_ne]; omega
    have g4 : (op == 21) = false := by rw [beq_eq_false_iff_ne]; omega
    have g5 : (op == 22) = false := by rw [beq_eq_false_iff_ne]; omega
    have g6 : (op == 24) = false := by rw [beq_eq_false_iff_ne]; omega
    clear T1 T2 T3 T4 T5 T6 hB h1 h2 h3
    go_enter Try.func28, Try.ntmps28
    go_wp2
    go_ret
    exact HG.out
end Go.Proofs.Ythajndgljfbifaa
namespace Go.Proofs.Ythajndgljfbifaa
open Go.RowKit
set_option maxRecDepth 100000

/-- The call returns one int that it owns. -/
def GivesOwn1 (base : Nat) (v : Int) (w : World) (e : Ending) (w' : World) : Prop :=
  ∃ g, e = .returned (.slice (some ⟨g, 0, none⟩) 1 1) ∧ w'.ownsRow base 3 1 (.slice (some ⟨g, 0, none⟩) 1 1) 1 [.int .i64 v] ∧ Below w.heap.size w w'

theorem instr_behind (base p : Nat) (w : World) (hp : p < 64) (hb : base ≤ w.heap.size) :
    Calls Try.prog 96 #[.int .i64 (p : Int)] w (GivesOwn1 base ((p : Int) + 1) w) := by
  have hw : IntKind.i64.wrap ((p : Int) + 1) = (p : Int) + 1 := IntWalk.i64_in _ (by omega)
  have h1 : ((p : Int) == 9223372036854775807) = false := by rw [beq_eq_false_iff_ne]; omega
  have HO := Lib.hid (World.ownsRow_lit (size := 1) (e := 3) w #[.int .i64 ((p : Int) + 1)] 1 hb (by decide) rfl)
  clear hb
  go_enter Try.func96, Try.ntmps96
  go_wp2
  go_ret
  exact ⟨_, rfl, HO.out, (Below.refl _ _).alloc (Nat.le_refl _) _⟩

theorem keep4 {w1 W : World} {n b : Nat} {v : Value} (h : ∀ W, Below n w1 W → W.cell? ⟨b, 4, none⟩ = some v) (hb : Below n w1 W) : W.cell? ⟨b, 4, none⟩ = some v ∧ Below n w1 W := ⟨h _ hb, hb⟩

/-- Two ints that the call owns. -/
theorem pair_own {w : World} {B g cap : Nat} {x y : Int} (h : w.ownsRow B 3 1 (.slice (some ⟨g, 0, none⟩) (1 + 1) cap) (1 + 1) ([.int .i64 x] ++ [.int .i64 y])) : Pair w g x y ∧ 2 ≤ cap ∧ B ≤ g := by
  refine ⟨fun j hj => ⟨?_, h.frozenAt j⟩, ?_, (h.lt g rfl).1⟩
  · have hj2 : j < 2 := by simpa using hj
    have := h.cellAt j (by omega)
    rw [this]
    rcases (by omega : j = 0 ∨ j = 1) with rfl | rfl <;> rfl
  · rcases h.2 with ⟨h1, _⟩ | ⟨g', cap', cur, hv, _, _, hc, _⟩
    · cases h1
    · cases hv; exact hc

set_option maxHeartbeats 4000000 in
theorem instr_Targets (x : Ins) (p : Nat) (w : World) (hp : p < 64) (hx : vinB x = true) :
    Calls Try.prog 71 #[insV x, .int .i64 (p : Int)] w (GivesInts (tgtV x ((p : Int) + 1)) w) := by
  have HV := Lib.hid (fun W => instr_Valid x W)
  rw [hx] at HV
  have HBh := Lib.hid (fun base W (h : base ≤ W.heap.size) => instr_behind base p W hp h)
  have T1 := tgt_jump x ((p : Int) + 1)
  have T2 := tgt_none x ((p : Int) + 1)
  have T3 := tgt_lo x ((p : Int) + 1)
  have T4 := tgt_hi x ((p : Int) + 1)
  have T5 := tgt_eq x ((p : Int) + 1)
  have T6 := tgt_rest x ((p : Int) + 1)
  generalize tgtV x ((p : Int) + 1) = L at *
  clear hx
  obtain ⟨op, a, b, c, imm⟩ := x
  simp only at T1 T2 T3 T4 T5 T6
  unfold insV at *
  simp only at HV
  have hB := Below.alloc (Below.refl w.heap.size w) (Nat.le_refl _) (.cells #[.int .i64 op, .int .i64 a, .int .i64 b, .int .i64 c, .int .i64 imm] 66)
  have b0 := Blk.new (W := w) #[.int .i64 op, .int .i64 a, .int .i64 b, .int .i64 c, .int .i64 imm] 66
  go_enter Try.func71, Try.ntmps71
  go_wp2_with fail
  refine (HV.out _).mono ?_
  rintro e w1 ⟨rfl, hb1⟩
  have b1 := b0.later hb1
  have hB1 := hB.trans (hb1.mono hB.size)
  have e0 := (b1 0 (by simp)).1
  have e4 := (b1 4 (by simp)).1
  clear b0 hb1 hB HV
  by_cases h1 : op = 18 ∨ op = 21
  · have HT := T1 h1
    subst HT
    have HG := Lib.hid (gives_one (v := imm) hB1 rfl)
    clear T1 T2 T3 T4 T5 T6 hB1 b1
    rcases h1 with rfl | rfl
    all_goals
      go_wp2
      go_ret
      exact HG.out
  by_cases h2 : op = 22 ∨ op = 24
  · have HT := T2 h2
    subst HT
    have HG := Lib.hid (gives_none hB1)
    clear T1 T2 T3 T4 T5 T6 hB1 h1 b1
    rcases h2 with rfl | rfl
    all_goals
      go_wp2
      go_ret
      exact HG.out
  by_cases h3 : op = 19 ∨ op = 20
  · obtain ⟨i0, hi, hz0, hz1, hz2⟩ := info_parts info_int
    have HB1 := Lib.hid hB1
    have C4 := Lib.hid (fun W (h : Below w1.heap.size w1 W) => cell_later h e4)
    have HM : Hid ((∃ u v, u ≠ v ∧ L = [u, v] ∧ min ((p : Int) + 1) imm = u ∧ max ((p : Int) + 1) imm = v) ∨ (L = [(p : Int) + 1] ∧ min ((p : Int) + 1) imm = (p : Int) + 1 ∧ max ((p : Int) + 1) imm = (p : Int) + 1)) := Lib.hid (by
      rcases (by omega : imm < (p : Int) + 1 ∨ (p : Int) + 1 < imm ∨ (p : Int) + 1 = imm) with h4 | h4 | h4
      · exact .inl ⟨_, _, by omega, T3 h3 h4, by omega, by omega⟩
      · exact .inl ⟨_, _, by omega, T4 h3 h4, by omega, by omega⟩
      · exact .inr ⟨T5 h3 h4, by omega, by omega⟩)
    clear T1 T2 T3 T4 T5 T6 hB1 h1 h2 b1
    rcases h3 with rfl | rfl
    all_goals
      go_upto_region 9 with fail
      go_cut [5] (fun v wx => ∃ g cap, v = .slice (some ⟨g, 0, none⟩) 2 cap ∧ Pair wx g ((p : Int) + 1) imm ∧ 2 ≤ cap ∧ w1.heap.size ≤ g ∧ Below w1.heap.size w1 wx)
      case first =>
        go_region_held_law (fun W => W.cell? ⟨w.heap.size, 4, none⟩ = some (.int .i64 imm) ∧ Below w1.heap.size w1 W)
          (first
            | exact ⟨e4, Below.refl _ _⟩
            | exact ⟨e4, (Below.refl _ _).drew⟩
            | assumption
            | exact keep4 C4.out hb8
            | (refine keep4 C4.out ?_; go_split_ands; exact Below.trans (by assumption) (hb7.mono (Below.size (by assumption))))
            | (refine keep4 C4.out ?_; go_split_ands; exact Below.alloc (by assumption) (Below.size (by assumption)) _))
          (first
            | (go_at_call 96; (with_reducible refine (HBh.out w1.heap.size _ (Below.size (by go_split_ands; assumption))).mono ?_); rintro e w7 ⟨g7, rfl, own7, hb7⟩; dsimp only)
            | (refine step_append_lies _ rfl (.tmp 21) (.tmp 24) 23 rfl w1.heap.size 3 i0 (.int .i64 0) 1 8 Try.underlying23 hi hz0 hz1 hz2 rfl (by decide) _ 1 [.int .i64 ((p : Int) + 1)] rfl ((own7.alloc _).drew) ⟨w7.heap.size, 0, none⟩ 1 1 [.int .i64 imm] rfl rfl (World.news_of_block (cs := #[.int .i64 imm]) (t := 3) (fr := (0, 0)) (heap_alloc_new w7 _)) (by simp [Value.oneCell']) (by decide) (by unfold maxLen; omega) (by omega) (Below.size (by go_split_ands; assumption)) _ rfl ?_; intro g8 cap8 w8 hown8 hg8 hat8 hlt8; have hb8 := Below.grown (by go_split_ands; assumption) hg8 (Below.size (by go_split_ands; assumption)) (fun k hk => (own7.lt k hk).1); have h8 := pair_own hown8; clear hg8 hat8 hlt8 hown8 own7)
            | (refine step_append_lies _ rfl (.tmp 21) (.tmp 24) 23 rfl w1.heap.size 3 i0 (.int .i64 0) 1 8 Try.underlying23 hi hz0 hz1 hz2 rfl (by decide) _ 1 [.int .i64 ((p : Int) + 1)] rfl own7.drew ⟨w1.heap.size, 0, none⟩ 1 1 [.int .i64 imm] rfl rfl (blk_news (((Blk.new (W := w1) #[.int .i64 imm] 3).later (Below.refl _ _).drew).later hb7)) (by simp [Value.oneCell']) (by decide) (by unfold maxLen; omega) (by omega) (Below.size (by go_split_ands; assumption)) _ rfl ?_; intro g8 cap8 w8 hown8 hg8 hat8 hlt8; have hb8 := Below.grown (by go_split_ands; assumption) hg8 (Below.size (by go_split_ands; assumption)) (fun k hk => (own7.lt k hk).1); have h8 := pair_own hown8; clear hg8 hat8 hlt8 hown8 own7))
        all_goals
          have H8 := Lib.hid h8
          have HB8 := Lib.hid hb8
          clear h8 hb8
          simp only [List.getElem_toArray, List.getElem_cons_succ, List.getElem_cons_zero]
          go_wp2_with fail
          go_meet
          exact ⟨_, _, rfl, H8.out.1, H8.out.2.1, H8.out.2.2, HB8.out⟩
      case rest =>
        obtain ⟨g, cap, rfl, hp2, hc2, hg, hB2⟩ := hcut
        have HS := Lib.hid (sort_two g cap ((p : Int) + 1) imm _ hp2)
        have hB3 := HB1.out.trans (hB2.mono HB1.out.size)
        have hg3 : w.heap.size ≤ g := by have := HB1.out.size; omega
        clear hp2 hB2 hg HB1 C4 HBh hi hz0 hz1 hz2 e0 e4
        go_wp2_with fail
        refine HS.out.mono ?_
        rintro e w9 ⟨rfl, hp9, hg9⟩
        have hB4 := hB3.grown hg9 hB3.size (fun k hk => by cases hk; exact hg3)
        clear HS hg9 hB3
        rcases HM.out with ⟨u, v, huv, rfl, hu, hv⟩ | ⟨rfl, hu, hv⟩
        · rw [hu, hv] at hp9
          have HC := Lib.hid (compact_ne g cap u v w9 hp9 huv)
          have hB4 := Lib.hid hB4
          have hg3 := Lib.hid hg3
          clear hp9 hu hv huv HM
          go_wp2_with fail
          refine HC.out.mono ?_
          rintro e w10 ⟨rfl, hp10, hg10⟩
          have HG : Hid (GivesInts [u, v] w (.returned (.slice (some ⟨g, 0, none⟩) 2 cap)) w10) := Lib.hid ⟨_, cap, rfl, ints_lo (l := [u, v]) hg3.out hp10, hB4.out.grown hg10 hB4.out.size (fun k hk => by cases hk; exact hg3.out)⟩
          clear hp10 hg10
          go_wp2
          go_ret
          exact HG.out
        · rw [hu, hv] at hp9
          have HC := Lib.hid (compact_eq g cap _ w9 hp9 hc2)
          have hB4 := Lib.hid hB4
          have hg3 := Lib.hid hg3
          clear hp9 hu hv HM
          go_wp2_with fail
          refine HC.out.mono ?_
          rintro e w10 ⟨rfl, hp10, hg10⟩
          have HG : Hid (GivesInts [(p : Int) + 1] w (.returned (.slice (some ⟨g, 0, none⟩) 1 cap)) w10) := Lib.hid ⟨_, cap, rfl, ints_lo (l := [(p : Int) + 1]) hg3.out hp10, hB4.out.grown hg10 hB4.out.size (fun k hk => by cases hk; exact hg3.out)⟩
          clear hp10 hg10
          go_wp2
          go_ret
          exact HG.out
  · have HT := T6 h1 h2 h3
    subst HT
    have g1 : (op == 18) = false := by rw [beq_eq_false_iff_ne]; omega
    have g2 : (op == 19) = false := by rw [beq_eq_false_iff_ne]; omega
    have g3 : (op == 20) = false := by rw [beq_eq_false_iff_ne]; omega
    have g4 : (op == 21) = false := by rw [beq_eq_false_iff_ne]; omega
    have g5 : (op == 22) = false := by rw [beq_eq_false_iff_ne]; omega
    have g6 : (op == 24) = false := by rw [beq_eq_false_iff_ne]; omega
    have HB1 := Lib.hid hB1
    clear T1 T2 T3 T4 T5 T6 hB1 h1 h2 h3 b1
    go_wp2_with fail
    refine (HBh.out w1.heap.size _ (Nat.le_refl _)).mono ?_
    rintro e w7 ⟨g7, rfl, own7, hb7⟩
    have HG : Hid (GivesInts [(p : Int) + 1] w (.returned (.slice (some ⟨g7, 0, none⟩) 1 1)) w7) := Lib.hid ⟨_, 1, rfl, ints_lo (l := [(p : Int) + 1]) (by have h1 := HB1.out.size; have h2 := (own7.lt g7 rfl).1; omega) (fun j hj => ⟨by
      obtain rfl : j = 0 := by simpa [i64s] using hj
      exact own7.cellAt 0 (by omega), own7.frozenAt j⟩), HB1.out.trans (hb7.mono HB1.out.size)⟩
    clear own7 hb7
    go_wp2
    go_ret
    exact HG.out
end Go.Proofs.Ythajndgljfbifaa
