/-
  Targets of the document; behind.
-/
import Derived.Test.YtbhpolnoeccofaaCompact2
namespace Go.Proofs.Ytbhpolnoeccofaa
open Go.RowKit
set_option maxRecDepth 100000

/-- The program counters that may follow. -/
def tgtV (x : Ins) (p : Int) : List Int :=
  if x.op = 18 ∨ x.op = 21 then [x.imm] else if x.op = 22 ∨ x.op = 24 then [] else if x.op = 19 ∨ x.op = 20 then (if x.imm < p then [x.imm, p] else if p < x.imm then [p, x.imm] else [p]) else [p]

def i64s (l : List Int) : List Value := l.map fun n => Value.int .i64 n

theorem length_i64s (l : List Int) : (i64s l).length = l.length := by simp [i64s]

theorem ints_blk {w : World} {B : Nat} {l : List Int} (h : Blk w B (i64s l)) : IntsAt .i64 w (some ⟨B, 0, none⟩) l :=
  .inr ⟨B, 0, rfl, fun i hi => by
    have := (h i (by rw [length_i64s]; exact hi)).1
    simpa [i64s] using this⟩

/-- The call returns ints in new memory. -/
def GivesInts (l : List Int) (w : World) (e : Ending) (w' : World) : Prop :=
  ∃ a cap, e = .returned (.slice a l.length cap) ∧ IntsAt .i64 w' a l ∧ Below w.heap.size w w'

theorem tgt_jump (x : Ins) (p : Int) (h : x.op = 18 ∨ x.op = 21) : tgtV x p = [x.imm] := by unfold tgtV; rw [if_pos h]
theorem tgt_none (x : Ins) (p : Int) (h : x.op = 22 ∨ x.op = 24) : tgtV x p = [] := by unfold tgtV; rw [if_neg (by omega), if_pos h]
theorem tgt_lo (x : Ins) (p : Int) (h : x.op = 19 ∨ x.op = 20) (h2 : x.imm < p) : tgtV x p = [x.imm, p] := by unfold tgtV; rw [if_neg (by omega), if_neg (by omega), if_pos h, if_pos h2]
theorem tgt_hi (x : Ins) (p : Int) (h : x.op = 19 ∨ x.op = 20) (h2 : p < x.imm) : tgtV x p = [p, x.imm] := by unfold tgtV; rw [if_neg (by omega), if_neg (by omega), if_pos h, if_neg (by omega), if_pos h2]
theorem tgt_eq (x : Ins) (p : Int) (h : x.op = 19 ∨ x.op = 20) (h2 : p = x.imm) : tgtV x p = [p] := by unfold tgtV; rw [if_neg (by omega), if_neg (by omega), if_pos h, if_neg (by omega), if_neg (by omega)]
theorem tgt_rest (x : Ins) (p : Int) (h1 : ¬ (x.op = 18 ∨ x.op = 21)) (h2 : ¬ (x.op = 22 ∨ x.op = 24)) (h3 : ¬ (x.op = 19 ∨ x.op = 20)) : tgtV x p = [p] := by unfold tgtV; rw [if_neg h1, if_neg h2, if_neg h3]

theorem gives_one {w W : World} {v : Int} {B : Nat} (hB : Below w.heap.size w W) (hS : W.heap.size = B) : GivesInts [v] w (.returned (.slice (some ⟨B, 0, none⟩) 1 1)) (W.alloc (.cells #[.int .i64 v] 3)) :=
  hS ▸ ⟨_, 1, rfl, ints_blk (l := [v]) (Blk.new (W := W) _ _), hB.alloc hB.size _⟩

theorem gives_two {w W : World} {u v : Int} {B : Nat} (hB : Below w.heap.size w W) (hS : W.heap.size = B) : GivesInts [u, v] w (.returned (.slice (some ⟨B, 0, none⟩) 2 2)) (W.alloc (.cells #[.int .i64 u, .int .i64 v] 3)) :=
  hS ▸ ⟨_, 2, rfl, ints_blk (l := [u, v]) (Blk.new (W := W) _ _), hB.alloc hB.size _⟩

theorem gives_none {w W : World} (hB : Below w.heap.size w W) : GivesInts [] w (.returned (.slice none 0 0)) W := ⟨none, 0, rfl, .inl rfl, hB⟩

set_option maxHeartbeats 4000000 in
theorem ref06_Targets (x : Ins) (p : Nat) (w : World) (hp : p < 64) :
    Calls Try.prog 20 #[insV x, .int .i64 (p : Int)] w (GivesInts (tgtV x ((p : Int) + 1)) w) := by
  have hw : IntKind.i64.wrap ((p : Int) + 1) = (p : Int) + 1 := IntWalk.i64_in _ (by omega)
  have T1 := tgt_jump x ((p : Int) + 1)
  have T2 := tgt_none x ((p : Int) + 1)
  have T3 := tgt_lo x ((p : Int) + 1)
  have T4 := tgt_hi x ((p : Int) + 1)
  have T5 := tgt_eq x ((p : Int) + 1)
  have T6 := tgt_rest x ((p : Int) + 1)
  generalize tgtV x ((p : Int) + 1) = L at *
  obtain ⟨op, a, b, c, imm⟩ := x
  simp only at T1 T2 T3 T4 T5 T6
  unfold insV
  have hB := Below.alloc (Below.refl w.heap.size w) (Nat.le_refl _) (.cells #[.int .i64 op, .int .i64 a, .int .i64 b, .int .i64 c, .int .i64 imm] 23)
  by_cases h1 : op = 18 ∨ op = 21
  · have HT := T1 h1
    subst HT
    have HG := Lib.hid (gives_one (v := imm) hB (B := w.heap.size + 1) (by simp))
    clear T1 T2 T3 T4 T5 T6 hB
    rcases h1 with rfl | rfl
    all_goals
      go_enter Try.func20, Try.ntmps20
      go_wp2
      go_ret
      exact HG.out
  by_cases h2 : op = 22 ∨ op = 24
  · have HT := T2 h2
    subst HT
    have HG := Lib.hid (gives_none hB)
    clear T1 T2 T3 T4 T5 T6 hB h1
    rcases h2 with rfl | rfl
    all_goals
      go_enter Try.func20, Try.ntmps20
      go_wp2
      go_ret
      exact HG.out
  by_cases h3 : op = 19 ∨ op = 20
  · rcases (by omega : imm < (p : Int) + 1 ∨ (p : Int) + 1 < imm ∨ (p : Int) + 1 = imm) with h4 | h4 | h4
    · have HT := T3 h3 h4
      subst HT
      have HG := Lib.hid (gives_two (u := imm) (v := (p : Int) + 1) hB (B := w.heap.size + 1) (by simp))
      clear T1 T2 T3 T4 T5 T6 hB h1 h2
      rcases h3 with rfl | rfl
      all_goals
        go_enter Try.func20, Try.ntmps20
        go_wp2
        go_ret
        exact HG.out
    · have HT := T4 h3 h4
      subst HT
      have HG := Lib.hid (gives_two (u := (p : Int) + 1) (v := imm) hB (B := w.heap.size + 1) (by simp))
      have h5 : ¬ imm < (p : Int) + 1 := by omega
      clear T1 T2 T3 T4 T5 T6 hB h1 h2
      rcases h3 with rfl | rfl
      all_goals
        go_enter Try.func20, Try.ntmps20
        go_wp2
        go_ret
        exact HG.out
    · have HT := T5 h3 h4
      subst HT
      have HG := Lib.hid (gives_one (v := (p : Int) + 1) hB (B := w.heap.size + 1) (by simp))
      have h5 : ¬ imm < (p : Int) + 1 := by omega
      have h6 : ¬ (p : Int) + 1 < imm := by omega
      clear T1 T2 T3 T4 T5 T6 hB h1 h2 h4
      rcases h3 with rfl | rfl
      all_goals
        go_enter Try.func20, Try.ntmps20
        go_wp2
        go_ret
        exact HG.out
  · have HT := T6 h1 h2 h3
    subst HT
    have HG := Lib.hid (gives_one (v := (p : Int) + 1) hB (B := w.heap.size + 1) (by simp))
    have g1 : (op == 18) = false := by rw [beq_eq_false_iff_ne]; omega
    have g2 : (op == 19) = false := by rw [beq_eq_false_iff_ne]; omega
    have g3 : (op == 20) = false := by rw [beq_eq_false_iff_ne]; omega
    have g4 : (op == 21) = false := by rw [beq_eq_false_iff_ne]; omega
    have g5 : (op == 22) = false := by rw [beq_eq_false_iff_ne]; omega
    have g6 : (op == 24) = false := by rw [beq_eq_false_iff_ne]; omega
    clear T1 T2 T3 T4 T5 T6 hB h1 h2 h3
    go_enter Try.func20, Try.ntmps20
    go_wp2
    go_ret
    exact HG.out
end Go.Proofs.Ytbhpolnoeccofaa
