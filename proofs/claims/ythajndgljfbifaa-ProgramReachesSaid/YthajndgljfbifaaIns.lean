/-
  Instructions: what they use, the small makers, the document's Uses and Jump.
-/
import Derived.Test.YthajndgljfbifaaTab
import Derived.Test.YthajndgljfbifaaDeckNext
namespace Go.Proofs.Ythajndgljfbifaa
open Go.RowKit

/-- An instruction. -/
structure Ins where
  op : Int
  a : Int
  b : Int
  c : Int
  imm : Int

/-- Its cells. -/
def insRow (x : Ins) : List Value := [.int .i64 x.op, .int .i64 x.a, .int .i64 x.b, .int .i64 x.c, .int .i64 x.imm]

theorem length_insRow (x : Ins) : (insRow x).length = 5 := rfl

/-- Its value. -/
def insV (x : Ins) : Value := .agg #[.int .i64 x.op, .int .i64 x.a, .int .i64 x.b, .int .i64 x.c, .int .i64 x.imm]

/-- Which fields an operation uses. -/
def usA (op : Int) : Bool := decide (op ≠ 0 ∧ op ≠ 18 ∧ op ≠ 23 ∧ op ≠ 24)
def usB (op : Int) : Bool := decide (op = 2 ∨ op = 16 ∨ op = 17 ∨ (3 ≤ op ∧ op ≤ 14))
def usC (op : Int) : Bool := decide (3 ≤ op ∧ op ≤ 14)
def usI (op : Int) : Bool := decide (op = 1 ∨ op = 15 ∨ op = 19 ∨ op = 20 ∨ op = 21 ∨ op = 16 ∨ op = 17 ∨ op = 18 ∨ op = 23)
def jumpB (op : Int) : Bool := decide (op = 18 ∨ op = 19 ∨ op = 20 ∨ op = 21)

/-- A valid instruction whose jump goes to one of the first most, and whose region is one of n. -/
def InsIn (n most : Nat) (x : Ins) : Prop :=
  0 ≤ x.op ∧ x.op ≤ 24 ∧ 0 ≤ x.a ∧ x.a < 8 ∧ 0 ≤ x.b ∧ x.b < 8 ∧ 0 ≤ x.c ∧ x.c < 8 ∧ 0 ≤ x.imm ∧ x.imm ≤ 65535 ∧ (usA x.op = false → x.a = 0) ∧ (usB x.op = false → x.b = 0) ∧ (usC x.op = false → x.c = 0) ∧
  (usI x.op = false → x.imm = 0) ∧ (jumpB x.op = true → x.imm < (most : Int)) ∧ (x.op = 15 → x.imm < (n : Int)) ∧ (x.op = 23 → x.imm ≤ 15)

theorem InsIn.mono {n m m' : Nat} {x : Ins} (h : InsIn n m x) (hm : m ≤ m') : InsIn n m' x := by
  obtain ⟨h1, h2, h3, h4, h5, h6, h7, h8, h9, h10, h11, h12, h13, h14, h15, h16, h17⟩ := h
  exact ⟨h1, h2, h3, h4, h5, h6, h7, h8, h9, h10, h11, h12, h13, h14, fun h => by have := h15 h; omega, h16, h17⟩

theorem ops_of {op : Int} (h0 : 0 ≤ op) (h1 : op ≤ 24) : op = 0 ∨ op = 1 ∨ op = 2 ∨ op = 3 ∨ op = 4 ∨ op = 5 ∨ op = 6 ∨ op = 7 ∨ op = 8 ∨ op = 9 ∨ op = 10 ∨ op = 11 ∨ op = 12 ∨ op = 13 ∨ op = 14 ∨ op = 15 ∨ op = 16 ∨ op = 17 ∨ op = 18 ∨ op = 19 ∨ op = 20 ∨ op = 21 ∨ op = 22 ∨ op = 23 ∨ op = 24 := by omega

theorem ref06_Jump (op : Int) (w : World) :
    Calls Try.prog 43 #[.int .i64 op] w fun e w' => e = .returned (.bool (jumpB op)) ∧ w = w' := by
  by_cases h1 : op = 18
  · subst h1
    go_enter Try.func43, Try.ntmps43
    go_wp2
    go_ret
    exact ⟨rfl, rfl⟩
  by_cases h2 : op = 19
  · subst h2
    go_enter Try.func43, Try.ntmps43
    go_wp2
    go_ret
    exact ⟨rfl, rfl⟩
  by_cases h3 : op = 20
  · subst h3
    go_enter Try.func43, Try.ntmps43
    go_wp2
    go_ret
    exact ⟨rfl, rfl⟩
  by_cases h4 : op = 21
  · subst h4
    go_enter Try.func43, Try.ntmps43
    go_wp2
    go_ret
    exact ⟨rfl, rfl⟩
  have hj : Hid (jumpB op = false) := Lib.hid (by unfold jumpB; exact decide_eq_false (by omega))
  have g1 : (op == 18) = false := by rw [beq_eq_false_iff_ne]; omega
  have g2 : (op == 19) = false := by rw [beq_eq_false_iff_ne]; omega
  have g3 : (op == 20) = false := by rw [beq_eq_false_iff_ne]; omega
  have g4 : (op == 21) = false := by rw [beq_eq_false_iff_ne]; omega
  clear h1 h2 h3 h4
  go_enter Try.func43, Try.ntmps43
  go_wp2
  go_ret
  exact ⟨ret_bool hj.out.symm, rfl⟩

/-- The array of fields that an operation uses. -/
def usV (op : Int) : Value := .agg #[.bool (usA op), .bool (usB op), .bool (usC op), .bool (usI op)]

set_option maxHeartbeats 4000000 in
theorem ref06_Uses (op : Int) (w : World) (h0 : 0 ≤ op) (h1 : op ≤ 24) :
    Calls Try.prog 78 #[.int .i64 op] w fun e w' => e = .returned (usV op) ∧ Below w.heap.size w w' := by
  rcases ops_of h0 h1 with rfl | rfl | rfl | rfl | rfl | rfl | rfl | rfl | rfl | rfl | rfl | rfl | rfl | rfl | rfl | rfl | rfl | rfl | rfl | rfl | rfl | rfl | rfl | rfl | rfl
  all_goals
    go_enter Try.func78, Try.ntmps78
    go_wp2
    refine bodyPost_ret (by simp [results, Try.results78, go_sem]; rfl) rfl ⟨rfl, ?_⟩
    exact Below.alloc (Below.refl w.heap.size w) (Nat.le_refl _) _

theorem make_li (r n : Int) (w : World) :
    Calls Try.prog 41 #[.int .i64 r, .int .i64 n] w fun e w' => e = .returned (insV ⟨1, r, 0, 0, n⟩) ∧ Below w.heap.size w w' := by
  go_enter Try.func41, Try.ntmps41
  go_wp2
  refine bodyPost_ret (v := insV ⟨1, r, 0, 0, n⟩) (by simp [results, Try.results41, go_sem, insV]) rfl ⟨rfl, ?_⟩
  exact Below.alloc (Below.refl w.heap.size w) (Nat.le_refl _) _

theorem make_mov (a b : Int) (w : World) :
    Calls Try.prog 82 #[.int .i64 a, .int .i64 b] w fun e w' => e = .returned (insV ⟨2, a, b, 0, 0⟩) ∧ Below w.heap.size w w' := by
  go_enter Try.func82, Try.ntmps82
  go_wp2
  refine bodyPost_ret (v := insV ⟨2, a, b, 0, 0⟩) (by simp [results, Try.results82, go_sem, insV]) rfl ⟨rfl, ?_⟩
  exact Below.alloc (Below.refl w.heap.size w) (Nat.le_refl _) _

theorem make_sys (n : Int) (w : World) :
    Calls Try.prog 42 #[.int .i64 n] w fun e w' => e = .returned (insV ⟨23, 0, 0, 0, n⟩) ∧ Below w.heap.size w w' := by
  go_enter Try.func42, Try.ntmps42
  go_wp2
  refine bodyPost_ret (v := insV ⟨23, 0, 0, 0, n⟩) (by simp [results, Try.results42, go_sem, insV]) rfl ⟨rfl, ?_⟩
  exact Below.alloc (Below.refl w.heap.size w) (Nat.le_refl _) _

theorem ins_li {n m : Nat} {r k : Int} (h1 : 0 ≤ r ∧ r < 8) (h2 : 0 ≤ k ∧ k ≤ 65535) : InsIn n m ⟨1, r, 0, 0, k⟩ := by
  refine ⟨by simp, by simp, h1.1, h1.2, by simp, by simp, by simp, by simp, h2.1, h2.2, fun h => by simp [usA] at h, fun _ => rfl, fun _ => rfl, fun h => by simp [usI] at h, fun h => by simp [jumpB] at h, fun h => by simp at h, fun h => by simp at h⟩

theorem ins_mov {n m : Nat} {r k : Int} (h1 : 0 ≤ r ∧ r < 8) (h2 : 0 ≤ k ∧ k < 8) : InsIn n m ⟨2, r, k, 0, 0⟩ := by
  refine ⟨by simp, by simp, h1.1, h1.2, h2.1, h2.2, by simp, by simp, by simp, by simp, fun h => by simp [usA] at h, fun h => by simp [usB] at h, fun _ => rfl, fun _ => rfl, fun h => by simp [jumpB] at h, fun h => by simp at h, fun h => by simp at h⟩

theorem ins_sys {n m : Nat} {k : Int} (h2 : 0 ≤ k ∧ k ≤ 15) : InsIn n m ⟨23, 0, 0, 0, k⟩ := by
  refine ⟨by simp, by simp, by simp, by simp, by simp, by simp, by simp, by simp, h2.1, by simp; omega, fun _ => rfl, fun _ => rfl, fun _ => rfl, fun h => by simp [usI] at h, fun h => by simp [jumpB] at h, fun h => by simp at h, fun _ => h2.2⟩
end Go.Proofs.Ythajndgljfbifaa
