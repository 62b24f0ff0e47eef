/-
  Encode of the program and of the document.
-/
import Derived.Test.YthajndgljfbifaaIc2
namespace Go.Proofs.Ythajndgljfbifaa
open Go.RowKit
set_option maxRecDepth 100000

/-- The bytes of an instruction. -/
def encB (x : Ins) : List Nat := [x.op.toNat, x.a.toNat, x.b.toNat, x.c.toNat, x.imm.toNat / 256, x.imm.toNat % 256]

def u8s (l : List Nat) : List Value := l.map fun n : Nat => Value.int .u8 (n : Int)

theorem length_u8s (l : List Nat) : (u8s l).length = l.length := by simp [u8s]

theorem enc_list (op a b c imm : Int) (h1 : 0 ≤ op) (h3 : 0 ≤ a) (h5 : 0 ≤ b) (h7 : 0 ≤ c) (h9 : 0 ≤ imm) :
    (#[.int .u8 op, .int .u8 a, .int .u8 b, .int .u8 c, .int .u8 (imm / 256), .int .u8 (imm % 256)] : Array Value).toList = u8s (encB ⟨op, a, b, c, imm⟩) := by
  unfold u8s encB
  simp
  omega

/-- The call returns the six bytes in a new block. -/
def GivesEnc (x : Ins) (w : World) (e : Ending) (w' : World) : Prop :=
  ∃ B, w.heap.size ≤ B ∧ e = .returned (.tuple #[.slice (some ⟨B, 0, none⟩) 6 6, .int .i64 0]) ∧ Blk w' B (u8s (encB x)) ∧ Below w.heap.size w w'

theorem instr_Encode_none (x : Ins) (w : World) (hv : vinB x = false) :
    Calls Try.prog 59 #[insV x] w fun e w' => e = .returned (.tuple #[.slice none 0 0, .int .i64 1]) ∧ Below w.heap.size w w' := by
  have HV := Lib.hid (fun W => instr_Valid x W)
  obtain ⟨op, a, b, c, imm⟩ := x
  rw [hv] at HV
  clear hv
  unfold insV at *
  have hB := Below.alloc (Below.refl w.heap.size w) (Nat.le_refl _) (.cells #[.int .i64 op, .int .i64 a, .int .i64 b, .int .i64 c, .int .i64 imm] 66)
  go_enter Try.func59, Try.ntmps59
  go_wp2_with (go_at_call 46; (with_reducible refine (HV.out _).mono ?_); rintro e w1 ⟨rfl, hb1⟩)
  refine bodyPost_ret (v := .tuple #[.slice none 0 0, .int .i64 1]) (by simp [results, Try.results59, go_sem]) rfl ⟨rfl, ?_⟩
  exact hB.trans (hb1.mono hB.size)

set_option maxHeartbeats 1000000 in
theorem instr_Encode (x : Ins) (w : World) (hv : vinB x = true) :
    Calls Try.prog 59 #[insV x] w (GivesEnc x w) := by
  have HV := Lib.hid (fun W => instr_Valid x W)
  rw [hv] at HV
  obtain ⟨h1, h2, h3, h4, h5, h6, h7, h8, h9, h10, _⟩ := (vinB_iff x).1 hv
  obtain ⟨op, a, b, c, imm⟩ := x
  simp only at h1 h2 h3 h4 h5 h6 h7 h8 h9 h10
  clear hv
  unfold insV at *
  have hB := Below.alloc (Below.refl w.heap.size w) (Nat.le_refl _) (.cells #[.int .i64 op, .int .i64 a, .int .i64 b, .int .i64 c, .int .i64 imm] 66)
  have b0 := Blk.new (W := w) #[.int .i64 op, .int .i64 a, .int .i64 b, .int .i64 c, .int .i64 imm] 66
  go_enter Try.func59, Try.ntmps59
  go_wp2_with fail
  refine (HV.out _).mono ?_
  rintro e w1 ⟨rfl, hb1⟩
  have b1 := b0.later hb1
  have f0 := (b1 0 (by simp)).1
  have f1 := (b1 1 (by simp)).1
  have f2 := (b1 2 (by simp)).1
  have f3 := (b1 3 (by simp)).1
  have f4 := (b1 4 (by simp)).1
  have hB1 := hB.trans (hb1.mono hB.size)
  clear b0 b1 hb1 hB
  go_wp2
  refine bodyPost_ret (v := .tuple #[.slice (some ⟨w1.heap.size, 0, none⟩) 6 6, .int .i64 0]) (by simp [results, Try.results59, go_sem]) rfl ?_
  have HN := Blk.new (W := w1) #[.int .u8 op, .int .u8 a, .int .u8 b, .int .u8 c, .int .u8 (imm / 256), .int .u8 (imm % 256)] 5
  rw [enc_list op a b c imm h1 h3 h5 h7 h9] at HN
  exact ⟨_, hB1.size, rfl, HN, hB1.alloc hB1.size _⟩
theorem ref06_Encode_none (x : Ins) (w : World) (hv : vinB x = false) :
    Calls Try.prog 61 #[insV x] w fun e w' => e = .returned (.tuple #[.slice none 0 0, .int .i64 1]) ∧ Below w.heap.size w w' := by
  have HV := Lib.hid (fun W => ref06_Valid x W)
  obtain ⟨op, a, b, c, imm⟩ := x
  rw [hv] at HV
  clear hv
  unfold insV at *
  have hB := Below.alloc (Below.refl w.heap.size w) (Nat.le_refl _) (.cells #[.int .i64 op, .int .i64 a, .int .i64 b, .int .i64 c, .int .i64 imm] 66)
  go_enter Try.func61, Try.ntmps61
  go_wp2_with (go_at_call 49; (with_reducible refine (HV.out _).mono ?_); rintro e w1 ⟨rfl, hb1⟩)
  refine bodyPost_ret (v := .tuple #[.slice none 0 0, .int .i64 1]) (by simp [results, Try.results61, go_sem]) rfl ⟨rfl, ?_⟩
  exact hB.trans (hb1.mono hB.size)

set_option maxHeartbeats 1000000 in
theorem ref06_Encode (x : Ins) (w : World) (hv : vinB x = true) :
    Calls Try.prog 61 #[insV x] w (GivesEnc x w) := by
  have HV := Lib.hid (fun W => ref06_Valid x W)
  rw [hv] at HV
  obtain ⟨h1, h2, h3, h4, h5, h6, h7, h8, h9, h10, _⟩ := (vinB_iff x).1 hv
  obtain ⟨op, a, b, c, imm⟩ := x
  simp only at h1 h2 h3 h4 h5 h6 h7 h8 h9 h10
  clear hv
  unfold insV at *
  have hB := Below.alloc (Below.refl w.heap.size w) (Nat.le_refl _) (.cells #[.int .i64 op, .int .i64 a, .int .i64 b, .int .i64 c, .int .i64 imm] 66)
  have b0 := Blk.new (W := w) #[.int .i64 op, .int .i64 a, .int .i64 b, .int .i64 c, .int .i64 imm] 66
  go_enter Try.func61, Try.ntmps61
  go_wp2_with fail
  refine (HV.out _).mono ?_
  rintro e w1 ⟨rfl, hb1⟩
  have b1 := b0.later hb1
  have f0 := (b1 0 (by simp)).1
  have f1 := (b1 1 (by simp)).1
  have f2 := (b1 2 (by simp)).1
  have f3 := (b1 3 (by simp)).1
  have f4 := (b1 4 (by simp)).1
  have hB1 := hB.trans (hb1.mono hB.size)
  clear b0 b1 hb1 hB
  go_wp2
  refine bodyPost_ret (v := .tuple #[.slice (some ⟨w1.heap.size, 0, none⟩) 6 6, .int .i64 0]) (by simp [results, Try.results61, go_sem]) rfl ?_
  have HN := Blk.new (W := w1) #[.int .u8 op, .int .u8 a, .int .u8 b, .int .u8 c, .int .u8 (imm / 256), .int .u8 (imm % 256)] 5
  rw [enc_list op a b c imm h1 h3 h5 h7 h9] at HN
  exact ⟨_, hB1.size, rfl, HN, hB1.alloc hB1.size _⟩
end Go.Proofs.Ythajndgljfbifaa
