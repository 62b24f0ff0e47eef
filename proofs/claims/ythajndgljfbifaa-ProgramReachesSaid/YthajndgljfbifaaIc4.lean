/-
  Decode of the program and of the document.
-/
import Derived.Test.YthajndgljfbifaaIc3
import Derived.Deep.RegionHeld3
namespace Go.Proofs.Ythajndgljfbifaa
open Go.RowKit
set_option maxRecDepth 100000

/-- The instruction that six bytes spell. -/
def decI (xs : List Nat) : Ins := ⟨(xs.getD 0 0 : Nat), (xs.getD 1 0 : Nat), (xs.getD 2 0 : Nat), (xs.getD 3 0 : Nat), (256 * xs.getD 4 0 + xs.getD 5 0 : Nat)⟩

def zI : Ins := ⟨0, 0, 0, 0, 0⟩

/-- What Decode answers. -/
def decX (xs : List Nat) : Ins := if xs.length < 6 then zI else if 6 < xs.length then zI else if vinB (decI xs) = true then decI xs else zI
def decE (xs : List Nat) : Int := if xs.length < 6 then 4 else if 6 < xs.length then 5 else if vinB (decI xs) = true then 0 else 5

def GivesDec (xs : List Nat) (w : World) (e : Ending) (w' : World) : Prop :=
  e = .returned (.tuple #[insV (decX xs), .int .i64 (decE xs)]) ∧ Below w.heap.size w w'

theorem dec_short {xs : List Nat} (h : xs.length < 6) : decX xs = zI ∧ decE xs = 4 := ⟨if_pos h, if_pos h⟩
theorem dec_long {xs : List Nat} (h : 6 < xs.length) : decX xs = zI ∧ decE xs = 5 := by
  have : ¬ xs.length < 6 := by omega
  exact ⟨by rw [decX, if_neg this, if_pos h], by rw [decE, if_neg this, if_pos h]⟩
theorem dec_bad {xs : List Nat} (h : xs.length = 6) (hv : vinB (decI xs) = false) : decX xs = zI ∧ decE xs = 5 := by
  have h1 : ¬ xs.length < 6 := by omega
  have h2 : ¬ 6 < xs.length := by omega
  have h3 : ¬ vinB (decI xs) = true := by rw [hv]; simp
  exact ⟨by rw [decX, if_neg h1, if_neg h2, if_neg h3], by rw [decE, if_neg h1, if_neg h2, if_neg h3]⟩
theorem dec_good {xs : List Nat} (h : xs.length = 6) (hv : vinB (decI xs) = true) : decX xs = decI xs ∧ decE xs = 0 := by
  have h1 : ¬ xs.length < 6 := by omega
  have h2 : ¬ 6 < xs.length := by omega
  exact ⟨by rw [decX, if_neg h1, if_neg h2, if_pos hv], by rw [decE, if_neg h1, if_neg h2, if_pos hv]⟩

theorem below_put5 {w w3 : World} (h : Below w.heap.size w w3) (v0 v1 v2 v3 v4 : Value) :
    Below w.heap.size w (((((w3.setCell ⟨w.heap.size, 0, none⟩ v0).setCell ⟨w.heap.size, 1, none⟩ v1).setCell ⟨w.heap.size, 2, none⟩ v2).setCell ⟨w.heap.size, 3, none⟩ v3).setCell ⟨w.heap.size, 4, none⟩ v4) := by
  have h1 := h.grown (grownBy_cell w3 w.heap.size 0 v0) h.size (fun k hk => by cases hk; omega)
  have h2 := h1.grown (grownBy_cell _ w.heap.size 1 v1) h1.size (fun k hk => by cases hk; omega)
  have h3 := h2.grown (grownBy_cell _ w.heap.size 2 v2) h2.size (fun k hk => by cases hk; omega)
  have h4 := h3.grown (grownBy_cell _ w.heap.size 3 v3) h3.size (fun k hk => by cases hk; omega)
  exact h4.grown (grownBy_cell _ w.heap.size 4 v4) h4.size (fun k hk => by cases hk; omega)

theorem i64_or_nat (a b : Nat) (ha : a < 65536) (hb : b < 65536) : bits .or .i64 (a : Int) (b : Int) = ((a ||| b : Nat) : Int) := by
  have hx : a ||| b < 2 ^ 16 := Nat.or_lt_two_pow (by omega) (by omega)
  have h1 : (BitVec.ofInt 64 (a : Int)).toNat = a := by
    rw [BitVec.ofInt_natCast, BitVec.toNat_ofNat]; exact Nat.mod_eq_of_lt (by omega)
  have h2 : (BitVec.ofInt 64 (b : Int)).toNat = b := by
    rw [BitVec.ofInt_natCast, BitVec.toNat_ofNat]; exact Nat.mod_eq_of_lt (by omega)
  show IntKind.i64.wrap ((BitVec.ofInt 64 (a : Int) ||| BitVec.ofInt 64 (b : Int)).toNat : Int) = _
  rw [BitVec.toNat_or, h1, h2, IntWalk.i64_in _ (by omega)]

/-- Two bytes as an int. -/
theorem int_join (x y : Nat) (hx : x < 256) (hy : y < 256) : bits .or .i64 ((x : Int) * 256) (y : Int) = (x : Int) * 256 + (y : Int) := by
  have e : (x : Int) * 256 = ((x * 256 : Nat) : Int) := by simp
  rw [e, i64_or_nat _ _ (by omega) (by omega), nat_join 8 (x * 256) y (by omega) (by omega)]
  simp

theorem instr_Decode_off (a : Option Addr) (xs : List Nat) (cap : Nat) (w : World) (h : xs.length ≠ 6) (hl : xs.length ≤ 9223372036854775807) :
    Calls Try.prog 94 #[.slice a xs.length cap] w (GivesDec xs w) := by
  have hB := Below.alloc (Below.refl w.heap.size w) (Nat.le_refl _) (.cells #[.int .i64 0, .int .i64 0, .int .i64 0, .int .i64 0, .int .i64 0] 66)
  by_cases h6 : xs.length < 6
  · have H : Hid (GivesDec xs w (.returned (.tuple #[insV zI, .int .i64 4])) _) := Lib.hid ⟨by rw [(dec_short h6).1, (dec_short h6).2], hB⟩
    have i1 : (xs.length : Int) < 6 := by omega
    go_enter Try.func94, Try.ntmps94
    go_wp2
    refine bodyPost_ret (v := .tuple #[insV zI, .int .i64 4]) (by simp [results, Try.results94, go_sem, insV, zI]) rfl H.out
  · have H : Hid (GivesDec xs w (.returned (.tuple #[insV zI, .int .i64 5])) _) := Lib.hid ⟨by rw [(dec_long (by omega)).1, (dec_long (by omega)).2], hB⟩
    have i1 : ¬ (xs.length : Int) < 6 := by omega
    have i2 : 6 < (xs.length : Int) := by omega
    go_enter Try.func94, Try.ntmps94
    go_wp2
    refine bodyPost_ret (v := .tuple #[insV zI, .int .i64 5]) (by simp [results, Try.results94, go_sem, insV, zI]) rfl H.out

set_option maxHeartbeats 2000000 in
theorem instr_Decode_six (b off : Nat) (x0 x1 x2 x3 x4 x5 : Nat) (cap : Nat) (w : World) (ha : NatsAt .u8 w (some ⟨b, off, none⟩) [x0, x1, x2, x3, x4, x5]) (hx : ∀ x ∈ [x0, x1, x2, x3, x4, x5], x < 256) :
    Calls Try.prog 94 #[.slice (some ⟨b, off, none⟩) 6 cap] w (GivesDec [x0, x1, x2, x3, x4, x5] w) := by
  have hA0 := Below.alloc (Below.refl w.heap.size w) (Nat.le_refl _) (.cells #[.int .i64 0, .int .i64 0, .int .i64 0, .int .i64 0, .int .i64 0] 66)
  have r0 := Blk.new (W := w) #[.int .i64 0, .int .i64 0, .int .i64 0, .int .i64 0, .int .i64 0] 66
  obtain ⟨b', off', hbo, hcell⟩ := (ha.later hA0).some (j := 0) (by simp)
  cases hbo
  have c0 := hcell 0 (by simp)
  have c1 := hcell 1 (by simp)
  have c2 := hcell 2 (by simp)
  have c3 := hcell 3 (by simp)
  have c4 := hcell 4 (by simp)
  have c5 := hcell 5 (by simp)
  simp only [List.getElem_cons_zero, List.getElem_cons_succ, Nat.add_zero] at c0 c1 c2 c3 c4 c5
  have y0 := hx x0 (by simp)
  have y1 := hx x1 (by simp)
  have y2 := hx x2 (by simp)
  have y3 := hx x3 (by simp)
  have y4 := hx x4 (by simp)
  have y5 := hx x5 (by simp)
  have hj := int_join x4 x5 y4 y5
  clear hcell ha hx
  go_enter Try.func94, Try.ntmps94
  go_upto_region 5 with fail
  generalize w.alloc (.cells #[.int .i64 0, .int .i64 0, .int .i64 0, .int .i64 0, .int .i64 0] 66) = W1 at *
  have hA : ∀ o, Below W1.heap.size W1 (W1.alloc o) := fun o => Below.alloc (Below.refl _ _) (Nat.le_refl _) o
  have i0 : IntKind.i64.wrap (x0 : Int) = (x0 : Int) := IntWalk.i64_in _ (by omega)
  have i1 : IntKind.i64.wrap (x1 : Int) = (x1 : Int) := IntWalk.i64_in _ (by omega)
  have i2 : IntKind.i64.wrap (x2 : Int) = (x2 : Int) := IntWalk.i64_in _ (by omega)
  have i3 : IntKind.i64.wrap (x3 : Int) = (x3 : Int) := IntWalk.i64_in _ (by omega)
  have i4 : IntKind.i64.wrap (x4 : Int) = (x4 : Int) := IntWalk.i64_in _ (by omega)
  have i5 : IntKind.i64.wrap (x5 : Int) = (x5 : Int) := IntWalk.i64_in _ (by omega)
  have i6 : IntKind.i64.wrap ((x4 : Int) * 256) = (x4 : Int) * 256 := IntWalk.i64_in _ (by omega)
  go_region_held3 (fun W => W.cell? ⟨b, off, none⟩ = some (.int .u8 (x0 : Int)) ∧ W.cell? ⟨b, off + 1, none⟩ = some (.int .u8 (x1 : Int)) ∧ W.cell? ⟨b, off + 2, none⟩ = some (.int .u8 (x2 : Int)) ∧ W.cell? ⟨b, off + 3, none⟩ = some (.int .u8 (x3 : Int)) ∧ W.cell? ⟨b, off + 4, none⟩ = some (.int .u8 (x4 : Int)) ∧ W.cell? ⟨b, off + 5, none⟩ = some (.int .u8 (x5 : Int)))
    (first
      | exact ⟨c0, c1, c2, c3, c4, c5⟩
      | go_keep)
    (fail)
  rename_i hHeld
  have hAd := (hA (.cells #[.int .i64 (x0 : Int), .int .i64 (x1 : Int), .int .i64 (x2 : Int), .int .i64 (x3 : Int), .int .i64 ((x4 : Int) * 256 + (x5 : Int))] 66)).drew
  have b1 := (Blk.new (W := W1) #[.int .i64 (x0 : Int), .int .i64 (x1 : Int), .int .i64 (x2 : Int), .int .i64 (x3 : Int), .int .i64 ((x4 : Int) * 256 + (x5 : Int))] 66).later (Below.refl _ _).drew
  have hB2 := hA0.trans (hAd.mono hA0.size)
  have r2 := r0.later hAd
  clear hHeld i0 i1 i2 i3 i4 i5 i6 hA hAd c0 c1 c2 c3 c4 c5 hA0 r0 hj
  generalize (W1.alloc (.cells #[.int .i64 (x0 : Int), .int .i64 (x1 : Int), .int .i64 (x2 : Int), .int .i64 (x3 : Int), .int .i64 ((x4 : Int) * 256 + (x5 : Int))] 66)).drew = W2 at *
  generalize W1.heap.size = M at *
  have HV := Lib.hid (fun W => instr_Valid (decI [x0, x1, x2, x3, x4, x5]) W)
  have HD1 := Lib.hid (fun h : vinB (decI [x0, x1, x2, x3, x4, x5]) = true => dec_good (xs := [x0, x1, x2, x3, x4, x5]) rfl h)
  have HD0 := Lib.hid (fun h : vinB (decI [x0, x1, x2, x3, x4, x5]) = false => dec_bad (xs := [x0, x1, x2, x3, x4, x5]) rfl h)
  have hde : Hid (decI [x0, x1, x2, x3, x4, x5] = ⟨(x0 : Int), (x1 : Int), (x2 : Int), (x3 : Int), (x4 : Int) * 256 + (x5 : Int)⟩) := Lib.hid (by simp [decI]; omega)
  rw [hde.out] at HV HD1 HD0
  generalize (x0 : Int) = z0 at *
  generalize (x1 : Int) = z1 at *
  generalize (x2 : Int) = z2 at *
  generalize (x3 : Int) = z3 at *
  generalize (x4 : Int) * 256 + (x5 : Int) = z4 at *
  have f0 := (b1 0 (by simp)).1
  have f1 := (b1 1 (by simp)).1
  have f2 := (b1 2 (by simp)).1
  have f3 := (b1 3 (by simp)).1
  have f4 := (b1 4 (by simp)).1
  unfold insV at HV
  simp only at HV
  cases hv : vinB ⟨z0, z1, z2, z3, z4⟩ with
  | true =>
    rw [hv] at HV
    have HR : Hid (∀ w', Below w.heap.size w w' → GivesDec [x0, x1, x2, x3, x4, x5] w (.returned (.tuple #[insV ⟨z0, z1, z2, z3, z4⟩, .int .i64 0])) w') := Lib.hid (fun w' h => ⟨by rw [(HD1.out hv).1, (HD1.out hv).2], h⟩)
    clear HD1 HD0 hde hv
    go_wp2_with fail
    refine (HV.out _).mono ?_
    rintro e w3 ⟨rfl, hb3⟩
    have b3 := b1.later hb3
    have f0 := (b3 0 (by simp)).1
    have f1 := (b3 1 (by simp)).1
    have f2 := (b3 2 (by simp)).1
    have f3 := (b3 3 (by simp)).1
    have f4 := (b3 4 (by simp)).1
    have hB3 := hB2.trans (hb3.mono hB2.size)
    have r3 := r2.later hb3
    obtain ⟨e0, e1, e2, e3, e4, g0, g1, g2, g3, g4⟩ := ins_cells (x := ⟨0, 0, 0, 0, 0⟩) r3
    clear b1 b3 hb3 hB2 r2 r3
    have HF := Lib.hid (HR.out _ (below_put5 hB3 (.int .i64 z0) (.int .i64 z1) (.int .i64 z2) (.int .i64 z3) (.int .i64 z4)))
    clear HR hB3
    go_wp2
    refine bodyPost_ret (v := .tuple #[insV ⟨z0, z1, z2, z3, z4⟩, .int .i64 0]) (by simp [results, Try.results94, go_sem, insV, e0, e1, e2, e3, e4]) rfl HF.out
  | false =>
    rw [hv] at HV
    have HR : Hid (∀ w', Below w.heap.size w w' → GivesDec [x0, x1, x2, x3, x4, x5] w (.returned (.tuple #[insV zI, .int .i64 5])) w') := Lib.hid (fun w' h => ⟨by rw [(HD0.out hv).1, (HD0.out hv).2], h⟩)
    clear HD1 HD0 hde hv
    go_wp2_with fail
    refine (HV.out _).mono ?_
    rintro e w3 ⟨rfl, hb3⟩
    have hB3 := hB2.trans (hb3.mono hB2.size)
    have r3 := r2.later hb3
    obtain ⟨e0, e1, e2, e3, e4, g0, g1, g2, g3, g4⟩ := ins_cells (x := ⟨0, 0, 0, 0, 0⟩) r3
    clear b1 hb3 hB2 r2 r3
    have HF := Lib.hid (HR.out _ (below_put5 hB3 (.int .i64 0) (.int .i64 0) (.int .i64 0) (.int .i64 0) (.int .i64 0)))
    clear HR hB3
    go_wp2
    refine bodyPost_ret (v := .tuple #[insV zI, .int .i64 5]) (by simp [results, Try.results94, go_sem, insV, zI, e0, e1, e2, e3, e4]) rfl HF.out

/-- A slice of six numbers, one by one. -/
theorem six_of (xs : List Nat) (h : xs.length = 6) : ∃ x0 x1 x2 x3 x4 x5, xs = [x0, x1, x2, x3, x4, x5] := by
  match xs, h with
  | [x0, x1, x2, x3, x4, x5], _ => exact ⟨x0, x1, x2, x3, x4, x5, rfl⟩

theorem instr_Decode (a : Option Addr) (xs : List Nat) (cap : Nat) (w : World) (hl : xs.length ≤ 9223372036854775807) (ha : NatsAt .u8 w a xs) (hx : ∀ x ∈ xs, x < 256) :
    Calls Try.prog 94 #[.slice a xs.length cap] w (GivesDec xs w) := by
  by_cases h6 : xs.length = 6
  · obtain ⟨b, off, rfl, _⟩ := ha.some (j := 0) (by omega)
    obtain ⟨x0, x1, x2, x3, x4, x5, rfl⟩ := six_of xs h6
    exact instr_Decode_six b off x0 x1 x2 x3 x4 x5 cap w ha hx
  · exact instr_Decode_off a xs cap w h6 hl
end Go.Proofs.Ythajndgljfbifaa
