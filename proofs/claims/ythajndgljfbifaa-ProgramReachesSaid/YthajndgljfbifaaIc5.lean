/-
  Decode of the document.
-/
import Derived.Test.YthajndgljfbifaaIc4
namespace Go.Proofs.Ythajndgljfbifaa
open Go.RowKit
set_option maxRecDepth 100000

theorem ref06_Decode_short (a : Option Addr) (xs : List Nat) (cap : Nat) (w : World) (h6 : xs.length < 6) :
    Calls Try.prog 68 #[.slice a xs.length cap] w (GivesDec xs w) := by
  have hB := Below.alloc (Below.refl w.heap.size w) (Nat.le_refl _) (.cells #[.int .i64 0, .int .i64 0, .int .i64 0, .int .i64 0, .int .i64 0] 66)
  have H : Hid (GivesDec xs w (.returned (.tuple #[insV zI, .int .i64 4])) _) := Lib.hid ⟨by rw [(dec_short h6).1, (dec_short h6).2], hB⟩
  have i1 : (xs.length : Int) < 6 := by omega
  go_enter Try.func68, Try.ntmps68
  go_wp2
  refine bodyPost_ret (v := .tuple #[insV zI, .int .i64 4]) (by simp [results, Try.results68, go_sem, insV, zI]) rfl H.out

set_option maxHeartbeats 2000000 in
theorem ref06_Decode_six (b off : Nat) (x0 x1 x2 x3 x4 x5 : Nat) (cap : Nat) (w : World) (ha : NatsAt .u8 w (some ⟨b, off, none⟩) [x0, x1, x2, x3, x4, x5]) (hx : ∀ x ∈ [x0, x1, x2, x3, x4, x5], x < 256) :
    Calls Try.prog 68 #[.slice (some ⟨b, off, none⟩) 6 cap] w (GivesDec [x0, x1, x2, x3, x4, x5] w) := by
  have hA0 := Below.alloc (Below.refl w.heap.size w) (Nat.le_refl _) (.cells #[.int .i64 0, .int .i64 0, .int .i64 0, .int .i64 0, .int .i64 0] 66)
  have r0 := Blk.new (W := w) #[.int .i64 0, .int .i64 0, .int .i64 0, .int .i64 0, .int .i64 0] 66
  obtain ⟨b', off', hbo, hcell⟩ := (ha.later hA0).some (j := 0) (by simp)
  cases hbo
  have c0 := hcell 0 (by simp)
  have c1 := hcell 1 (by simp)
  have c2 := hcell 2 (by simp)
  have c3 := hcell 3 (by simp)
  have c4 := hcell 4 (by simp)
  have c5 := hcell 5 (by simp)
  simp only [List.getElem_cons_zero, List.getElem_cons_succ, Nat.add_zero] at c0 c1 c2 c3 c4 c5
  have y0 := hx x0 (by simp)
  have y1 := hx x1 (by simp)
  have y2 := hx x2 (by simp)
  have y3 := hx x3 (by simp)
  have y4 := hx x4 (by simp)
  have y5 := hx x5 (by simp)
  have hj := int_join x4 x5 y4 y5
  clear hcell ha hx
  go_enter Try.func68, Try.ntmps68
  go_upto_region 3 with fail
  generalize w.alloc (.cells #[.int .i64 0, .int .i64 0, .int .i64 0, .int .i64 0, .int .i64 0] 66) = W1 at *
  have hA : ∀ o, Below W1.heap.size W1 (W1.alloc o) := fun o => Below.alloc (Below.refl _ _) (Nat.le_refl _) o
  have i0 : IntKind.i64.wrap (x0 : Int) = (x0 : Int) := IntWalk.i64_in _ (by omega)
  have i1 : IntKind.i64.wrap (x1 : Int) = (x1 : Int) := IntWalk.i64_in _ (by omega)
  have i2 : IntKind.i64.wrap (x2 : Int) = (x2 : Int) := IntWalk.i64_in _ (by omega)
  have i3 : IntKind.i64.wrap (x3 : Int) = (x3 : Int) := IntWalk.i64_in _ (by omega)
  have i4 : IntKind.i64.wrap (x4 : Int) = (x4 : Int) := IntWalk.i64_in _ (by omega)
  have i5 : IntKind.i64.wrap (x5 : Int) = (x5 : Int) := IntWalk.i64_in _ (by omega)
  have i6 : IntKind.i64.wrap ((x4 : Int) * 256) = (x4 : Int) * 256 := IntWalk.i64_in _ (by omega)
  go_region_held3 (fun W => W.cell? ⟨b, off, none⟩ = some (.int .u8 (x0 : Int)) ∧ W.cell? ⟨b, off + 1, none⟩ = some (.int .u8 (x1 : Int)) ∧ W.cell? ⟨b, off + 2, none⟩ = some (.int .u8 (x2 : Int)) ∧ W.cell? ⟨b, off + 3, none⟩ = some (.int .u8 (x3 : Int)) ∧ W.cell? ⟨b, off + 4, none⟩ = some (.int .u8 (x4 : Int)) ∧ W.cell? ⟨b, off + 5, none⟩ = some (.int .u8 (x5 : Int)))
    (first
      | exact ⟨c0, c1, c2, c3, c4, c5⟩
      | go_keep)
    (fail)
  rename_i hHeld
  have hAd := (hA (.cells #[.int .i64 (x0 : Int), .int .i64 (x1 : Int), .int .i64 (x2 : Int), .int .i64 (x3 : Int), .int .i64 ((x4 : Int) * 256 + (x5 : Int))] 66)).drew
  have b1 := (Blk.new (W := W1) #[.int .i64 (x0 : Int), .int .i64 (x1 : Int), .int .i64 (x2 : Int), .int .i64 (x3 : Int), .int .i64 ((x4 : Int) * 256 + (x5 : Int))] 66).later (Below.refl _ _).drew
  have hB2 := hA0.trans (hAd.mono hA0.size)
  have r2 := r0.later hAd
  clear hHeld i0 i1 i2 i3 i4 i5 i6 hA hAd c0 c1 c2 c3 c4 c5 hA0 r0 hj
  generalize (W1.alloc (.cells #[.int .i64 (x0 : Int), .int .i64 (x1 : Int), .int .i64 (x2 : Int), .int .i64 (x3 : Int), .int .i64 ((x4 : Int) * 256 + (x5 : Int))] 66)).drew = W2 at *
  generalize W1.heap.size = M at *
  have HV := Lib.hid (fun W => ref06_Valid (decI [x0, x1, x2, x3, x4, x5]) W)
  have HD1 := Lib.hid (fun h : vinB (decI [x0, x1, x2, x3, x4, x5]) = true => dec_good (xs := [x0, x1, x2, x3, x4, x5]) rfl h)
  have HD0 := Lib.hid (fun h : vinB (decI [x0, x1, x2, x3, x4, x5]) = false => dec_bad (xs := [x0, x1, x2, x3, x4, x5]) rfl h)
  have hde : Hid (decI [x0, x1, x2, x3, x4, x5] = ⟨(x0 : Int), (x1 : Int), (x2 : Int), (x3 : Int), (x4 : Int) * 256 + (x5 : Int)⟩) := Lib.hid (by simp [decI]; omega)
  rw [hde.out] at HV HD1 HD0
  generalize (x0 : Int) = z0 at *
  generalize (x1 : Int) = z1 at *
  generalize (x2 : Int) = z2 at *
  generalize (x3 : Int) = z3 at *
  generalize (x4 : Int) * 256 + (x5 : Int) = z4 at *
  have f0 := (b1 0 (by simp)).1
  have f1 := (b1 1 (by simp)).1
  have f2 := (b1 2 (by simp)).1
  have f3 := (b1 3 (by simp)).1
  have f4 := (b1 4 (by simp)).1
  unfold insV at HV
  simp only at HV
  cases hv : vinB ⟨z0, z1, z2, z3, z4⟩ with
  | true =>
    rw [hv] at HV
    have HR : Hid (∀ w', Below w.heap.size w w' → GivesDec [x0, x1, x2, x3, x4, x5] w (.returned (.tuple #[insV ⟨z0, z1, z2, z3, z4⟩, .int .i64 0])) w') := Lib.hid (fun w' h => ⟨by rw [(HD1.out hv).1, (HD1.out hv).2], h⟩)
    clear HD1 HD0 hde hv
    go_wp2_with fail
    refine (HV.out _).mono ?_
    rintro e w3 ⟨rfl, hb3⟩
    have b3 := b1.later hb3
    have f0 := (b3 0 (by simp)).1
    have f1 := (b3 1 (by simp)).1
    have f2 := (b3 2 (by simp)).1
    have f3 := (b3 3 (by simp)).1
    have f4 := (b3 4 (by simp)).1
    have hB3 := hB2.trans (hb3.mono hB2.size)
    have r3 := r2.later hb3
    obtain ⟨e0, e1, e2, e3, e4, g0, g1, g2, g3, g4⟩ := ins_cells (x := ⟨0, 0, 0, 0, 0⟩) r3
    clear b1 b3 hb3 hB2 r2 r3
    have HF := Lib.hid (HR.out _ (below_put5 hB3 (.int .i64 z0) (.int .i64 z1) (.int .i64 z2) (.int .i64 z3) (.int .i64 z4)))
    clear HR hB3
    go_wp2
    refine bodyPost_ret (v := .tuple #[insV ⟨z0, z1, z2, z3, z4⟩, .int .i64 0]) (by simp [results, Try.results68, go_sem, insV, e0, e1, e2, e3, e4]) rfl HF.out
  | false =>
    rw [hv] at HV
    have HR : Hid (∀ w', Below w.heap.size w w' → GivesDec [x0, x1, x2, x3, x4, x5] w (.returned (.tuple #[insV zI, .int .i64 5])) w') := Lib.hid (fun w' h => ⟨by rw [(HD0.out hv).1, (HD0.out hv).2], h⟩)
    clear HD1 HD0 hde hv
    go_wp2_with fail
    refine (HV.out _).mono ?_
    rintro e w3 ⟨rfl, hb3⟩
    have hB3 := hB2.trans (hb3.mono hB2.size)
    have r3 := r2.later hb3
    obtain ⟨e0, e1, e2, e3, e4, g0, g1, g2, g3, g4⟩ := ins_cells (x := ⟨0, 0, 0, 0, 0⟩) r3
    clear b1 hb3 hB2 r2 r3
    have HF := Lib.hid (HR.out _ (below_put5 hB3 (.int .i64 0) (.int .i64 0) (.int .i64 0) (.int .i64 0) (.int .i64 0)))
    clear HR hB3
    go_wp2
    refine bodyPost_ret (v := .tuple #[insV zI, .int .i64 5]) (by simp [results, Try.results68, go_sem, insV, zI, e0, e1, e2, e3, e4]) rfl HF.out

set_option maxHeartbeats 2000000 in
theorem ref06_Decode_long (b off : Nat) (x0 x1 x2 x3 x4 x5 : Nat) (rest : List Nat) (n cap : Nat) (w : World) (hn : n = (x0 :: x1 :: x2 :: x3 :: x4 :: x5 :: rest).length) (hn6 : 6 < n) (hl : n ≤ 9223372036854775807) (ha : NatsAt .u8 w (some ⟨b, off, none⟩) (x0 :: x1 :: x2 :: x3 :: x4 :: x5 :: rest)) (hx : ∀ x ∈ (x0 :: x1 :: x2 :: x3 :: x4 :: x5 :: rest), x < 256) :
    Calls Try.prog 68 #[.slice (some ⟨b, off, none⟩) n cap] w (GivesDec (x0 :: x1 :: x2 :: x3 :: x4 :: x5 :: rest) w) := by
  have hA0 := Below.alloc (Below.refl w.heap.size w) (Nat.le_refl _) (.cells #[.int .i64 0, .int .i64 0, .int .i64 0, .int .i64 0, .int .i64 0] 66)
  have r0 := Blk.new (W := w) #[.int .i64 0, .int .i64 0, .int .i64 0, .int .i64 0, .int .i64 0] 66
  obtain ⟨b', off', hbo, hcell⟩ := (ha.later hA0).some (j := 0) (by simp)
  cases hbo
  have c0 := hcell 0 (by simp)
  have c1 := hcell 1 (by simp)
  have c2 := hcell 2 (by simp)
  have c3 := hcell 3 (by simp)
  have c4 := hcell 4 (by simp)
  have c5 := hcell 5 (by simp)
  simp only [List.getElem_cons_zero, List.getElem_cons_succ, Nat.add_zero] at c0 c1 c2 c3 c4 c5
  have y0 := hx x0 (by simp)
  have y1 := hx x1 (by simp)
  have y2 := hx x2 (by simp)
  have y3 := hx x3 (by simp)
  have y4 := hx x4 (by simp)
  have y5 := hx x5 (by simp)
  have hj := int_join x4 x5 y4 y5
  have HR : Hid (∀ w', Below w.heap.size w w' → GivesDec (x0 :: x1 :: x2 :: x3 :: x4 :: x5 :: rest) w (.returned (.tuple #[insV zI, .int .i64 5])) w') := Lib.hid (fun w' h => ⟨by rw [(dec_long (by omega)).1, (dec_long (by omega)).2], h⟩)
  have k0 : 0 < n := by omega
  have j0 : (0 : Int) < (n : Int) := by omega
  have j1 : (1 : Int) < (n : Int) := by omega
  have j2 : (2 : Int) < (n : Int) := by omega
  have j3 : (3 : Int) < (n : Int) := by omega
  have j4 : (4 : Int) < (n : Int) := by omega
  have j5 : (5 : Int) < (n : Int) := by omega
  have j6 : (6 : Int) < (n : Int) := by omega
  have j7 : ¬ (n : Int) < 6 := by omega
  clear hcell ha hx hn hn6
  go_enter Try.func68, Try.ntmps68
  go_upto_region 3 with fail
  generalize w.alloc (.cells #[.int .i64 0, .int .i64 0, .int .i64 0, .int .i64 0, .int .i64 0] 66) = W1 at *
  have hA : ∀ o, Below W1.heap.size W1 (W1.alloc o) := fun o => Below.alloc (Below.refl _ _) (Nat.le_refl _) o
  have i0 : IntKind.i64.wrap (x0 : Int) = (x0 : Int) := IntWalk.i64_in _ (by omega)
  have i1 : IntKind.i64.wrap (x1 : Int) = (x1 : Int) := IntWalk.i64_in _ (by omega)
  have i2 : IntKind.i64.wrap (x2 : Int) = (x2 : Int) := IntWalk.i64_in _ (by omega)
  have i3 : IntKind.i64.wrap (x3 : Int) = (x3 : Int) := IntWalk.i64_in _ (by omega)
  have i4 : IntKind.i64.wrap (x4 : Int) = (x4 : Int) := IntWalk.i64_in _ (by omega)
  have i5 : IntKind.i64.wrap (x5 : Int) = (x5 : Int) := IntWalk.i64_in _ (by omega)
  have i6 : IntKind.i64.wrap ((x4 : Int) * 256) = (x4 : Int) * 256 := IntWalk.i64_in _ (by omega)
  go_region_held3 (fun W => W.cell? ⟨b, off, none⟩ = some (.int .u8 (x0 : Int)) ∧ W.cell? ⟨b, off + 1, none⟩ = some (.int .u8 (x1 : Int)) ∧ W.cell? ⟨b, off + 2, none⟩ = some (.int .u8 (x2 : Int)) ∧ W.cell? ⟨b, off + 3, none⟩ = some (.int .u8 (x3 : Int)) ∧ W.cell? ⟨b, off + 4, none⟩ = some (.int .u8 (x4 : Int)) ∧ W.cell? ⟨b, off + 5, none⟩ = some (.int .u8 (x5 : Int)))
    (first
      | exact ⟨c0, c1, c2, c3, c4, c5⟩
      | go_keep)
    (fail)
  rename_i hHeld
  have hAd := (hA (.cells #[.int .i64 (x0 : Int), .int .i64 (x1 : Int), .int .i64 (x2 : Int), .int .i64 (x3 : Int), .int .i64 ((x4 : Int) * 256 + (x5 : Int))] 66)).drew
  have b1 := (Blk.new (W := W1) #[.int .i64 (x0 : Int), .int .i64 (x1 : Int), .int .i64 (x2 : Int), .int .i64 (x3 : Int), .int .i64 ((x4 : Int) * 256 + (x5 : Int))] 66).later (Below.refl _ _).drew
  have hB2 := hA0.trans (hAd.mono hA0.size)
  have r2 := r0.later hAd
  clear hHeld i0 i1 i2 i3 i4 i5 i6 hA hAd c0 c1 c2 c3 c4 c5 hA0 r0 hj
  generalize (W1.alloc (.cells #[.int .i64 (x0 : Int), .int .i64 (x1 : Int), .int .i64 (x2 : Int), .int .i64 (x3 : Int), .int .i64 ((x4 : Int) * 256 + (x5 : Int))] 66)).drew = W2 at *
  generalize W1.heap.size = M at *
  obtain ⟨e0, e1, e2, e3, e4, g0, g1, g2, g3, g4⟩ := ins_cells (x := ⟨0, 0, 0, 0, 0⟩) r2
  have HF := Lib.hid (HR.out _ (below_put5 hB2 (.int .i64 0) (.int .i64 0) (.int .i64 0) (.int .i64 0) (.int .i64 0)))
  clear HR hB2 b1 r2
  go_wp2
  refine bodyPost_ret (v := .tuple #[insV zI, .int .i64 5]) (by simp [results, Try.results68, go_sem, insV, zI, e0, e1, e2, e3, e4]) rfl HF.out

theorem six_more (xs : List Nat) (h : 6 < xs.length) : ∃ x0 x1 x2 x3 x4 x5 rest, xs = x0 :: x1 :: x2 :: x3 :: x4 :: x5 :: rest := by
  match xs, h with
  | x0 :: x1 :: x2 :: x3 :: x4 :: x5 :: rest, _ => exact ⟨x0, x1, x2, x3, x4, x5, rest, rfl⟩

theorem ref06_Decode (a : Option Addr) (xs : List Nat) (cap : Nat) (w : World) (hl : xs.length ≤ 9223372036854775807) (ha : NatsAt .u8 w a xs) (hx : ∀ x ∈ xs, x < 256) :
    Calls Try.prog 68 #[.slice a xs.length cap] w (GivesDec xs w) := by
  by_cases h6 : xs.length = 6
  · obtain ⟨b, off, rfl, _⟩ := ha.some (j := 0) (by omega)
    obtain ⟨x0, x1, x2, x3, x4, x5, rfl⟩ := six_of xs h6
    exact ref06_Decode_six b off x0 x1 x2 x3 x4 x5 cap w ha hx
  · by_cases h7 : xs.length < 6
    · exact ref06_Decode_short a xs cap w h7
    · obtain ⟨b, off, rfl, _⟩ := ha.some (j := 0) (by omega)
      obtain ⟨x0, x1, x2, x3, x4, x5, rest, rfl⟩ := six_more xs (by omega)
      exact ref06_Decode_long b off x0 x1 x2 x3 x4 x5 rest _ cap w rfl (by omega) hl ha hx
end Go.Proofs.Ythajndgljfbifaa
