/-
  InstrBack: for every two lists of ints the law returns true.
-/
import Derived.Test.YtbhpolnoeccofaaIc7
import Derived.Deep.RegionHeld3
namespace Go.Proofs.Ytbhpolnoeccofaa.instrBackLaw
open Go.RowKit Go.ChangeShapes Go.WideShapes Go.ChangeAt
set_option maxRecDepth 100000

set_option maxHeartbeats 2000000 in
theorem core (a b : Option Addr) (xs ys : List Int) (ca cb : Nat) (w : World) (ha : IntsAt .i64 w a xs) (hb : IntsAt .i64 w b ys) (hx : GoodInts xs) (hy : GoodInts ys) :
    Calls Try.prog 5 #[.slice a xs.length ca, .slice b ys.length cb] w fun e w' => e = .returned (.bool true) ∧ Below w.heap.size w w' := by
  have HN1 := Lib.hid (new_in a xs ca w ha hx)
  have HN2 := Lib.hid (fun W (h : Below w.heap.size w W) => new_in b ys cb W (ints_later hb h) hy)
  have HI := Lib.hid (fun D W (h : Deck W D) => instr_in D W h)
  clear ha hb hx hy
  go_enter Try.func5, Try.ntmps5
  go_wp2_with fail
  refine HN1.out.mono ?_
  rintro e w1 ⟨rfl, hd1, hb1⟩
  go_wp2_with fail
  refine (HI.out _ _ hd1).mono ?_
  rintro e w2 ⟨x, rfl, hx, hd2, hg2⟩
  have hB2 : Below w.heap.size w w2 := hb1.grown hg2 hb1.size (fun k hk => by cases hk; omega)
  clear HN1 hd1 hb1 hd2 hg2
  unfold insV
  go_wp2_with fail
  refine (HN2.out _ hB2).mono ?_
  rintro e w3 ⟨rfl, hd3, hb3⟩
  go_wp2_with fail
  refine (HI.out _ _ hd3).mono ?_
  rintro e w4 ⟨y, rfl, hy, hd4, hg4⟩
  have hB4 : Below w.heap.size w w4 := (hB2.trans (hb3.mono hB2.size)).grown hg4 (by have := hB2.size; have := hb3.size; omega) (fun k hk => by cases hk; exact hB2.size)
  clear HN2 hd3 hb3 hd4 hg4 hB2 HI
  unfold insV
  have hvx := vin_of hx
  have hvy := vin_of hy
  have HE1 := Lib.hid (fun W => instr_Encode x W hvx)
  have HE2 := Lib.hid (fun W => instr_Encode y W hvy)
  have HD := Lib.hid (fun B W (h : NatsAt .u8 W (some ⟨B, 0, none⟩) (encB x)) => instr_Decode (some ⟨B, 0, none⟩) (encB x) 6 W (by simp [encB]) h (encB_lt x hvx))
  have HC1 := Lib.hid (fun B W (h : NatsAt .u8 W (some ⟨B, 0, none⟩) (encB x)) => conv_of h (encB_lt x hvx) 6 6 rfl)
  have HC2 := Lib.hid (fun B W (h : NatsAt .u8 W (some ⟨B, 0, none⟩) (encB y)) => conv_of h (encB_lt y hvy) 6 6 rfl)
  have hq2 := str_same x y hvx hvy
  have hq : (strOf (encB x) == strOf (encB y)) = sameI x y := (beq_toListBytes _ _).trans hq2
  have hE := fun W => eql_ins x y W
  have hdx := dec_enc x hvx
  unfold GivesDec at HD
  rw [hdx.1, hdx.2, show (encB x).length = 6 from rfl] at HD
  unfold insV at HE1 HE2 HD
  generalize sameI x y = q at *
  generalize strOf (encB x) = sx at *
  generalize strOf (encB y) = sy at *
  clear hvx hvy hx hy hdx
  have X1 := InsBox.new w4 x
  have hA1 := Below.alloc (Below.refl w4.heap.size w4) (Nat.le_refl _) (.cells #[.int .i64 x.op, .int .i64 x.a, .int .i64 x.b, .int .i64 x.c, .int .i64 x.imm] 23)
  have Y1 := InsBox.new (w4.alloc (.cells #[.int .i64 x.op, .int .i64 x.a, .int .i64 x.b, .int .i64 x.c, .int .i64 x.imm] 23)) y
  have hA2 := Below.alloc (Below.refl (w4.alloc (.cells #[.int .i64 x.op, .int .i64 x.a, .int .i64 x.b, .int .i64 x.c, .int .i64 x.imm] 23)).heap.size (w4.alloc (.cells #[.int .i64 x.op, .int .i64 x.a, .int .i64 x.b, .int .i64 x.c, .int .i64 x.imm] 23))) (Nat.le_refl _) (.cells #[.int .i64 y.op, .int .i64 y.a, .int .i64 y.b, .int .i64 y.c, .int .i64 y.imm] 23)
  have X2 := X1.later hA2
  have hB5 := (hB4.trans (hA1.mono hB4.size)).trans (hA2.mono (Nat.le_trans hB4.size hA1.size))
  rw [show (w4.alloc (.cells #[.int .i64 x.op, .int .i64 x.a, .int .i64 x.b, .int .i64 x.c, .int .i64 x.imm] 23)).heap.size = w4.heap.size + 1 by simp] at Y1
  clear X1 hA1 hA2 hB4
  go_upto_region 2 with fail
  generalize (w4.alloc (.cells #[.int .i64 x.op, .int .i64 x.a, .int .i64 x.b, .int .i64 x.c, .int .i64 x.imm] 23)).alloc (.cells #[.int .i64 y.op, .int .i64 y.a, .int .i64 y.b, .int .i64 y.c, .int .i64 y.imm] 23) = W5 at *
  generalize w4.heap.size = Z at *
  obtain ⟨e0, e1, e2, e3, e4, _⟩ := ins_cells X2
  go_wp2_with fail
  refine (HE1.out _).mono ?_
  rintro e w6 ⟨Ba, hBa, rfl, hba, hb6⟩
  have X6 := X2.later hb6
  have Y6 := Y1.later hb6
  have hB6 := hB5.trans (hb6.mono hB5.size)
  clear e0 e1 e2 e3 e4 X2 Y1 hb6 hB5 HE1 hBa
  obtain ⟨e0, e1, e2, e3, e4, _⟩ := ins_cells Y6
  go_wp2_with fail
  refine (HE2.out _).mono ?_
  rintro e w7 ⟨Bb, hBb, rfl, hbb, hb7⟩
  have X7 := X6.later hb7
  have Y7 := Y6.later hb7
  have A7 := hba.later hb7
  have hB7 := hB6.trans (hb7.mono hB6.size)
  clear e0 e1 e2 e3 e4 X6 Y6 hba hb7 hB6 HE2 hBb
  go_wp2_with fail
  refine (HD.out Ba w7 (nats_blk A7)).mono ?_
  rintro e w8 ⟨rfl, hb8⟩
  have hA8 := Below.alloc (Below.refl w8.heap.size w8) (Nat.le_refl _) (.cells #[.int .i64 x.op, .int .i64 x.a, .int .i64 x.b, .int .i64 x.c, .int .i64 x.imm] 23)
  have V9 := InsBox.new w8 x
  have hb9 := hb8.trans (hA8.mono hb8.size)
  have X9 := X7.later hb9
  have Y9 := Y7.later hb9
  have A9 := A7.later hb9
  have B9 := hbb.later hb9
  have hB9 := hB7.trans (hb9.mono hB7.size)
  clear X7 Y7 A7 hbb hb9 hA8 hb8 hB7 HD
  go_upto_region 5 with fail
  generalize w8.alloc (.cells #[.int .i64 x.op, .int .i64 x.a, .int .i64 x.b, .int .i64 x.c, .int .i64 x.imm] 23) = W9 at *
  generalize w8.heap.size = V at *
  have hS1 := Lib.hid (fun W (h : Below W9.heap.size W9 W) => HC1.out Ba W (nats_blk (A9.later h)))
  have hS2 := Lib.hid (fun W (h : Below W9.heap.size W9 W) => HC2.out Bb W (nats_blk (B9.later h)))
  have hS3 := Lib.hid (fun W (h : Below W9.heap.size W9 W) => ins_cells (X9.later h))
  have hS4 := Lib.hid (fun W (h : Below W9.heap.size W9 W) => ins_cells (Y9.later h))
  have hS5 := Lib.hid (fun W (h : Below W9.heap.size W9 W) => ins_cells (V9.later h))
  obtain ⟨xo, xa, xb, xc, xi⟩ := x
  obtain ⟨yo, ya, yb, yc, yi⟩ := y
  simp only at hS3 hS4 hS5 hE
  clear X9 Y9 V9 A9 B9 HC1 HC2
  have hend : Hid (∀ W, Below W9.heap.size W9 W → Below w.heap.size w W) := Lib.hid (fun W h => hB9.trans (h.mono hB9.size))
  clear hB9
  have HS : Hid (∀ W, Below W9.heap.size W9 W → (convert 30 9 (.slice (some ⟨Ba, 0, none⟩) 6 6)).run Try.prog W = .ok (.string sx) W ∧ (convert 30 9 (.slice (some ⟨Bb, 0, none⟩) 6 6)).run Try.prog W = .ok (.string sy) W ∧ W.cell? ⟨Z, 0, none⟩ = some (.int .i64 xo) ∧ W.cell? ⟨Z, 1, none⟩ = some (.int .i64 xa) ∧ W.cell? ⟨Z, 2, none⟩ = some (.int .i64 xb) ∧ W.cell? ⟨Z, 3, none⟩ = some (.int .i64 xc) ∧ W.cell? ⟨Z, 4, none⟩ = some (.int .i64 xi) ∧ W.cell? ⟨Z + 1, 0, none⟩ = some (.int .i64 yo) ∧ W.cell? ⟨Z + 1, 1, none⟩ = some (.int .i64 ya) ∧ W.cell? ⟨Z + 1, 2, none⟩ = some (.int .i64 yb) ∧ W.cell? ⟨Z + 1, 3, none⟩ = some (.int .i64 yc) ∧ W.cell? ⟨Z + 1, 4, none⟩ = some (.int .i64 yi) ∧ W.cell? ⟨V, 0, none⟩ = some (.int .i64 xo) ∧ W.cell? ⟨V, 1, none⟩ = some (.int .i64 xa) ∧ W.cell? ⟨V, 2, none⟩ = some (.int .i64 xb) ∧ W.cell? ⟨V, 3, none⟩ = some (.int .i64 xc) ∧ W.cell? ⟨V, 4, none⟩ = some (.int .i64 xi) ∧ Below W9.heap.size W9 W) := Lib.hid (fun W h => by
    obtain ⟨p0, p1, p2, p3, p4, _⟩ := hS3.out W h
    obtain ⟨q0, q1, q2, q3, q4, _⟩ := hS4.out W h
    obtain ⟨r0, r1, r2, r3, r4, _⟩ := hS5.out W h
    exact ⟨hS1.out W h, hS2.out W h, p0, p1, p2, p3, p4, q0, q1, q2, q3, q4, r0, r1, r2, r3, r4, h⟩)
  clear hS1 hS2 hS3 hS4 hS5
  go_region_held3 (fun W => (convert 30 9 (.slice (some ⟨Ba, 0, none⟩) 6 6)).run Try.prog W = .ok (.string sx) W ∧ (convert 30 9 (.slice (some ⟨Bb, 0, none⟩) 6 6)).run Try.prog W = .ok (.string sy) W ∧ W.cell? ⟨Z, 0, none⟩ = some (.int .i64 xo) ∧ W.cell? ⟨Z, 1, none⟩ = some (.int .i64 xa) ∧ W.cell? ⟨Z, 2, none⟩ = some (.int .i64 xb) ∧ W.cell? ⟨Z, 3, none⟩ = some (.int .i64 xc) ∧ W.cell? ⟨Z, 4, none⟩ = some (.int .i64 xi) ∧ W.cell? ⟨Z + 1, 0, none⟩ = some (.int .i64 yo) ∧ W.cell? ⟨Z + 1, 1, none⟩ = some (.int .i64 ya) ∧ W.cell? ⟨Z + 1, 2, none⟩ = some (.int .i64 yb) ∧ W.cell? ⟨Z + 1, 3, none⟩ = some (.int .i64 yc) ∧ W.cell? ⟨Z + 1, 4, none⟩ = some (.int .i64 yi) ∧ W.cell? ⟨V, 0, none⟩ = some (.int .i64 xo) ∧ W.cell? ⟨V, 1, none⟩ = some (.int .i64 xa) ∧ W.cell? ⟨V, 2, none⟩ = some (.int .i64 xb) ∧ W.cell? ⟨V, 3, none⟩ = some (.int .i64 xc) ∧ W.cell? ⟨V, 4, none⟩ = some (.int .i64 xi) ∧ Below W9.heap.size W9 W)
    (first
      | exact HS.out _ (Below.refl _ _)
        | exact HS.out _ (Below.refl _ _).drew
        | assumption
        | (go_split_ands; exact HS.out _ (Below.trans (by assumption) (hb5.mono (Below.size (by assumption))))))
      ((go_at_call 21; (with_reducible refine (law06_awake _).mono ?_); rintro e w' ⟨rfl, hb5⟩))
  go_wp2
  go_ret
  refine ⟨rfl, hend.out _ ?_⟩
  go_split_ands
  assumption

theorem walk {H : Type} (enc : TypeId × Value → H) (W : World) (base : Nat) (v0 : Value) (d0 : DataW H) (p0 : List MemPlace) (o0 : Value.okWide Try.prog W .any base 24 v0) (h0 : DataW.Trod enc Try.prog W 0 (fun _ => true) true 24 v0 d0 p0)
    (v1 : Value) (d1 : DataW H) (p1 : List MemPlace) (o1 : Value.okWide Try.prog W .any base 24 v1) (h1 : DataW.Trod enc Try.prog W 0 (fun _ => true) true 24 v1 d1 p1) :
    Calls Try.prog 5 #[v0, v1] W fun e w' => e = .returned (.bool true) ∧ Below W.heap.size W w' := by
  obtain ⟨a, xs, ca, rfl, ha, hx, hl⟩ := open_nums Try.underlying24 Try.underlying3 (by kernel_rfl) o0 h0
  obtain ⟨b, ys, cb, rfl, hb, hy, hm⟩ := open_nums Try.underlying24 Try.underlying3 (by kernel_rfl) o1 h1
  exact core a b xs ys ca cb W ha hb ⟨fun x hx2 => int_of (hx x hx2), by unfold maxLen at hl; exact hl⟩ ⟨fun y hy2 => int_of (hy y hy2), by unfold maxLen at hm; exact hm⟩
end Go.Proofs.Ytbhpolnoeccofaa.instrBackLaw
