/-
  WordMetric: for every list of ints the law returns true.
-/
import Derived.Test.YtbeielaapnncgaaDeck3
import Derived.Test.YtbeielaapnncgaaCells4
import Derived.Test.YtbeielaapnncgaaOpen
namespace Go.Proofs.Ytbeielaapnncgaa.wordMetricLaw
open Go.RowKit Go.ChangeShapes Go.WideShapes Go.ChangeAt

set_option maxHeartbeats 2000000 in
theorem core (a : Option Addr) (xs : List Int) (cap : Nat) (w : World) (ha : IntsAt .i64 w a xs) (hx : ∀ x ∈ xs, -9223372036854775808 ≤ x ∧ x ≤ 9223372036854775807) (hl : xs.length ≤ 9223372036854775807) :
    Calls Try.prog 7 #[.slice a xs.length cap] w fun e w' => e = .returned (.bool true) ∧ Below w.heap.size w w' := by
  have hNew := Lib.hid (new_any a xs cap w ha hx hl)
  have hC : Hid (∀ W, Deck W w.heap.size → Calls Try.prog 18 #[.pointer (some ⟨w.heap.size, 0, none⟩), .int .i64 6] W (GivesList 6 w.heap.size W)) :=
    Lib.hid fun W h => cells_any w.heap.size 6 W h (by omega)
  clear ha hx
  go_enter Try.func7, Try.ntmps7
  go_wp2_with (first
    | (go_at_call 17; (with_reducible refine hNew.out.mono ?_); rintro e w1 ⟨rfl, hd1, hb1⟩)
    | (go_at_call 18; (with_reducible refine (hC.out _ hd1).mono ?_); rintro e w2 ⟨a2, c2, x2, rfl, hx2, ho2, hl2, hd2, hg2, _⟩)
    | (go_at_call 18; (with_reducible refine (hC.out _ hd2).mono ?_); rintro e w3 ⟨a3, c3, x3, rfl, hx3, ho3, hl3, hd3, hg3, _⟩)
    | (go_at_call 18; (with_reducible refine (hC.out _ hd3).mono ?_); rintro e w4 ⟨a4, c4, x4, rfl, hx4, ho4, hl4, hd4, hg4, _⟩))
  have s1 := hd1.lt
  have s2 := hg2.size
  have s3 := hg3.size
  have s4 := hg4.size
  have C2 := ((hx2.kept hg3 s1).kept hg4 s1).at
  have C3 := (hx3.kept hg4 (by omega)).at
  have C4 := hx4.at
  have B4 : Below w.heap.size w w4 := ((hb1.grown hg2 hb1.size (fun k hk => by cases hk; exact Nat.le_refl _)).grown hg3 (by omega) (fun k hk => by cases hk; exact Nat.le_refl _)).grown hg4 (by omega) (fun k hk => by cases hk; exact Nat.le_refl _)
  clear hx2 hx3 hx4 hg2 hg3 hg4 hd1 hd2 hd3 hd4 hb1 hNew hC
  have d23 := Lib.hid (fun W (h : Below w4.heap.size w4 W) => dist_any a2 a3 x2 x3 c2 c3 W (C2.later h) (C3.later h) ho2 ho3 (by omega) (by omega))
  have d34 := Lib.hid (fun W (h : Below w4.heap.size w4 W) => dist_any a3 a4 x3 x4 c3 c4 W (C3.later h) (C4.later h) ho3 ho4 (by omega) (by omega))
  have d24 := Lib.hid (fun W (h : Below w4.heap.size w4 W) => dist_any a2 a4 x2 x4 c2 c4 W (C2.later h) (C4.later h) ho2 ho4 (by omega) (by omega))
  have d32 := Lib.hid (fun W (h : Below w4.heap.size w4 W) => dist_any a3 a2 x3 x2 c3 c2 W (C3.later h) (C2.later h) ho3 ho2 (by omega) (by omega))
  have d22 := Lib.hid (fun W (h : Below w4.heap.size w4 W) => dist_any a2 a2 x2 x2 c2 c2 W (C2.later h) (C2.later h) ho2 ho2 (by omega) (by omega))
  have hs := Lib.hid (fun W (h : Below w4.heap.size w4 W) => rsame_any a2 a3 x2 x3 c2 c3 W (C2.later h) (C3.later h) (by omega) (by omega))
  rw [dist_comm x3 x2] at d32
  rw [dist_same] at d22
  have htri := dist_tri x2 x3 x4
  have hz := dist_zero x2 x3 ho2 ho3
  have l23 := dist_le x2 x3
  have l34 := dist_le x3 x4
  have l24 := dist_le x2 x4
  generalize dist x2 x3 = x at *
  generalize dist x3 x4 = y at *
  generalize dist x2 x4 = z at *
  clear C2 C3 C4 ho2 ho3 ho4
  have u1 : x ≤ 102 := by omega
  have u2 : y ≤ 102 := by omega
  have u3 : z ≤ 102 := by omega
  clear l23 l34 l24
  have hcase : (((x : Int) == 0) = true ∧ decide (x2 = x3) = true) ∨ (((x : Int) == 0) = false ∧ decide (x2 = x3) = false) := by
    by_cases h : x2 = x3
    · left; have := hz.2 h; exact ⟨by rw [beq_iff_eq]; omega, decide_eq_true h⟩
    · right; have : x ≠ 0 := fun e => h (hz.1 e); exact ⟨by rw [beq_eq_false_iff_ne]; omega, decide_eq_false h⟩
  clear hz
  rcases hcase with ⟨e1, e2⟩ | ⟨e1, e2⟩
  all_goals
    rw [e2] at hs
    clear e2
    have HB := Below.refl w4.heap.size w4
    go_wp2_with (first
      | (go_at_call 20; (with_reducible refine (d23.out _ HB).mono ?_); rintro e w5 ⟨rfl, hb5⟩; have HB5 : Below w4.heap.size w4 w5 := HB.trans (hb5.mono HB.size))
      | (go_at_call 20; (with_reducible refine (d34.out _ HB5).mono ?_); rintro e w6 ⟨rfl, hb6⟩; have HB6 : Below w4.heap.size w4 w6 := HB5.trans (hb6.mono HB5.size))
      | (go_at_call 20; (with_reducible refine (d24.out _ HB6).mono ?_); rintro e w7 ⟨rfl, hb7⟩; have HB7 : Below w4.heap.size w4 w7 := HB6.trans (hb7.mono HB6.size))
      | (go_at_call 20; (with_reducible refine (d32.out _ HB7).mono ?_); rintro e w8 ⟨rfl, hb8⟩; have HB8 : Below w4.heap.size w4 w8 := HB7.trans (hb8.mono HB7.size))
      | (go_at_call 23; (with_reducible refine (hs.out _ HB8).mono ?_); rintro e w9 ⟨rfl, hb9⟩; have HB9 : Below w4.heap.size w4 w9 := HB8.trans (hb9.mono HB8.size))
      | (go_at_call 20; (with_reducible refine (d22.out _ HB9).mono ?_); rintro e w10 ⟨rfl, hb10⟩; have HB10 : Below w4.heap.size w4 w10 := HB9.trans (hb10.mono HB9.size))
      | (go_at_call 16; (with_reducible refine (awake_any _).mono ?_); rintro e w11 ⟨rfl, hb11⟩)
      )
    go_ret
    exact ⟨rfl, B4.trans ((HB10.trans (hb11.mono HB10.size)).mono B4.size)⟩

theorem walk {H : Type} (enc : TypeId × Value → H) (W : World) (base : Nat) (v0 : Value) (d0 : DataW H) (p0 : List MemPlace) (o0 : Value.okWide Try.prog W .any base 26 v0) (h0 : DataW.Trod enc Try.prog W 0 (fun _ => true) true 26 v0 d0 p0) :
    Calls Try.prog 7 #[v0] W fun e w' => e = .returned (.bool true) ∧ Below W.heap.size W w' := by
  obtain ⟨a, xs, cap, rfl, ha, hx, hl⟩ := open_nums Try.underlying26 Try.underlying3 (by kernel_rfl) o0 h0
  exact core a xs cap W ha (fun x hx2 => int_of (hx x hx2)) (by unfold maxLen at hl; exact hl)
end Go.Proofs.Ytbeielaapnncgaa.wordMetricLaw
