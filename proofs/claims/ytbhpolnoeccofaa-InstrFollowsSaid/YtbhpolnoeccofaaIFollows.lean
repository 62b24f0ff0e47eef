/-
  InstrFollows: for every list of ints and every int the law returns true.
-/
import Derived.Test.YtbhpolnoeccofaaTgt2
namespace Go.Proofs.Ytbhpolnoeccofaa.instrFollowsLaw
open Go.RowKit Go.ChangeShapes Go.WideShapes Go.ChangeAt
set_option maxRecDepth 100000

def brB (op : Int) : Bool := jumpB op || decide (op = 22 ∨ op = 24)

/-- What the law asks of the targets. -/
def Fol (x : Ins) (p : Int) (L : List Int) : Prop :=
  (L = [] ∧ (x.op = 22 ∨ x.op = 24)) ∨
    (x.op ≠ 22 ∧ x.op ≠ 24 ∧ 0 < L.length ∧ L.length ≤ 2 ∧ (∀ k (h : k < L.length), L[k] = p ∨ (L[k] = x.imm ∧ brB x.op = true)) ∧ ∀ k (h : k + 1 < L.length), L[k] < L[k + 1])

theorem follows (x : Ins) (p : Int) : Fol x p (tgtV x p) := by
  have hbr : x.op = 18 ∨ x.op = 19 ∨ x.op = 20 ∨ x.op = 21 → brB x.op = true := fun h => by unfold brB jumpB; rw [decide_eq_true h]; rfl
  by_cases h1 : x.op = 18 ∨ x.op = 21
  · rw [tgt_jump x p h1]
    refine .inr ⟨by omega, by omega, by simp, by simp, fun k hk => ?_, fun k hk => by simp at hk⟩
    obtain rfl : k = 0 := by simpa using hk
    exact .inr ⟨rfl, hbr (by omega)⟩
  by_cases h2 : x.op = 22 ∨ x.op = 24
  · exact .inl ⟨tgt_none x p h2, h2⟩
  by_cases h3 : x.op = 19 ∨ x.op = 20
  · have hb := hbr (by omega)
    rcases (by omega : x.imm < p ∨ p < x.imm ∨ p = x.imm) with h4 | h4 | h4
    · rw [tgt_lo x p h3 h4]
      refine .inr ⟨by omega, by omega, by simp, by simp, fun k hk => ?_, fun k hk => ?_⟩
      · rcases (by simp at hk; omega : k = 0 ∨ k = 1) with rfl | rfl
        · exact .inr ⟨rfl, hb⟩
        · exact .inl rfl
      · obtain rfl : k = 0 := by simp at hk; omega
        exact h4
    · rw [tgt_hi x p h3 h4]
      refine .inr ⟨by omega, by omega, by simp, by simp, fun k hk => ?_, fun k hk => ?_⟩
      · rcases (by simp at hk; omega : k = 0 ∨ k = 1) with rfl | rfl
        · exact .inl rfl
        · exact .inr ⟨rfl, hb⟩
      · obtain rfl : k = 0 := by simp at hk; omega
        exact h4
    · rw [tgt_eq x p h3 h4]
      refine .inr ⟨by omega, by omega, by simp, by simp, fun k hk => ?_, fun k hk => by simp at hk⟩
      obtain rfl : k = 0 := by simpa using hk
      exact .inl rfl
  · rw [tgt_rest x p h1 h2 h3]
    refine .inr ⟨by omega, by omega, by simp, by simp, fun k hk => ?_, fun k hk => by simp at hk⟩
    obtain rfl : k = 0 := by simpa using hk
    exact .inl rfl

set_option maxHeartbeats 2000000 in
theorem core (a : Option Addr) (xs : List Int) (ca : Nat) (pc : Int) (w : World) (ha : IntsAt .i64 w a xs) (hx : GoodInts xs) (h1 : -9223372036854775808 ≤ pc) (h2 : pc ≤ 9223372036854775807) :
    Calls Try.prog 6 #[.slice a xs.length ca, .int .i64 pc] w fun e w' => e = .returned (.bool true) ∧ Below w.heap.size w w' := by
  have HN1 := Lib.hid (new_in a xs ca w ha hx)
  have HI := Lib.hid (fun D W (h : Deck W D) => instr_in D W h)
  have HM := Lib.hid (fun W => make_Mod pc 64 W (by omega) (by omega) h1 h2)
  obtain ⟨p, hm⟩ : ∃ p : Nat, pc % 64 = (p : Int) := ⟨(pc % 64).toNat, by omega⟩
  have hp : p < 64 := by omega
  rw [hm] at HM
  clear ha hx h1 h2 hm
  go_enter Try.func6, Try.ntmps6
  go_wp2_with fail
  refine HN1.out.mono ?_
  rintro e w1 ⟨rfl, hd1, hb1⟩
  go_wp2_with fail
  refine (HI.out _ _ hd1).mono ?_
  rintro e w2 ⟨x, rfl, hx, hd2, hg2⟩
  have hB2 : Below w.heap.size w w2 := hb1.grown hg2 hb1.size (fun k hk => by cases hk; omega)
  clear HN1 hd1 hb1 hd2 hg2 HI
  have HT := Lib.hid (fun W => instr_Targets x p W hp (vin_of hx))
  have hw := Lib.hid (IntWalk.i64_in ((p : Int) + 1) (by omega))
  have HF := Lib.hid (follows x ((p : Int) + 1))
  generalize tgtV x ((p : Int) + 1) = L at *
  unfold insV at HT
  unfold insV
  clear hx
  have X1 := InsBox.new w2 x
  have hA1 := Below.alloc (Below.refl w2.heap.size w2) (Nat.le_refl _) (.cells #[.int .i64 x.op, .int .i64 x.a, .int .i64 x.b, .int .i64 x.c, .int .i64 x.imm] 23)
  have hB3 := hB2.trans (hA1.mono hB2.size)
  clear hA1 hB2
  go_upto_region 2 with fail
  generalize w2.alloc (.cells #[.int .i64 x.op, .int .i64 x.a, .int .i64 x.b, .int .i64 x.c, .int .i64 x.imm] 23) = W3 at *
  generalize w2.heap.size = Z at *
  go_wp2_with fail
  refine (HM.out _).mono ?_
  rintro e w3 ⟨rfl, hw3⟩
  subst hw3
  obtain ⟨e0, e1, e2, e3, e4, _⟩ := ins_cells X1
  go_wp2_with fail
  refine (HT.out _).mono ?_
  rintro e w4 ⟨at4, cap4, rfl, hi4, hb4⟩
  have X4 := X1.later hb4
  have hB4 := hB3.trans (hb4.mono hB3.size)
  clear e0 e1 e2 e3 e4 X1 hb4 hB3 HT HM
  obtain ⟨e0, e1, e2, e3, e4, _⟩ := ins_cells X4
  have HB4 := Lib.hid hB4
  clear hB4 X4 e1 e2 e3
  have hw := hw.out
  rcases HF.out with ⟨rfl, h | h⟩ | ⟨n1, n2, l0, l2, hall, hasc⟩
  · rw [h] at e0
    clear HF h
    go_wp2_with (go_at_call 21; (with_reducible refine (law06_awake _).mono ?_); rintro e w' ⟨rfl, hb9⟩)
    go_ret
    exact ⟨rfl, HB4.out.trans (hb9.mono HB4.out.size)⟩
  · rw [h] at e0
    clear HF h
    go_wp2_with (go_at_call 21; (with_reducible refine (law06_awake _).mono ?_); rintro e w' ⟨rfl, hb9⟩)
    go_ret
    exact ⟨rfl, HB4.out.trans (hb9.mono HB4.out.size)⟩
  · have g0 : ((L.length : Int) == 0) = false := by rw [beq_eq_false_iff_ne]; omega
    have g1 : (x.op == 22) = false := by rw [beq_eq_false_iff_ne]; exact n1
    have g2 : (x.op == 24) = false := by rw [beq_eq_false_iff_ne]; exact n2
    have g3 : (L.length : Int) ≤ 2 := by omega
    have g4 : (x.op != 22) = true := by rw [bne_iff_ne]; exact n1
    have g5 : (x.op != 24) = true := by rw [bne_iff_ne]; exact n2
    have HA := Lib.hid hall
    have HC := Lib.hid hasc
    have HBr := Lib.hid (fun W => instr_Branch x.op W)
    have hbrb : (jumpB x.op || decide (x.op = 22 ∨ x.op = 24)) = brB x.op := rfl
    rw [hbrb] at HBr
    generalize brB x.op = br at *
    obtain ⟨op, xa, xb, xc, imm⟩ := x
    simp only at HA HBr e0 e4 g1 g2 g4 g5
    clear HF hall hasc n1 n2 hbrb
    go_wp2_with fail
    go_loopw [33] (fun c wr => ∃ k : Nat, k ≤ L.length ∧ c = .int .i64 k ∧ wr = w4) (fun c _ => L.length - (intOf c).toNat)
    case atStart => exact ⟨0, by omega, rfl, rfl⟩
    case round =>
      obtain ⟨k, hk, rfl, rfl⟩ := hrel
      by_cases hlt : k < L.length
      · obtain ⟨b4, o4, rfl, hc4⟩ := hi4.some hlt
        have c1 := hc4 k hlt
        have i1 : (k : Int) < (L.length : Int) := by omega
        have i2 : 0 ≤ (k : Int) := by omega
        have hk1 := HA.out k hlt
        have hk2 : k = 0 ∨ ∃ j, k = j + 1 ∧ j < L.length ∧ wr.cell? ⟨b4, o4 + j, none⟩ = some (.int .i64 (L.getD j 0)) ∧ L.getD j 0 < L[k] := by
          by_cases hk0 : k = 0
          · exact .inl hk0
          · obtain ⟨j, rfl⟩ : ∃ j, k = j + 1 := ⟨k - 1, by omega⟩
            have hj : j < L.length := by omega
            have e : L.getD j 0 = L[j] := by simp [List.getD, List.getElem?_eq_getElem hj]
            exact .inr ⟨j, rfl, hj, by rw [e]; exact hc4 j hj, by rw [e]; exact HC.out j hlt⟩
        generalize L[k] = v at *
        clear HA HC hc4 hi4
        have hwr := Lib.hid hw
        rcases hk2 with rfl | ⟨j, rfl, hj, c0, hjv⟩
        · simp only [Nat.add_zero] at c1
          rcases hk1 with rfl | ⟨rfl, rfl⟩
          · go_wp2
            go_roundw
            case rel => exact ⟨1, by omega, by go_num, trivial⟩
            case measure => simp [intOf]; omega
          · by_cases hv : v = (p : Int) + 1
            · subst hv
              go_wp2
              go_roundw
              case rel => exact ⟨1, by omega, by go_num, trivial⟩
              case measure => simp [intOf]; omega
            · have hne : (v != (p : Int) + 1) = true := by rw [bne_iff_ne]; exact hv
              clear hv
              go_wp2_with (go_at_call 15; (with_reducible refine (HBr.out _).mono ?_); rintro e w' ⟨rfl, rfl⟩)
              go_roundw
              case rel => exact ⟨1, by omega, by go_num, trivial⟩
              case measure => simp [intOf]; omega
        · have i3 : IntKind.i64.wrap (((j + 1 : Nat) : Int) - 1) = (j : Int) := by rw [IntWalk.i64_in _ (by omega)]; omega
          have i4 : (j : Int) < (L.length : Int) := by omega
          have i5 : 0 ≤ (j : Int) := by omega
          have i6 : 0 < ((j + 1 : Nat) : Int) := by omega
          have i7 : ¬ v ≤ L.getD j 0 := by omega
          generalize L.getD j 0 = u at *
          clear hjv
          rcases hk1 with rfl | ⟨rfl, rfl⟩
          · go_wp2
            go_roundw
            case rel => exact ⟨j + 1 + 1, by omega, by go_num, trivial⟩
            case measure => simp [intOf]; omega
          · by_cases hv : v = (p : Int) + 1
            · subst hv
              go_wp2
              go_roundw
              case rel => exact ⟨j + 1 + 1, by omega, by go_num, trivial⟩
              case measure => simp [intOf]; omega
            · have hne : (v != (p : Int) + 1) = true := by rw [bne_iff_ne]; exact hv
              clear hv
              go_wp2_with (go_at_call 15; (with_reducible refine (HBr.out _).mono ?_); rintro e w' ⟨rfl, rfl⟩)
              go_roundw
              case rel => exact ⟨j + 1 + 1, by omega, by go_num, trivial⟩
              case measure => simp [intOf]; omega
      · obtain rfl : k = L.length := by omega
        clear HA HC hi4
        go_wp2_with (go_at_call 21; (with_reducible refine (law06_awake _).mono ?_); rintro e w' ⟨rfl, hb9⟩)
        go_ret
        exact ⟨rfl, HB4.out.trans (hb9.mono HB4.out.size)⟩

theorem walk {H : Type} (enc : TypeId × Value → H) (W : World) (base : Nat) (v0 : Value) (d0 : DataW H) (p0 : List MemPlace) (o0 : Value.okWide Try.prog W .any base 24 v0) (h0 : DataW.Trod enc Try.prog W 0 (fun _ => true) true 24 v0 d0 p0)
    (v1 : Value) (d1 : DataW H) (p1 : List MemPlace) (o1 : Value.okWide Try.prog W .any base 3 v1) (h1 : DataW.Trod enc Try.prog W 0 (fun _ => true) true 3 v1 d1 p1) :
    Calls Try.prog 6 #[v0, v1] W fun e w' => e = .returned (.bool true) ∧ Below W.heap.size W w' := by
  obtain ⟨a, xs, ca, rfl, ha, hx, hl⟩ := open_nums Try.underlying24 Try.underlying3 (by kernel_rfl) o0 h0
  obtain ⟨i, rfl, rfl, rfl, w1⟩ := open_int Try.underlying3 o1 h1
  exact core a xs ca i W ha ⟨fun x hx2 => int_of (hx x hx2), by unfold maxLen at hl; exact hl⟩ (int_of w1).1 (int_of w1).2
end Go.Proofs.Ytbhpolnoeccofaa.instrFollowsLaw
