/-
  RegionCounts: for every list of ints the law returns true.
-/
import Derived.Test.YtfpekljghcffbaaReg4
import Derived.Test.YtfpekljghcffbaaReg6
namespace Go.Proofs.Ytfpekljghcffbaa.regionCountsLaw
open Go.RowKit Go.ChangeShapes Go.WideShapes Go.ChangeAt

/-- The place before: none yet, or the one with the number before. -/
def Last (s : List Nat) (k : Nat) (lr lo : Int) : Prop :=
  (k = 0 ∧ lr = -1) ∨ ∃ r o : Nat, ∃ hr : r < s.length, lr = (r : Int) ∧ lo = (o : Int) ∧ o < s[r] ∧ (s.take r).sum + o + 1 = k

theorem last_next {s : List Nat} {k : Nat} {lr lo : Int} (h : Last s k lr lo) {r o : Nat} (hr : r < s.length) (ho : o < s[r]) (he : (s.take r).sum + o = k) : lr < (r : Int) ∨ (lr = (r : Int) ∧ (o : Int) = lo + 1) := by
  rcases h with ⟨_, rfl⟩ | ⟨r', o', hr', rfl, rfl, ho', he'⟩
  · left; omega
  · obtain ⟨h1, h2⟩ := at_order hr' hr ho' ho (by omega)
    by_cases h : r = r'
    · right; have := h2 h; omega
    · left; omega

set_option maxHeartbeats 2000000 in
theorem core (a : Option Addr) (xs : List Int) (cap : Nat) (w : World) (ha : IntsAt .i64 w a xs) (hx : ∀ x ∈ xs, -9223372036854775808 ≤ x ∧ x ≤ 9223372036854775807) (hl : xs.length ≤ 9223372036854775807) :
    Calls Try.prog 5 #[.slice a xs.length cap] w fun e w' => e = .returned (.bool true) ∧ Below w.heap.size w w' := by
  have hNew := Lib.hid (new_any a xs cap w ha hx hl)
  clear ha hx hl
  go_enter Try.func5, Try.ntmps5
  go_wp2_with fail
  refine hNew.out.mono ?_
  rintro e w1 ⟨rfl, hd1, hb1⟩
  have hS := Lib.hid (sizes_any _ w1 hd1)
  go_wp2_with fail
  refine hS.out.mono ?_
  rintro e w2 ⟨a2, c2, s, rfl, hn2, hc2, hz, hd2, hg2⟩
  have B2 : Below w.heap.size w w2 := hb1.grown hg2 hb1.size (fun k hk => by cases hk; exact Nat.le_refl _)
  have A2 := hn2.at
  have hT := Lib.hid (total_any a2 s c2 w2 hz A2)
  have hsum := hz.sum_le
  have HZ := Lib.hid hz
  clear hn2 hd1 hb1 hg2 hd2 hNew hS hz
  go_wp2_with (go_at_call 14; (with_reducible refine hT.out.mono ?_); rintro e w' ⟨rfl, rfl⟩)
  have hL0 : Below w2.heap.size w2 (w2.alloc (.cells #[.int .i64 (-1), .int .i64 0] 33)) := Below.alloc (Below.refl _ _) (Nat.le_refl _) _
  go_loopw [20] (fun c wr => ∃ (k : Nat) (lr lo : Int), k ≤ s.sum ∧ c = .int .i64 k ∧ wr.cell? ⟨w2.heap.size, 0, none⟩ = some (.int .i64 lr) ∧ wr.cell? ⟨w2.heap.size, 1, none⟩ = some (.int .i64 lo) ∧
      wr.frozen? ⟨w2.heap.size, 0, none⟩ = false ∧ wr.frozen? ⟨w2.heap.size, 1, none⟩ = false ∧ Below w2.heap.size w2 wr ∧ Last s k lr lo) (fun c _ => s.sum - (intOf c).toNat)
  case atStart =>
    refine ⟨0, -1, 0, by omega, rfl, ?_, ?_, by go_simp, by go_simp, hL0, .inl ⟨rfl, rfl⟩⟩
    · rw [World.cell?_alloc_at _ _ _ _ rfl]; rfl
    · rw [World.cell?_alloc_at _ _ _ _ rfl]; rfl
  case round =>
    obtain ⟨k, lr, lo, hk, rfl, l0, l1, f0, f1, hw, hlast⟩ := hrel
    have HL := Lib.hid hlast
    clear hlast
    have Ar := A2.later hw
    by_cases hlt : k < s.sum
    · obtain ⟨r, o, hr, hat, ho, he⟩ := at_there hlt
      obtain ⟨e1, e2, e3⟩ := at_some hat
      have H1 := at_any a2 s c2 (k : Int) wr (by omega) HZ.out Ar
      rw [e1, e2, e3] at H1
      have K1 := Lib.hid H1
      have hins := ins_in s r o hr ho
      obtain ⟨i1, i2⟩ := idx_in hins
      rw [Int.toNat_natCast, show (((s.take r).sum : Nat) : Int) + (o : Int) = (k : Int) by omega] at i1
      have hcase := Lib.hid (last_next HL.out hr ho he)
      have ho32 : o ≤ 32 := by have := (HZ.out.2.2 _ (List.getElem_mem hr)).2; omega
      have hnext : Hid (Last s (k + 1) (r : Int) (o : Int)) := Lib.hid (.inr ⟨r, o, hr, rfl, rfl, ho, by omega⟩)
      have K2 : Hid (∀ W, Below wr.heap.size wr W → Calls Try.prog 19 #[.slice a2 s.length c2, .agg #[.int .i64 (r : Int), .int .i64 (o : Int)]] W fun e w' => e = .returned (.tuple #[.int .i64 (k : Int), .int .i64 0]) ∧ Below W.heap.size W w') :=
        Lib.hid fun W h => by have := index_any a2 s c2 (r : Int) (o : Int) W hc2 HZ.out (Ar.later h); rw [i1, i2] at this; exact this
      have K3 : Hid (∀ W, Below wr.heap.size wr W → Calls Try.prog 21 #[.slice a2 s.length c2, .agg #[.int .i64 (r : Int), .int .i64 (o : Int)]] W fun e w' => e = .returned (.bool true) ∧ Below W.heap.size W w') :=
        Lib.hid fun W h => by have := inside_any a2 s c2 (r : Int) (o : Int) W HZ.out (Ar.later h); rw [hins] at this; exact this
      clear H1 e1 e2 e3 i1 i2 hins hat he ho
      have hlw : w2.heap.size < wr.heap.size := World.block_lt_of_cell? _ _ l0
      go_wp2_with fail
      refine K1.out.mono ?_
      rintro e w4 ⟨rfl, hb4⟩
      have hs4 := hb4.size
      have hb5 : Below wr.heap.size wr (w4.alloc (.cells #[.int .i64 (r : Int), .int .i64 (o : Int)] 33)) := hb4.alloc hb4.size _
      go_wp2_with fail
      refine (K2.out _ hb5).mono ?_
      rintro e w6 ⟨rfl, hb6⟩
      obtain ⟨p0, p1⟩ := boxed hb6 (by simp)
      have hb66 : Below wr.heap.size wr w6 := hb5.trans (hb6.mono hb5.size)
      have m0 := cell_later hb66 l0
      have m1 := cell_later hb66 l1
      have hs6 := hb66.size
      have hs6b := hb6.size
      have g0 : w6.frozen? ⟨w2.heap.size, 0, none⟩ = false := (hb66.frozen (p := ⟨w2.heap.size, 0, none⟩) hlw).trans f0
      have g1 : w6.frozen? ⟨w2.heap.size, 1, none⟩ = false := (hb66.frozen (p := ⟨w2.heap.size, 1, none⟩) hlw).trans f1
      have hcond : (lr < (r : Int) ∧ ((r : Int) == lr) = false) ∨ (lr = (r : Int) ∧ ((o : Int) != lo + 1) = false ∧ -1 ≤ lo ∧ lo ≤ 100) := by
        rcases hcase.out with h | h
        · exact .inl ⟨h, by rw [beq_eq_false_iff_ne]; omega⟩
        · exact .inr ⟨h.1, by rw [bne_eq_false_iff_eq]; exact h.2, by omega, by omega⟩
      have E7 : Hid (∀ w7, Below w6.heap.size w6 w7 → (w7.cell? ⟨w4.heap.size, 0, none⟩ = some (.int .i64 (r : Int)) ∧ w7.cell? ⟨w4.heap.size, 1, none⟩ = some (.int .i64 (o : Int))) ∧ (w7.cell? ⟨w2.heap.size, 0, none⟩ = some (.int .i64 lr) ∧ w7.cell? ⟨w2.heap.size, 1, none⟩ = some (.int .i64 lo)) ∧
          (w7.frozen? ⟨w2.heap.size, 0, none⟩ = false ∧ w7.frozen? ⟨w2.heap.size, 1, none⟩ = false) ∧ Below w2.heap.size w2 ((w7.setCell ⟨w2.heap.size, 0, none⟩ (.int .i64 (r : Int))).setCell ⟨w2.heap.size, 1, none⟩ (.int .i64 (o : Int)))) := Lib.hid fun w7 hb7 =>
        ⟨⟨cell_later hb7 p0, cell_later hb7 p1⟩, ⟨cell_later hb7 m0, cell_later hb7 m1⟩, ⟨(hb7.frozen (p := ⟨w2.heap.size, 0, none⟩) (by simp; omega)).trans g0, (hb7.frozen (p := ⟨w2.heap.size, 1, none⟩) (by simp; omega)).trans g1⟩,
          (((hw.trans (hb66.mono hw.size)).trans (hb7.mono (by omega))).setCell (Nat.le_refl _) _).setCell (Nat.le_refl _) _⟩
      clear hb4 hb5 hb6 hw l0 l1 f0 f1 Ar hs4 g0 g1
      rcases hcond with ⟨h9, h10⟩ | ⟨h9, h10, h11, h12⟩
      · have q1 : ¬ (r : Int) < lr := by omega
        go_wp2_with (go_at_call 21; (with_reducible refine (K3.out _ hb66).mono ?_); rintro e w7 ⟨rfl, hb7⟩; obtain ⟨⟨x0, x1⟩, ⟨y0, y1⟩, ⟨z0, z1⟩, hBe⟩ := E7.out _ hb7; clear p0 p1 m0 m1)
        go_roundw
        case rel => exact ⟨k + 1, (r : Int), (o : Int), by omega, by go_num, by go_simp, by go_simp, by go_simp, by go_simp, hBe, hnext.out⟩
        case measure => simp [intOf]; omega
      · subst h9
        go_wp2_with (go_at_call 21; (with_reducible refine (K3.out _ hb66).mono ?_); rintro e w7 ⟨rfl, hb7⟩; obtain ⟨⟨x0, x1⟩, ⟨y0, y1⟩, ⟨z0, z1⟩, hBe⟩ := E7.out _ hb7; clear p0 p1 m0 m1)
        go_roundw
        case rel => exact ⟨k + 1, (r : Int), (o : Int), by omega, by go_num, by go_simp, by go_simp, by go_simp, by go_simp, hBe, hnext.out⟩
        case measure => simp [intOf]; omega
    · obtain rfl : k = s.sum := by omega
      have H1 := at_any a2 s c2 ((s.sum : Nat) : Int) wr (by omega) HZ.out Ar
      obtain ⟨e1, e2, e3⟩ := at_none (s := s) (i := ((s.sum : Nat) : Int)) (by rw [atO_nat]; exact (atF_none s 0 s.sum).2 (Nat.le_refl _))
      rw [e1, e2, e3] at H1
      have K1 := Lib.hid H1
      have K2 : Hid (∀ W, Below wr.heap.size wr W → Calls Try.prog 15 #[.slice a2 s.length c2] W fun e w' => e = .returned (.int .i64 ((s.sum : Nat) : Int)) ∧ W = w') :=
        Lib.hid fun W h => rtotal_any a2 s c2 W HZ.out.2.1 (fun x hx => (HZ.out.2.2 x hx).2) (Ar.later h)
      clear e1 e2 e3 H1 l0 l1 f0 f1
      go_wp2_with fail
      refine K1.out.mono ?_
      rintro e w4 ⟨rfl, hb4⟩
      have hb5 : Below wr.heap.size wr (w4.alloc (.cells #[.int .i64 0, .int .i64 0] 33)) := hb4.alloc hb4.size _
      have hB : Below w.heap.size w (w4.alloc (.cells #[.int .i64 0, .int .i64 0] 33)) := B2.trans ((hw.trans (hb5.mono hw.size)).mono B2.size)
      go_wp2_with (first
        | (go_at_call 15; (with_reducible refine (K2.out _ hb5).mono ?_); rintro e w' ⟨rfl, rfl⟩)
        | (go_at_call 8; (with_reducible refine (awake_any _).mono ?_); rintro e w7 ⟨rfl, hb7⟩))
      go_ret
      exact ⟨rfl, hB.trans (hb7.mono hB.size)⟩

theorem walk {H : Type} (enc : TypeId × Value → H) (W : World) (base : Nat) (v0 : Value) (d0 : DataW H) (p0 : List MemPlace) (o0 : Value.okWide Try.prog W .any base 22 v0) (h0 : DataW.Trod enc Try.prog W 0 (fun _ => true) true 22 v0 d0 p0) :
    Calls Try.prog 5 #[v0] W fun e w' => e = .returned (.bool true) ∧ Below W.heap.size W w' := by
  obtain ⟨a, xs, cap, rfl, ha, hx, hl⟩ := open_nums Try.underlying22 Try.underlying3 (by kernel_rfl) o0 h0
  exact core a xs cap W ha (fun x hx2 => int_of (hx x hx2)) (by unfold maxLen at hl; exact hl)
end Go.Proofs.Ytfpekljghcffbaa.regionCountsLaw
