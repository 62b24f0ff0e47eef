/-
  RegionInside: for every list of ints, every place and every int the law returns true.
-/
import Derived.Test.YtfpekljghcffbaaReg4
import Derived.Test.YtfpekljghcffbaaReg6
import Derived.Deep.RegionWith
import Derived.Deep.DeepCutAuto
import Derived.Lib.SmallJoins
namespace Go.Proofs.Ytfpekljghcffbaa.regionInsideLaw
open Go.RowKit Go.ChangeShapes Go.WideShapes Go.ChangeAt Go.Joins

set_option maxHeartbeats 2000000 in
theorem core (a : Option Addr) (xs : List Int) (cap : Nat) (pr po i : Int) (w : World) (ha : IntsAt .i64 w a xs) (hx : ∀ x ∈ xs, -9223372036854775808 ≤ x ∧ x ≤ 9223372036854775807) (hl : xs.length ≤ 9223372036854775807) (hi2 : i ≤ 9223372036854775807) :
    Calls Try.prog 7 #[.slice a xs.length cap, .agg #[.int .i64 pr, .int .i64 po], .int .i64 i] w fun e w' => e = .returned (.bool true) ∧ Below w.heap.size w w' := by
  have hB0 : Below w.heap.size w (w.alloc (.cells #[.int .i64 pr, .int .i64 po] 33)) := Below.alloc (Below.refl _ _) (Nat.le_refl _) _
  have ha0 : IntsAt .i64 (w.alloc (.cells #[.int .i64 pr, .int .i64 po] 33)) a xs := by
    rcases ha with h | ⟨b, off, h1, h2⟩
    · exact .inl h
    · exact .inr ⟨b, off, h1, fun j hj => cell_later hB0 (h2 j hj)⟩
  have hNew := Lib.hid (new_any a xs cap _ ha0 hx hl)
  obtain ⟨p0, p1⟩ := boxed (B := w.heap.size + 1) (Below.refl _ (w.alloc (.cells #[.int .i64 pr, .int .i64 po] 33))) (by omega)
  have hsz : (w.alloc (.cells #[.int .i64 pr, .int .i64 po] 33)).heap.size = w.heap.size + 1 := by simp
  clear ha hx hl ha0
  go_enter Try.func7, Try.ntmps7
  go_wp2_with fail
  refine hNew.out.mono ?_
  rw [hsz]
  rintro e w1 ⟨rfl, hd1, hb1⟩
  have p0 := (hb1.cell (p := ⟨w.heap.size, 0, none⟩) (by simp)).trans p0
  have p1 := (hb1.cell (p := ⟨w.heap.size, 1, none⟩) (by simp)).trans p1
  have hB1 : Below w.heap.size w w1 := hB0.trans (hb1.mono (by omega))
  have hS := Lib.hid (sizes_any _ w1 hd1)
  go_wp2_with fail
  refine hS.out.mono ?_
  rintro e w2 ⟨a2, c2, s, rfl, hn2, hc2, hz, hd2, hg2⟩
  have p0 := hg2.cell p0 (by simp)
  have p1 := hg2.cell p1 (by simp)
  have hB2 : Below w.heap.size w w2 := hB1.grown hg2 hB1.size (fun k hk => by cases hk; omega)
  have hD1 := hd1.lt
  have hn2 := hn2.mono (B' := w.heap.size + 1 + 1) (by omega)
  clear hd1 hB1 hb1 hg2 hB0 hNew hS
  have hsum := hz.sum_le
  have HZ := Lib.hid hz
  have hP := Lib.hid (fun W (h : Deck W (w.heap.size + 1)) (h2 : NatsFrom (w.heap.size + 1 + 1) .i64 W a2 s) => place_any (w.heap.size + 1) a2 s c2 W h hz h2)
  clear hz
  have hd2d : Deck w2.drew (w.heap.size + 1) := hd2.kept (grownBy_drewN _ none 1) (fun k hk => by cases hk)
  have hn2d : NatsFrom (w.heap.size + 1 + 1) .i64 w2.drew a2 s := hn2.kept (grownBy_drewN _ none 1) (fun k hk => by cases hk)
  have hB2d : Below w.heap.size w w2.drew := hB2.drew
  have p0d : w2.drew.cell? ⟨w.heap.size, 0, none⟩ = some (.int .i64 pr) := p0
  have p1d : w2.drew.cell? ⟨w.heap.size, 1, none⟩ = some (.int .i64 po) := p1
  have hr0 : ∀ d, some (w.heap.size + 1) = some d → d < w.heap.size + 1 + 1 := fun d hd => by cases hd; omega
  go_upto_region 3 with fail
  go_cut [26, 27, 28] (fun v l c wx => ∃ Q, v = .slice (some ⟨Q, 0, none⟩) 3 3 ∧ l = .int .i64 3 ∧ c = .int .i64 0 ∧ Three wx Q ∧ NatsAt .i64 wx a2 s ∧ Below w.heap.size w wx)
  case first =>
    go_region_with (first
      | (go_at_call 18; (with_reducible refine (hP.out _ hd2d hn2d).mono ?_); rintro e w3 ⟨r1, o1, rfl, hd3, hg3⟩; have p03 := hg3.cell p0d (by simp); have p13 := hg3.cell p1d (by simp); have hn3 := hn2d.kept hg3 hr0; have hB3 := hB2d.grown hg3 hB2d.size (fun k hk => by cases hk; omega))
      | (go_at_call 18; (with_reducible refine (hP.out _ hd3 hn3).mono ?_); rintro e w4 ⟨r2, o2, rfl, hd4, hg4⟩; have p04 := hg4.cell p03 (by simp); have p14 := hg4.cell p13 (by simp); have hn4 := hn3.kept hg4 hr0; have hB4 := hB3.grown hg4 hB3.size (fun k hk => by cases hk; omega)))
    all_goals
      have hn5 := hn4.at.later (Below.alloc (Below.refl w4.heap.size w4) (Nat.le_refl _) (.cells #[.int .i64 pr, .int .i64 po, .int .i64 r1, .int .i64 o1, .int .i64 r2, .int .i64 o2] 33))
      have hB5 := hB4.alloc hB4.size (.cells #[.int .i64 pr, .int .i64 po, .int .i64 r1, .int .i64 o1, .int .i64 r2, .int .i64 o2] 33)
      have HF := Lib.hid (And.intro (three_new w4 pr po r1 o1 r2 o2 33) (And.intro hn5 hB5))
      clear hn5 hB5 hn4 hB4 hB3 hn3 hB2d hn2d p0d p1d p03 p13 p04 p14 hg3 hg4 hd3 hd4
      go_wp2_with fail
      go_meet
      exact ⟨_, rfl, rfl, rfl, HF.out.1, HF.out.2.1, HF.out.2.2⟩
  case rest =>
    obtain ⟨Q, rfl, rfl, rfl, h3, hn5, hB5⟩ := hcut
    clear hd2d hn2d hB2d p0d p1d hd2 hn2 hB2 p0 p1
    have H3 := Lib.hid h3
    clear h3
    go_wp2_with fail
    go_loopw [28] (fun c wr => ∃ k : Nat, k ≤ 3 ∧ c = .int .i64 k ∧ Below wc.heap.size wc wr) (fun c _ => 3 - (intOf c).toNat)
    case atStart => exact ⟨0, by omega, rfl, Below.refl _ _⟩
    case round =>
      obtain ⟨k, hk, rfl, hw⟩ := hrel
      have Ar := hn5.later hw
      by_cases hlt : k < 3
      · obtain ⟨r, o, q0, q1⟩ := H3.out k hlt
        have q0 := cell_later hw q0
        have q1 := cell_later hw q1
        have i1 : (k : Int) < 3 := by omega
        have hb5 : Below wr.heap.size wr (wr.alloc (.cells #[.int .i64 r, .int .i64 o] 33)) := Below.alloc (Below.refl _ _) (Nat.le_refl _) _
        have K2 := Lib.hid (index_any a2 s c2 r o _ hc2 HZ.out (Ar.later hb5))
        have K3 := Lib.hid (fun W (h : Below wr.heap.size wr W) => inside_any a2 s c2 r o W HZ.out (Ar.later h))
        have K4 := Lib.hid (fun W (h : Below wr.heap.size wr W) => total_any a2 s c2 W HZ.out (Ar.later h))
        have hbd := Lib.hid (fun h : insB s r o = true => idx_bound h)
        have hez := idxE_zero s r o
        have hin := Lib.hid (fun h : insB s r o = false => (idx_out h).1)
        generalize idx s r o = x at *
        generalize idxE s r o = y at *
        generalize insB s r o = z at *
        go_wp2_with fail
        refine K2.out.mono ?_
        rintro e w6 ⟨rfl, hb6⟩
        obtain ⟨m0, m1⟩ := boxed hb6 (by simp)
        have hb66 : Below wr.heap.size wr w6 := hb5.trans (hb6.mono hb5.size)
        rcases hez with ⟨rfl, rfl⟩ | ⟨rfl, rfl⟩
        · obtain ⟨x0, x1⟩ := hbd.out rfl
          have E7 : Hid (∀ w7, Below w6.heap.size w6 w7 → Below wr.heap.size wr w7) := Lib.hid fun w7 hb7 => hb66.trans (hb7.mono hb66.size)
          go_wp2_with (first
            | (go_at_call 21; (with_reducible refine (K3.out _ hb66).mono ?_); rintro e w7 ⟨rfl, hb7⟩; have hb77 := E7.out _ hb7)
            | (go_at_call 14; (with_reducible refine (K4.out _ hb77).mono ?_); rintro e w8 ⟨rfl, rfl⟩))
          go_roundw
          case rel => exact ⟨k + 1, by omega, by go_num, hw.trans (hb77.mono hw.size)⟩
          case measure => simp [intOf]; omega
        · obtain rfl := hin.out rfl
          have E7 : Hid (∀ w7, Below w6.heap.size w6 w7 → Below wr.heap.size wr w7) := Lib.hid fun w7 hb7 => hb66.trans (hb7.mono hb66.size)
          go_wp2_with (first
            | (go_at_call 21; (with_reducible refine (K3.out _ hb66).mono ?_); rintro e w7 ⟨rfl, hb7⟩; have hb77 := E7.out _ hb7))
          go_roundw
          case rel => exact ⟨k + 1, by omega, by go_num, hw.trans (hb77.mono hw.size)⟩
          case measure => simp [intOf]; omega
      · obtain rfl : k = 3 := by omega
        have K1 := Lib.hid (at_any a2 s c2 i wr hi2 HZ.out Ar)
        have K4 := Lib.hid (fun W (h : Below wr.heap.size wr W) => total_any a2 s c2 W HZ.out (Ar.later h))
        have hez := atE_zero s i
        generalize atR s i = r at *
        generalize atOf s i = o at *
        generalize atE s i = y at *
        generalize s.sum = T at *
        go_wp2_with fail
        refine K1.out.mono ?_
        rintro e w6 ⟨rfl, hb6⟩
        have hb7 : Below wr.heap.size wr (w6.alloc (.cells #[.int .i64 r, .int .i64 o] 33)) := hb6.alloc hb6.size _
        have hB7 := hB5.trans ((hw.trans (hb7.mono hw.size)).mono hB5.size)
        have hcase : (y = 0 ∧ 0 ≤ i ∧ i < (T : Int)) ∨ (y = 6 ∧ i < 0) ∨ (y = 6 ∧ 0 ≤ i ∧ decide (i < (T : Int)) = false) := by
          rw [decide_eq_false_iff_not]; omega
        clear hez
        rcases hcase with ⟨rfl, g1, g2⟩ | ⟨rfl, g1⟩ | ⟨rfl, g1, g2⟩
        all_goals
          go_wp2_with (first
            | (go_at_call 14; (with_reducible refine (K4.out _ hb7).mono ?_); rintro e w8 ⟨rfl, rfl⟩)
            | (go_at_call 8; (with_reducible refine (awake_any _).mono ?_); rintro e w9 ⟨rfl, hb9⟩))
          go_ret
          exact ⟨rfl, hB7.trans (hb9.mono hB7.size)⟩

theorem walk {H : Type} (enc : TypeId × Value → H) (W : World) (base : Nat) (v0 : Value) (d0 : DataW H) (p0 : List MemPlace) (o0 : Value.okWide Try.prog W .any base 22 v0) (h0 : DataW.Trod enc Try.prog W 0 (fun _ => true) true 22 v0 d0 p0)
    (v1 : Value) (d1 : DataW H) (p1 : List MemPlace) (o1 : Value.okWide Try.prog W .any base 33 v1) (h1 : DataW.Trod enc Try.prog W 0 (fun _ => true) true 33 v1 d1 p1)
    (v2 : Value) (d2 : DataW H) (p2 : List MemPlace) (o2 : Value.okWide Try.prog W .any base 3 v2) (h2 : DataW.Trod enc Try.prog W 0 (fun _ => true) true 3 v2 d2 p2) :
    Calls Try.prog 7 #[v0, v1, v2] W fun e w' => e = .returned (.bool true) ∧ Below W.heap.size W w' := by
  obtain ⟨a, xs, cap, rfl, ha, hx, hl⟩ := open_nums Try.underlying22 Try.underlying3 (by kernel_rfl) o0 h0
  obtain ⟨c0, c1, y0, y1, m, rfl, rfl, rfl, hy0, hy1⟩ := open_agg2 Try.underlying33 (by kernel_rfl) (by kernel_rfl) o1 h1
  obtain ⟨b0, e0, _, _⟩ := DataW.trod_int Try.underlying3 hy0
  obtain ⟨b1, e1, _, _⟩ := DataW.trod_int Try.underlying3 hy1
  simp at e0 e1
  subst e0 e1
  obtain ⟨i, rfl, rfl, rfl, w2⟩ := open_int Try.underlying3 o2 h2
  exact core a xs cap b0 b1 i W ha (fun x hx2 => int_of (hx x hx2)) (by unfold maxLen at hl; exact hl) (int_of w2).2
end Go.Proofs.Ytfpekljghcffbaa.regionInsideLaw
