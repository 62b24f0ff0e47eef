/-
  RegionPages: for every list of ints the law returns true.
-/
import Derived.Test.YtfpekljghcffbaaReg4
import Derived.Test.YtfpekljghcffbaaReg6
namespace Go.Proofs.Ytfpekljghcffbaa.regionPagesLaw
open Go.RowKit Go.ChangeShapes Go.WideShapes Go.ChangeAt

/-- The number of the first place of page i. -/
def startF : List Nat → Nat → Nat
  | [], _ => 0
  | n :: t, i => if i < pg n then 8 * i else n + startF t (i - pg n)

theorem start_zero : ∀ s : List Nat, startF s 0 = 0
  | [] => rfl
  | n :: t => by
    simp only [startF]
    by_cases h : 0 < pg n
    · simp [h]
    · have h0 : pg n = 0 := by omega
      have hn : n = 0 := by unfold pg at h0; omega
      simp [hn, start_zero t]

theorem start_all : ∀ s : List Nat, startF s (pagesN s) = s.sum
  | [] => rfl
  | n :: t => by
    have ih := start_all t
    have e : pagesN (n :: t) = pg n + pagesN t := by simp [pagesN]
    simp only [startF, e, List.sum_cons]
    rw [if_neg (by omega), Nat.add_sub_cancel_left, ih]

theorem page_len8 {r n i : Nat} (h : i < pg n) : 1 ≤ (placesOf (r, n, i)).length ∧ (placesOf (r, n, i)).length ≤ 8 := by
  simp only [placesOf, List.length_map, List.length_range]; unfold pg at h; omega

theorem page_facts : ∀ (s : List Nat) (r i : Nat) (x : Nat × Nat × Nat), pageF r s i = some x →
    (1 ≤ (placesOf x).length ∧ (placesOf x).length ≤ 8) ∧ startF s (i + 1) = startF s i + (placesOf x).length ∧ ∀ j, j < (placesOf x).length → atF r s (startF s i + j) = some (x.1, 8 * x.2.2 + j)
  | [], r, i, x, h => by simp [pageF] at h
  | n :: t, r, i, x, h => by
    by_cases hi : i < pg n
    · simp [pageF, hi] at h
      subst h
      have h8 := page_len8 (r := r) hi
      refine ⟨h8, ?_, fun j hj => ?_⟩
      · simp only [startF, if_pos hi]
        simp only [placesOf, List.length_map, List.length_range]
        by_cases h1 : i + 1 < pg n
        · rw [if_pos h1]; unfold pg at h1; omega
        · have e : i + 1 - pg n = 0 := by omega
          rw [if_neg h1, e, start_zero]; unfold pg at h1 hi; omega
      · simp only [startF, if_pos hi, atF]
        have hjn : 8 * i + j < n := by
          simp only [placesOf, List.length_map, List.length_range] at hj; omega
        rw [if_pos hjn]
    · simp only [pageF, if_neg hi] at h
      obtain ⟨h1, h2, h3⟩ := page_facts t (r + 1) (i - pg n) x h
      refine ⟨h1, ?_, fun j hj => ?_⟩
      · simp only [startF, if_neg hi, if_neg (show ¬ i + 1 < pg n by omega)]
        rw [show i + 1 - pg n = i - pg n + 1 by omega, h2]; omega
      · simp only [startF, if_neg hi, atF]
        rw [if_neg (by omega), show n + startF t (i - pg n) + j - n = startF t (i - pg n) + j by omega]
        exact h3 j hj

theorem start_le (s : List Nat) (hs : Sz s) : ∀ i, i ≤ pagesN s → startF s i ≤ 300 := by
  intro i
  induction i with
  | zero => intro _; rw [start_zero]; omega
  | succ i ih =>
    intro hi
    have h1 := ih (by omega)
    cases h2 : pageF 0 s i with
    | none => have := (pageF_none s 0 i).1 h2; omega
    | some x =>
      obtain ⟨h3, h4, h5⟩ := page_facts s 0 i x h2
      have h6 := h5 ((placesOf x).length - 1) (by omega)
      have h7 : ¬ s.sum ≤ startF s i + ((placesOf x).length - 1) := fun h => by rw [(atF_none s 0 _).2 h] at h6; cases h6
      have := hs.sum_le
      omega

theorem places_at (x : Nat × Nat × Nat) (j : Nat) (h : j < (placesOf x).length) : (placesOf x)[j] = (x.1, 8 * x.2.2 + j) := by
  simp [placesOf]

set_option maxHeartbeats 2000000 in
theorem core (a : Option Addr) (xs : List Int) (cap : Nat) (w : World) (ha : IntsAt .i64 w a xs) (hx : ∀ x ∈ xs, -9223372036854775808 ≤ x ∧ x ≤ 9223372036854775807) (hl : xs.length ≤ 9223372036854775807) :
    Calls Try.prog 6 #[.slice a xs.length cap] w fun e w' => e = .returned (.bool true) ∧ Below w.heap.size w w' := by
  have hNew := Lib.hid (new_any a xs cap w ha hx hl)
  clear ha hx hl
  go_enter Try.func6, Try.ntmps6
  go_wp2_with fail
  refine hNew.out.mono ?_
  rintro e w1 ⟨rfl, hd1, hb1⟩
  have hS := Lib.hid (sizes_any _ w1 hd1)
  go_wp2_with fail
  refine hS.out.mono ?_
  rintro e w2 ⟨a2, c2, s, rfl, hn2, hc2, hz, hd2, hg2⟩
  have B2 : Below w.heap.size w w2 := hb1.grown hg2 hb1.size (fun k hk => by cases hk; exact Nat.le_refl _)
  have A2 := hn2.at
  have hT := Lib.hid (pages_any a2 s c2 w2 hz A2)
  have hsum := hz.sum_le
  have hpl := hz.pages_le
  have HZ := Lib.hid hz
  clear hn2 hd1 hb1 hg2 hd2 hNew hS hz
  go_wp2_with (go_at_call 16; (with_reducible refine hT.out.mono ?_); rintro e w' ⟨rfl, rfl⟩)
  go_loopw [4, 17] (fun t c wr => ∃ i : Nat, i ≤ pagesN s ∧ c = .int .i64 i ∧ t = .int .i64 ((startF s i : Nat) : Int) ∧ Below w2.heap.size w2 wr) (fun _ c _ => pagesN s - (intOf c).toNat)
  case atStart => exact ⟨0, by omega, rfl, by rw [start_zero]; rfl, Below.refl _ _⟩
  case round =>
    obtain ⟨i, hi, rfl, rfl, hw⟩ := hrel
    have Ar := A2.later hw
    have hst := start_le s HZ.out i hi
    by_cases hlt : i < pagesN s
    · obtain ⟨x, hp⟩ : ∃ x, pageF 0 s i = some x := by
        cases h : pageF 0 s i with
        | none => have := (pageF_none s 0 i).1 h; omega
        | some x => exact ⟨x, rfl⟩
      obtain ⟨⟨h1, h8⟩, hnext, hat⟩ := page_facts s 0 i x hp
      obtain ⟨e1, e2⟩ := page_some (s := s) (i := (i : Int)) (by rw [pageO_nat]; exact hp)
      have H1 := page_any a2 s c2 (i : Int) wr (by omega) HZ.out Ar
      unfold GivesPage at H1
      rw [e1, e2] at H1
      have K1 := Lib.hid H1
      have HN := Lib.hid hnext
      have HA : Hid (∀ j, j < (placesOf x).length → atO s ((startF s i + j : Nat) : Int) = some (x.1, 8 * x.2.2 + j)) := Lib.hid (fun j hj => by rw [atO_nat]; exact hat j hj)
      have HP := Lib.hid (places_at x)
      clear e1 e2 H1 hnext hat hp
      generalize placesOf x = ps at *
      obtain ⟨r, n, q⟩ := x
      simp only at HA HP
      go_wp2_with fail
      refine K1.out.mono ?_
      rintro e w4 ⟨a4, c4, rfl, hp4, hb4⟩
      have Hp4 := Lib.hid hp4
      have g1 : ¬ ((ps.length : Nat) : Int) < 1 := by omega
      have g2 : ¬ 8 < ((ps.length : Nat) : Int) := by omega
      have HB := Lib.hid (hw.trans (hb4.mono hw.size))
      have A4 := Ar.later hb4
      clear hp4 Ar hw hb4 K1
      go_wp2_with fail
      go_loopw [4, 40] (fun t c wr => ∃ j : Nat, j ≤ ps.length ∧ c = .int .i64 j ∧ t = .int .i64 ((startF s i + j : Nat) : Int) ∧ Below w4.heap.size w4 wr) (fun _ c _ => ps.length - (intOf c).toNat)
      case atStart => exact ⟨0, by omega, rfl, rfl, Below.refl _ _⟩
      case round =>
        obtain ⟨j, hj, rfl, rfl, hw⟩ := hrel
        by_cases hlt2 : j < ps.length
        · obtain ⟨b, off, rfl, hc⟩ := Hp4.out.some hlt2
          have p0 := hc 0 (by omega)
          have pj := hc j hlt2
          rw [HP.out 0 (by omega)] at p0
          rw [HP.out j hlt2] at pj
          have z0 := cell_later hw p0.1
          have d0 := cell_later hw pj.1
          have d1 := cell_later hw pj.2
          rw [Nat.zero_mul, Nat.add_zero] at z0
          clear hc p0 pj
          obtain ⟨e1, e2, e3⟩ := at_some (HA.out j hlt2)
          have hbx : Below wr.heap.size wr (wr.alloc (.cells #[.int .i64 (r : Int), .int .i64 ((8 * q + j : Nat) : Int)] 33)) := Below.alloc (Below.refl _ _) (Nat.le_refl _) _
          have H2 := rat_any a2 s c2 ((startF s i + j : Nat) : Int) _ (by omega) (by omega) HZ.out ((A4.later hw).later hbx)
          rw [e1, e2, e3] at H2
          have K2 := Lib.hid H2
          clear H2 e1 e2 e3
          have j1 : (j : Int) < ((ps.length : Nat) : Int) := by omega
          have j2 : startF s i + j ≤ 310 := by omega
          generalize ((8 * q + j : Nat) : Int) = o at *
          generalize hm : startF s i + j = m at *
          have Hm := Lib.hid hm
          clear hm
          go_wp2_with fail
          refine K2.out.mono ?_
          rintro e w6 ⟨rfl, hb6⟩
          obtain ⟨x0, x1⟩ := boxed hb6 (by simp)
          have hb7 : Below w6.heap.size w6 (w6.alloc (.cells #[.int .i64 (r : Int), .int .i64 o] 33)) := Below.alloc (Below.refl _ _) (Nat.le_refl _) _
          obtain ⟨y0, y1⟩ := boxed (B := w6.heap.size + 1) (Below.refl _ (w6.alloc (.cells #[.int .i64 (r : Int), .int .i64 o] 33))) (by omega)
          have x0 := cell_later hb7 x0
          have x1 := cell_later hb7 x1
          have z0 := cell_later hb7 (cell_later hb6 (cell_later hbx z0))
          have hBe := hw.trans (((hbx.trans (hb6.mono hbx.size)).trans (hb7.mono (by have := hbx.size; have := hb6.size; omega))).mono hw.size)
          have HBe := Lib.hid hBe
          clear hb6 hbx d0 d1 hBe K2 hb7
          have l0 : 0 < ps.length := by omega
          have l1 : (0 : Int) < ((ps.length : Nat) : Int) := by omega
          go_wp2_with fail
          go_quiet (fail)
          go_wp2
          go_roundw
          case rel => exact ⟨j + 1, by omega, by go_num, by rw [← Nat.add_assoc, Hm.out]; go_num, below_drewN HBe.out _⟩
          case measure => simp [intOf]; omega
        · obtain rfl : j = ps.length := by omega
          have hE := Lib.hid (HB.out.trans (hw.mono HB.out.size))
          go_wp2
          go_roundw
          case rel => exact ⟨i + 1, by omega, by go_num, by rw [HN.out], hE.out⟩
          case measure => simp [intOf]; omega
    · obtain rfl : i = pagesN s := by omega
      have T1 := Lib.hid (rtotal_any a2 s c2 wr HZ.out.2.1 (fun x hx => (HZ.out.2.2 x hx).2) Ar)
      have hE := B2.trans (hw.mono B2.size)
      have hs2 := start_all s
      rw [hs2] at *
      go_wp2_with (first
        | (go_at_call 15; (with_reducible refine T1.out.mono ?_); rintro e w8 ⟨rfl, rfl⟩)
        | (go_at_call 8; (with_reducible refine (awake_any _).mono ?_); rintro e w9 ⟨rfl, hb9⟩))
      go_ret
      exact ⟨rfl, hE.trans (hb9.mono hE.size)⟩

theorem walk {H : Type} (enc : TypeId × Value → H) (W : World) (base : Nat) (v0 : Value) (d0 : DataW H) (p0 : List MemPlace) (o0 : Value.okWide Try.prog W .any base 22 v0) (h0 : DataW.Trod enc Try.prog W 0 (fun _ => true) true 22 v0 d0 p0) :
    Calls Try.prog 6 #[v0] W fun e w' => e = .returned (.bool true) ∧ Below W.heap.size W w' := by
  obtain ⟨a, xs, cap, rfl, ha, hx, hl⟩ := open_nums Try.underlying22 Try.underlying3 (by kernel_rfl) o0 h0
  exact core a xs cap W ha (fun x hx2 => int_of (hx x hx2)) (by unfold maxLen at hl; exact hl)
end Go.Proofs.Ytfpekljghcffbaa.regionPagesLaw
