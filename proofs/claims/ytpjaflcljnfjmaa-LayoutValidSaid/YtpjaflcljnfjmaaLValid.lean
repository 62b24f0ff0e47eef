/-
  LayoutValid: for every list of ints and every seed the law returns true.
-/
import Derived.Test.YtpjaflcljnfjmaaReg4
import Derived.Test.YtpjaflcljnfjmaaLayMk
import Derived.Test.YtpjaflcljnfjmaaLayAwake
import Derived.Deep.DeepCutAuto
import Derived.Lib.SmallJoins
namespace Go.Proofs.Ytpjaflcljnfjmaa.layoutValidLaw
open Go.RowKit Go.ChangeShapes Go.WideShapes Go.ChangeAt Go.Joins

set_option maxHeartbeats 2000000 in
theorem core (a : Option Addr) (xs : List Int) (cap : Nat) (i : Int) (w : World) (ha : IntsAt .i64 w a xs) (hx : ∀ x ∈ xs, -9223372036854775808 ≤ x ∧ x ≤ 9223372036854775807) (hl : xs.length ≤ 9223372036854775807) (hi1 : -9223372036854775808 ≤ i) (hi2 : i ≤ 9223372036854775807) :
    Calls Try.prog 4 #[.slice a xs.length cap, .int .i64 i] w fun e w' => e = .returned (.bool true) ∧ Below w.heap.size w w' := by
  have hNew := Lib.hid (make_New a xs cap _ ha hx hl)
  clear ha hx hl
  go_enter Try.func4, Try.ntmps4
  go_wp2_with fail
  refine hNew.out.mono ?_
  rintro e w1 ⟨rfl, hd1, hb1⟩
  have hS := Lib.hid (deck_Sizes _ w1 hd1)
  go_wp2_with fail
  refine hS.out.mono ?_
  rintro e w2 ⟨a2, c2, s, rfl, hn2, hc2, hz, hd2, hg2⟩
  have hB2 : Below w.heap.size w w2 := hb1.grown hg2 hb1.size (fun k hk => by cases hk; omega)
  clear hd1 hb1 hg2 hNew hS hd2
  have hM := Lib.hid (make_Mod i 1073741824 w2 (by omega) (by omega) hi1 hi2)
  have hq0 : 0 ≤ i % 1073741824 := Int.emod_nonneg _ (by omega)
  have hq1 : i % 1073741824 < 1073741824 := Int.emod_lt_of_pos _ (by omega)
  obtain ⟨q, hq⟩ : ∃ q : Nat, i % 1073741824 = (q : Int) := ⟨(i % 1073741824).toNat, by omega⟩
  have hK := Lib.hid (layout_Make_valid a2 s c2 q w2 hz (by omega) hn2.at)
  rw [hq] at hM
  clear hq hq0 hq1
  go_wp2_with fail
  refine hM.out.mono ?_
  rintro e w' ⟨rfl, rfl⟩
  go_wp2_with fail
  refine hK.out.mono ?_
  rintro e w3 ⟨b, cb, bs, key, rfl, hv, _, hbs, _, hb3⟩
  clear hK hM
  have hB3 := hB2.trans (hb3.mono hB2.size)
  have hB4 := hB3.alloc hB3.size (.cells #[.slice b bs.length cb, .int .u16 (key : Int)] 25)
  have hn4 := (hn2.at.later hb3).later (Below.alloc (Below.refl w3.heap.size w3) (Nat.le_refl _) (.cells #[.slice b bs.length cb, .int .u16 (key : Int)] 25))
  have hbs4 := hbs.at.later (Below.alloc (Below.refl w3.heap.size w3) (Nat.le_refl _) (.cells #[.slice b bs.length cb, .int .u16 (key : Int)] 25))
  have x0 : (w3.alloc (.cells #[.slice b bs.length cb, .int .u16 (key : Int)] 25)).cell? ⟨w3.heap.size, 0, none⟩ = some (.slice b bs.length cb) := by rw [World.cell?_alloc_at _ _ _ _ rfl]; rfl
  have x1 : (w3.alloc (.cells #[.slice b bs.length cb, .int .u16 (key : Int)] 25)).cell? ⟨w3.heap.size, 1, none⟩ = some (.int .u16 (key : Int)) := by rw [World.cell?_alloc_at _ _ _ _ rfl]; rfl
  clear hbs hn2 hb3 hB2 hB3
  go_upto_region 3 with fail
  generalize hW : w3.alloc (.cells #[.slice b bs.length cb, .int .u16 (key : Int)] 25) = W at *
  clear hW
  generalize w3.heap.size = L at *
  have hVal := Lib.hid (layout_Valid_true b bs cb (key : Int) a2 s c2 W hz hv hbs4 hn4)
  have hR := Lib.hid (fun (x : Int) V (h : Below W.heap.size W V) => layout_Resolve b bs cb (key : Int) a2 s c2 x V hz hv (hbs4.later h) (hn4.later h))
  have hA := Lib.hid (fun (r o : Int) V (h : Below W.heap.size W V) => layout_Address b bs cb (key : Int) a2 s c2 r o V hz hv (hbs4.later h) (hn4.later h))
  have hT := Lib.hid (fun V (h : Below W.heap.size W V) => ref02_Total a2 s c2 V hz.2.1 (fun x hx => (hz.2.2 x hx).2) (hn4.later h))
  have HZ := Lib.hid hz
  have HV := Lib.hid hv
  have hLs : L < W.heap.size := World.block_lt_of_cell? _ _ x0
  clear hbs4 hn4 hz hv
  go_wp2_with fail
  refine hVal.out.mono ?_
  rintro e w5 ⟨rfl, hb5⟩
  go_wp2
  go_loopw [4, 8, 9, 10, 11, 12, 13, 14, 15] (fun _ n c _ _ _ _ _ _ wr => ∃ k : Nat, k ≤ 514 ∧ c = .int .i64 ((k : Int) - 1) ∧ n = .int .i64 ((cntTo bs s (k - 1) : Nat) : Int) ∧ Below W.heap.size W wr) (fun _ _ c _ _ _ _ _ _ _ => (513 - intOf c).toNat)
  case atStart => exact ⟨0, by omega, by go_num, by go_num, hb5⟩
  case round =>
    clear hb5 hVal
    obtain ⟨k, hk, rfl, rfl, hw⟩ := hrel
    have y0 := cell_later hw x0
    have y1 := cell_later hw x1
    have hcl := cntTo_le bs s (k - 1)
    by_cases hlt : k < 514
    · have i1 : (k : Int) - 1 ≤ 512 := by omega
      cases hr : resO bs s ((k : Int) - 1) with
      | none =>
        obtain ⟨e1, e2, e3⟩ := res_none hr
        have hQ := hR.out ((k : Int) - 1) wr hw
        rw [e1, e2, e3] at hQ
        have HQ := Lib.hid hQ
        have HN : Hid (cntTo bs s (k + 1 - 1) = cntTo bs s (k - 1)) := Lib.hid (by
          cases k with
          | zero => rfl
          | succ m =>
            show cntTo bs s m + (if resB bs s (m : Int) then 1 else 0) = cntTo bs s m
            rw [show (((m + 1 : Nat) : Int) - 1) = (m : Int) by omega] at e3
            rw [e3]; rfl)
        clear hQ e1 e2 e3 hr
        go_wp2_with fail
        refine HQ.out.mono ?_
        rintro e w6 ⟨rfl, hb6⟩
        have hw6 := (hw.trans (hb6.mono hw.size)).alloc (hw.trans (hb6.mono hw.size)).size (.cells #[.int .i64 0, .int .i64 0] 39)
        have R1 := Lib.hid hw6
        clear hw6 hb6
        go_wp2
        go_roundw
        case rel => exact ⟨k + 1, by omega, by go_num, by rw [HN.out], R1.out⟩
        case measure => simp [intOf]; omega
      | some p =>
        obtain ⟨r, o⟩ := p
        obtain ⟨e1, e2, e3⟩ := res_some hr
        obtain ⟨hh, ho⟩ := res_holds HV.out.1 hr
        have hins : insB s (r : Int) (o : Int) = true := holds_ins (bs := bs) HV.out.1 (by rw [ho]; exact hh)
        obtain ⟨f1, f2⟩ := adr_in (bs := bs) hins
        rw [Int.toNat_natCast, ho] at f1
        have hQ := hR.out ((k : Int) - 1) wr hw
        rw [e1, e2, e3] at hQ
        have HQ := Lib.hid hQ
        have HN : Hid (cntTo bs s (k + 1 - 1) = cntTo bs s (k - 1) + 1) := Lib.hid (by
          cases k with
          | zero => have := (holds_range HV.out hh).1; omega
          | succ m =>
            show cntTo bs s m + (if resB bs s (m : Int) then 1 else 0) = cntTo bs s m + 1
            rw [show (((m + 1 : Nat) : Int) - 1) = (m : Int) by omega] at e3
            rw [e3]; rfl)
        have HAd : Hid (∀ V, Below W.heap.size W V → Calls Try.prog 16 #[.agg #[.slice b bs.length cb, .int .u16 (key : Int)], .slice a2 s.length c2, .agg #[.int .i64 (r : Int), .int .i64 (o : Int)]] V fun e w' => e = .returned (.tuple #[.int .i64 ((k : Int) - 1), .int .i64 0]) ∧ Below V.heap.size V w') := Lib.hid (fun V h => by
          have := hA.out (r : Int) (o : Int) V h
          rw [f1, f2] at this
          exact this)
        have HNX : Hid (∀ r2 o2, resO bs s (k : Int) = some (r2, o2) → r2 = r) := Lib.hid (fun r2 o2 h2 => (holds_next HV.out hh (by rw [show (k : Int) - 1 + 1 = (k : Int) by omega]; exact (res_holds HV.out.1 h2).1)).symm)
        clear hQ e1 e2 e3 hr hins f1 f2 ho hh
        go_wp2_with fail
        refine HQ.out.mono ?_
        rintro e w6 ⟨rfl, hb6⟩
        have hw6 := (hw.trans (hb6.mono hw.size)).alloc (hw.trans (hb6.mono hw.size)).size (.cells #[.int .i64 (r : Int), .int .i64 (o : Int)] 39)
        have z0 := cell_later hw6 x0
        have z1 := cell_later hw6 x1
        have u0 : (w6.alloc (.cells #[.int .i64 (r : Int), .int .i64 (o : Int)] 39)).cell? ⟨w6.heap.size, 0, none⟩ = some (.int .i64 (r : Int)) := by rw [World.cell?_alloc_at _ _ _ _ rfl]; rfl
        have u1 : (w6.alloc (.cells #[.int .i64 (r : Int), .int .i64 (o : Int)] 39)).cell? ⟨w6.heap.size, 1, none⟩ = some (.int .i64 (o : Int)) := by rw [World.cell?_alloc_at _ _ _ _ rfl]; rfl
        clear hb6 y0 y1 hw
        go_upto_region 12 with fail
        generalize hW6 : w6.alloc (.cells #[.int .i64 (r : Int), .int .i64 (o : Int)] 39) = W6 at *
        clear hW6
        generalize w6.heap.size = P at *
        have hP : P < W6.heap.size := World.block_lt_of_cell? _ _ u0
        go_wp2_with fail
        refine (HAd.out _ hw6).mono ?_
        rintro e w7 ⟨rfl, hb7⟩
        have hw7 := hw6.trans (hb7.mono hw6.size)
        have z0 := cell_later hb7 z0
        have z1 := cell_later hb7 z1
        have u0 := cell_later hb7 u0
        have hR2 := hR.out (k : Int) w7 hw7
        clear hb7 hw6
        cases hr2 : resO bs s (k : Int) with
        | none =>
          obtain ⟨e1, e2, e3⟩ := res_none hr2
          rw [e1, e2, e3] at hR2
          have HQ2 := Lib.hid hR2
          clear e1 e2 e3 hr2 hR2
          go_wp2_with fail
          with_reducible refine HQ2.out.mono ?_
          rintro e w8 ⟨rfl, hb8⟩
          have hw8 := (hw7.trans (hb8.mono hw7.size)).alloc (hw7.trans (hb8.mono hw7.size)).size (.cells #[.int .i64 0, .int .i64 0] 39)
          have R1 := Lib.hid hw8
          clear hw8 hb8 hw7
          go_wp2
          go_roundw
          case rel => exact ⟨k + 1, by omega, by go_num, by rw [HN.out]; go_num, R1.out⟩
          case measure => simp [intOf]; omega
        | some p2 =>
          obtain ⟨r2, o2⟩ := p2
          obtain rfl := HNX.out r2 o2 hr2
          obtain ⟨e1, e2, e3⟩ := res_some hr2
          rw [e1, e2, e3] at hR2
          have HQ2 := Lib.hid hR2
          clear e1 e2 e3 hr2 hR2
          go_wp2_with fail
          with_reducible refine HQ2.out.mono ?_
          rintro e w8 ⟨rfl, hb8⟩
          have hw8 := (hw7.trans (hb8.mono hw7.size)).alloc (hw7.trans (hb8.mono hw7.size)).size (.cells #[.int .i64 (r2 : Int), .int .i64 (o2 : Int)] 39)
          have u0 := cell_later (hb8.alloc hb8.size (.cells #[.int .i64 (r2 : Int), .int .i64 (o2 : Int)] 39)) u0
          have hne : ((r2 : Int) != (r2 : Int)) = false := by simp
          have R1 := Lib.hid hw8
          clear hw8 hb8 hw7
          go_wp2
          go_roundw
          case rel => exact ⟨k + 1, by omega, by go_num, by rw [HN.out]; go_num, R1.out⟩
          case measure => simp [intOf]; omega
    · obtain rfl : k = 514 := by omega
      have HN : Hid (cntTo bs s (514 - 1) = s.sum) := Lib.hid (by
        rw [← cntTo_all HV.out]
        exact cntTo_out HV.out)
      have hT2 := Lib.hid (hT.out wr hw)
      have hAw := Lib.hid (law03_awake wr)
      have hwf := hB4.trans (hw.mono hB4.size)
      rw [HN.out]
      clear hcl
      go_wp2_with (first
        | (go_at_call 17; (with_reducible refine hT2.out.mono ?_); rintro e w' ⟨rfl, rfl⟩)
        | (go_at_call 6; (with_reducible refine hAw.out.mono ?_); rintro e w9 ⟨rfl, hb9⟩))
      go_ret
      exact ⟨rfl, hwf.trans (hb9.mono hwf.size)⟩

theorem walk {H : Type} (enc : TypeId × Value → H) (W : World) (base : Nat) (v0 : Value) (d0 : DataW H) (p0 : List MemPlace) (o0 : Value.okWide Try.prog W .any base 22 v0) (h0 : DataW.Trod enc Try.prog W 0 (fun _ => true) true 22 v0 d0 p0)
    (v1 : Value) (d1 : DataW H) (p1 : List MemPlace) (o1 : Value.okWide Try.prog W .any base 3 v1) (h1 : DataW.Trod enc Try.prog W 0 (fun _ => true) true 3 v1 d1 p1) :
    Calls Try.prog 4 #[v0, v1] W fun e w' => e = .returned (.bool true) ∧ Below W.heap.size W w' := by
  obtain ⟨a, xs, cap, rfl, ha, hx, hl⟩ := open_nums Try.underlying22 Try.underlying3 (by kernel_rfl) o0 h0
  obtain ⟨i, rfl, rfl, rfl, w1⟩ := open_int Try.underlying3 o1 h1
  exact core a xs cap i W ha (fun x hx2 => int_of (hx x hx2)) (by unfold maxLen at hl; exact hl) (int_of w1).1 (int_of w1).2
end Go.Proofs.Ytpjaflcljnfjmaa.layoutValidLaw
