/-
  LayoutBack: for every list of ints and every seed the law returns true.
-/
import Derived.Test.YtpjaflcljnfjmaaLBackMath
import Derived.Test.YtpjaflcljnfjmaaLayAwake
import Derived.Test.YtpjaflcljnfjmaaDeck2
import Derived.Deep.RegionHeld3
import Derived.Deep.RegionHeldLaw
import Derived.Deep.DeepCutAuto
import Derived.Lib.SmallJoins
namespace Go.Proofs.Ytpjaflcljnfjmaa.layoutBackLaw
open Go.RowKit Go.ChangeShapes Go.WideShapes Go.ChangeAt Go.Joins

set_option maxHeartbeats 2000000 in
set_option maxRecDepth 100000 in
theorem core (a : Option Addr) (xs : List Int) (cap : Nat) (i : Int) (w : World) (ha : IntsAt .i64 w a xs) (hx : ∀ x ∈ xs, -9223372036854775808 ≤ x ∧ x ≤ 9223372036854775807) (hl : xs.length ≤ 9223372036854775807) (hi1 : -9223372036854775808 ≤ i) (hi2 : i ≤ 9223372036854775807) :
    Calls Try.prog 5 #[.slice a xs.length cap, .int .i64 i] w fun e w' => e = .returned (.bool true) ∧ Below w.heap.size w w' := by
  have hNew := Lib.hid (make_New a xs cap _ ha hx hl)
  clear ha hx hl
  go_enter Try.func5, Try.ntmps5
  go_wp2_with fail
  refine hNew.out.mono ?_
  rintro e w1 ⟨rfl, hd1, hb1⟩
  generalize hD : w.heap.size = D at *
  have sz : ∀ {W : World}, Below D w W → D ≤ W.heap.size := fun h => by have := h.size; omega
  have hS := Lib.hid (deck_Sizes _ w1 hd1)
  go_wp2_with fail
  refine hS.out.mono ?_
  rintro e w2 ⟨a2, c2, s, rfl, hn2, hc2, hz, hd2, hg2⟩
  have hB2 : Below D w w2 := hb1.grown hg2 (sz hb1) (fun k hk => by cases hk; exact Nat.le_refl _)
  have hn2 : NatsFrom (D + 1) .i64 w2 a2 s := hn2.mono (by have := hd1.lt; omega)
  clear hd1 hb1 hg2 hNew hS
  have hY := Lib.hid (deck_Layout D a2 s c2 w2 hd2 hz hn2)
  go_wp2_with fail
  refine hY.out.mono ?_
  rintro e w3 ⟨a3, c3, bs, key, rfl, hv, hk, hbs, hc3, hd3, hg3⟩
  have hB3 : Below D w w3 := hB2.grown hg3 (sz hB2) (fun k hk => by cases hk; exact Nat.le_refl _)
  have hbs : IntsFrom (D + 1) .i64 w3 a3 bs := hbs.mono (by have := hd2.lt; omega)
  have hn3 : NatsFrom (D + 1) .i64 w3 a2 s := hn2.kept hg3 (fun d hd => by cases hd; omega)
  clear hY hg3 hn2 hd2 hB2
  have k3 : Kept D a2 s a3 bs none [] [] w3 := ⟨hd3, hn3, hbs, .inl rfl, fun p hp => by simp at hp⟩
  have K3 := k3.two (.slice a3 bs.length c3) (.int .u16 (key : Int)) 25
  have B3 := hB3.alloc (sz hB3) (.cells #[.slice a3 bs.length c3, .int .u16 (key : Int)] 25)
  clear k3 hd3 hn3 hbs hB3
  go_upto_region 4 with fail
  generalize w3.alloc (.cells #[.slice a3 bs.length c3, .int .u16 (key : Int)] 25) = W3 at *
  generalize w3.heap.size = X at *
  have hM := Lib.hid (make_Mod i 1048576 W3 (by omega) (by omega) hi1 hi2)
  have hq0 : 0 ≤ i % 1048576 := Int.emod_nonneg _ (by omega)
  have hq1 : i % 1048576 < 1048576 := Int.emod_lt_of_pos _ (by omega)
  obtain ⟨q, hq⟩ : ∃ q : Nat, i % 1048576 = (q : Int) := ⟨(i % 1048576).toNat, by omega⟩
  have hK := Lib.hid (ref03_Make_valid a2 s c2 q W3 hz (by omega) K3.sizes.at)
  rw [hq] at hM
  clear hq hq0 hq1
  go_wp2_with fail
  refine hM.out.mono ?_
  rintro e w' ⟨rfl, rfl⟩
  go_wp2_with fail
  refine hK.out.mono ?_
  rintro e w4 ⟨a4, c4, cs, key4, rfl, hv4, hk4, hcs, hc4, hb4⟩
  have k4 := K3.later hb4
  have k4 : Kept D a2 s a3 bs a4 cs _ w4 := ⟨k4.deck, k4.sizes, k4.first, hcs.mono (by have := K3.deck.lt; omega), k4.cells⟩
  have B4' := B3.trans (hb4.mono (sz B3))
  have K4 := k4.two (.slice a4 cs.length c4) (.int .u16 (key4 : Int)) 25
  have B4 := B4'.alloc (sz B4') (.cells #[.slice a4 cs.length c4, .int .u16 (key4 : Int)] 25)
  clear k4 B4' hM hK hcs hb4 K3 B3
  go_upto_region 5 with fail
  generalize w4.alloc (.cells #[.slice a4 cs.length c4, .int .u16 (key4 : Int)] 25) = W4 at *
  generalize w4.heap.size = Y at *
  have hC := Lib.hid (deck_Canon D a2 s c2 W4 K4.deck hz K4.sizes)
  go_wp2_with fail
  refine hC.out.mono ?_
  rintro e w5 ⟨t, v, r, o, rfl, hp, hd5, hg5⟩
  have K5 := (K4.drawn hg5 hd5).four (.int .u8 (t : Int)) (.int .u16 (v : Int)) (.int .i64 r) (.int .i64 o) 48
  have B5' := B4.grown hg5 (sz B4) (fun k hk => by cases hk; exact Nat.le_refl _)
  have B5 := B5'.alloc (sz B5') (.cells #[.int .u8 (t : Int), .int .u16 (v : Int), .int .i64 r, .int .i64 o] 48)
  clear hC hd5 hg5 B5' K4 B4
  go_upto_region 6 with fail
  generalize w5.alloc (.cells #[.int .u8 (t : Int), .int .u16 (v : Int), .int .i64 r, .int .i64 o] 48) = W5 at *
  generalize w5.heap.size = C at *
  obtain ⟨x1, x2, x3, x4, x5, x6, x7⟩ := raw_can hv hk hp
  obtain ⟨y1, y2, _, y4, y5, y6, y7⟩ := raw_can hv4 hk4 hp
  have hR1 := layout_Raw a3 bs c3 key a2 s c2 t v r o W5 hz hv K5.first.at K5.sizes.at
  rw [x1, x2] at hR1
  have HR1 := Lib.hid hR1
  have HR2 : Hid (∀ W, IntsAt .i64 W a4 cs → NatsAt .i64 W a2 s → Calls Try.prog 20 #[.agg #[.slice a4 cs.length c4, .int .u16 (key4 : Int)], .slice a2 s.length c2, .agg #[.int .u8 (t : Int), .int .u16 (v : Int), .int .i64 r, .int .i64 o]] W
      fun e w' => e = .returned (.tuple #[.agg #[.int .u8 (t : Int), .int .u16 ((rawV cs s key4 t v r o : Nat) : Int)], .int .i64 0]) ∧ Below W.heap.size W w') := Lib.hid (fun W h1 h2 => by
    have := layout_Raw a4 cs c4 key4 a2 s c2 t v r o W hz hv4 h1 h2
    rw [y1, y2] at this
    exact this)
  have HC1 : Hid (∀ W, IntsAt .i64 W a3 bs → NatsAt .i64 W a2 s → Calls Try.prog 21 #[.agg #[.slice a3 bs.length c3, .int .u16 (key : Int)], .slice a2 s.length c2, .agg #[.int .u8 (t : Int), .int .u16 ((rawV bs s key t v r o : Nat) : Int)]] W
      fun e w' => e = .returned (.agg #[.int .u8 (t : Int), .int .u16 (v : Int), .int .i64 r, .int .i64 o]) ∧ Below W.heap.size W w') := Lib.hid (fun W h1 h2 => by
    have := layout_Canon a3 bs c3 key a2 s c2 t (rawV bs s key t v r o) W hk x3 x4 hz hv h1 h2
    rw [x5, x6, x7] at this
    exact this)
  have HC2 : Hid (∀ W, IntsAt .i64 W a4 cs → NatsAt .i64 W a2 s → Calls Try.prog 21 #[.agg #[.slice a4 cs.length c4, .int .u16 (key4 : Int)], .slice a2 s.length c2, .agg #[.int .u8 (t : Int), .int .u16 ((rawV cs s key4 t v r o : Nat) : Int)]] W
      fun e w' => e = .returned (.agg #[.int .u8 (t : Int), .int .u16 (v : Int), .int .i64 r, .int .i64 o]) ∧ Below W.heap.size W w') := Lib.hid (fun W h1 h2 => by
    have := layout_Canon a4 cs c4 key4 a2 s c2 t (rawV cs s key4 t v r o) W hk4 x3 y4 hz hv4 h1 h2
    rw [y5, y6, y7] at this
    exact this)
  generalize rawV bs s key t v r o = va at *
  generalize rawV cs s key4 t v r o = vb at *
  clear hR1 x1 x2 x4 x5 x6 x7 y1 y2 y4 y5 y6 y7 hp
  have h5 := K5.cells
  simp only [Cs, List.forall_mem_cons] at h5
  obtain ⟨⟨q0, _⟩, ⟨q1, _⟩, ⟨q2, _⟩, ⟨q3, _⟩, _, _, ⟨p0, _⟩, ⟨p1, _⟩, _⟩ := h5
  go_wp2_with fail
  refine HR1.out.mono ?_
  rintro e w6 ⟨rfl, hb6⟩
  clear p0 p1 q0 q1 q2 q3
  have K6 := (K5.later hb6).two (.int .u8 (t : Int)) (.int .u16 (va : Int)) 51
  have B6' := B5.trans (hb6.mono (sz B5))
  have B6 := B6'.alloc (sz B6') (.cells #[.int .u8 (t : Int), .int .u16 (va : Int)] 51)
  clear hb6 B6' K5 B5 HR1
  go_upto_region 7 with fail
  generalize w6.alloc (.cells #[.int .u8 (t : Int), .int .u16 (va : Int)] 51) = W6 at *
  generalize w6.heap.size = A at *
  have h6 := K6.cells
  simp only [Cs, List.forall_mem_cons] at h6
  obtain ⟨_, _, ⟨q0, _⟩, ⟨q1, _⟩, ⟨q2, _⟩, ⟨q3, _⟩, ⟨p0, _⟩, ⟨p1, _⟩, _⟩ := h6
  go_wp2_with fail
  refine (HR2.out _ K6.second.at K6.sizes.at).mono ?_
  rintro e w7 ⟨rfl, hb7⟩
  clear p0 p1 q0 q1 q2 q3
  have K7 := (K6.later hb7).two (.int .u8 (t : Int)) (.int .u16 (vb : Int)) 51
  have B7' := B6.trans (hb7.mono (sz B6))
  have B7 := B7'.alloc (sz B7') (.cells #[.int .u8 (t : Int), .int .u16 (vb : Int)] 51)
  clear hb7 B7' K6 B6 HR2
  go_upto_region 8 with fail
  generalize w7.alloc (.cells #[.int .u8 (t : Int), .int .u16 (vb : Int)] 51) = W7 at *
  generalize w7.heap.size = E at *
  have DC1 : Hid (∀ W, Below W7.heap.size W7 W → Calls Try.prog 21 #[.agg #[.slice a3 bs.length c3, .int .u16 (key : Int)], .slice a2 s.length c2, .agg #[.int .u8 (t : Int), .int .u16 (va : Int)]] W
      fun e w' => e = .returned (.agg #[.int .u8 (t : Int), .int .u16 (v : Int), .int .i64 r, .int .i64 o]) ∧ Below W.heap.size W w') := Lib.hid (fun W h => HC1.out W (K7.first.later h).at (K7.sizes.later h).at)
  have DC2 : Hid (∀ W, Below W7.heap.size W7 W → Calls Try.prog 21 #[.agg #[.slice a4 cs.length c4, .int .u16 (key4 : Int)], .slice a2 s.length c2, .agg #[.int .u8 (t : Int), .int .u16 (vb : Int)]] W
      fun e w' => e = .returned (.agg #[.int .u8 (t : Int), .int .u16 (v : Int), .int .i64 r, .int .i64 o]) ∧ Below W.heap.size W w') := Lib.hid (fun W h => HC2.out W (K7.second.later h).at (K7.sizes.later h).at)
  have h7 := K7.cells
  simp only [Cs, List.forall_mem_cons] at h7
  obtain ⟨⟨e0, _⟩, ⟨e1, _⟩, ⟨f0, _⟩, ⟨f1, _⟩, ⟨q0, _⟩, ⟨q1, _⟩, ⟨q2, _⟩, ⟨q3, _⟩, ⟨y0, _⟩, ⟨y1, _⟩, ⟨p0, _⟩, ⟨p1, _⟩, _⟩ := h7
  have HS : Hid (∀ W, Below W7.heap.size W7 W → (W.cell? ⟨A, 0, none⟩ = some (.int .u8 (t : Int)) ∧ W.cell? ⟨A, 1, none⟩ = some (.int .u16 (va : Int)) ∧ W.cell? ⟨E, 0, none⟩ = some (.int .u8 (t : Int)) ∧ W.cell? ⟨E, 1, none⟩ = some (.int .u16 (vb : Int)) ∧
      W.cell? ⟨C, 0, none⟩ = some (.int .u8 (t : Int)) ∧ W.cell? ⟨C, 1, none⟩ = some (.int .u16 (v : Int)) ∧ W.cell? ⟨C, 2, none⟩ = some (.int .i64 r) ∧ W.cell? ⟨C, 3, none⟩ = some (.int .i64 o) ∧
      W.cell? ⟨X, 0, none⟩ = some (.slice a3 bs.length c3) ∧ W.cell? ⟨X, 1, none⟩ = some (.int .u16 (key : Int)) ∧ W.cell? ⟨Y, 0, none⟩ = some (.slice a4 cs.length c4) ∧ W.cell? ⟨Y, 1, none⟩ = some (.int .u16 (key4 : Int)) ∧ Below W7.heap.size W7 W)) :=
    Lib.hid (fun W h => ⟨cell_later h f0, cell_later h f1, cell_later h e0, cell_later h e1, cell_later h q0, cell_later h q1, cell_later h q2, cell_later h q3, cell_later h p0, cell_later h p1, cell_later h y0, cell_later h y1, h⟩)
  have KH := Lib.hid K7
  have BH := Lib.hid B7
  have hr7 := Below.refl W7.heap.size W7
  have HV := Lib.hid hv
  have HZ := Lib.hid hz
  have HK := Lib.hid hk
  clear K7 B7 HC1 HC2 e0 e1 f0 f1 q0 q1 q2 q3 y0 y1 p0 p1 hv hv4 hz hk hk4 hn2 hbs
  go_region_held3 (fun W => W.cell? ⟨A, 0, none⟩ = some (.int .u8 (t : Int)) ∧ W.cell? ⟨A, 1, none⟩ = some (.int .u16 (va : Int)) ∧ W.cell? ⟨E, 0, none⟩ = some (.int .u8 (t : Int)) ∧ W.cell? ⟨E, 1, none⟩ = some (.int .u16 (vb : Int)) ∧
      W.cell? ⟨C, 0, none⟩ = some (.int .u8 (t : Int)) ∧ W.cell? ⟨C, 1, none⟩ = some (.int .u16 (v : Int)) ∧ W.cell? ⟨C, 2, none⟩ = some (.int .i64 r) ∧ W.cell? ⟨C, 3, none⟩ = some (.int .i64 o) ∧
      W.cell? ⟨X, 0, none⟩ = some (.slice a3 bs.length c3) ∧ W.cell? ⟨X, 1, none⟩ = some (.int .u16 (key : Int)) ∧ W.cell? ⟨Y, 0, none⟩ = some (.slice a4 cs.length c4) ∧ W.cell? ⟨Y, 1, none⟩ = some (.int .u16 (key4 : Int)) ∧ Below W7.heap.size W7 W)
    (first
      | exact HS.out _ hr7.drew
      | assumption
      | exact HS.out _ (Below.trans (by go_split_ands; assumption) (hb8.mono (Below.size (by go_split_ands; assumption)))))
    (first
      | (go_at_call 21; (with_reducible refine (DC1.out _ (by go_split_ands; assumption)).mono ?_); rintro e w' ⟨rfl, hb8⟩)
      | (go_at_call 21; (with_reducible refine (DC2.out _ (by go_split_ands; assumption)).mono ?_); rintro e w' ⟨rfl, hb8⟩))
  have hBel : Below W7.heap.size W7 w' := by go_split_ands; assumption
  have K8 := KH.out.later hBel
  have B8 := BH.out.trans (hBel.mono (sz BH.out))
  clear hBel KH BH HS DC1 DC2 hr7
  generalize w' = w8 at *
  have hCl := Lib.hid (deck_Cell D w8 K8.deck)
  go_wp2_with fail
  refine hCl.out.mono ?_
  rintro e w9 ⟨tw, vw, htw, hvw, rfl, hd9, hg9⟩
  have K9 := (K8.drawn hg9 hd9).two (.int .u8 (tw : Int)) (.int .u16 (vw : Int)) 51
  have B9' := B8.grown hg9 (sz B8) (fun k hk => by cases hk; exact Nat.le_refl _)
  have B9 := B9'.alloc (sz B9') (.cells #[.int .u8 (tw : Int), .int .u16 (vw : Int)] 51)
  clear hCl hd9 hg9 B9' K8 B8
  go_upto_region 11 with fail
  generalize w9.alloc (.cells #[.int .u8 (tw : Int), .int .u16 (vw : Int)] 51) = W9 at *
  generalize w9.heap.size = G at *
  have h9 := K9.cells
  simp only [Cs, List.forall_mem_cons] at h9
  obtain ⟨⟨e0, _⟩, ⟨e1, _⟩, _, _, _, _, _, _, _, _, _, _, ⟨p0, _⟩, ⟨p1, _⟩, _⟩ := h9
  have hC9 := Lib.hid (layout_Canon a3 bs c3 key a2 s c2 tw vw W9 HK.out (by omega) hvw HZ.out HV.out K9.first.at K9.sizes.at)
  have hCR := Lib.hid (can_raw HV.out HK.out htw hvw)
  generalize canV key tw vw = V at *
  generalize canR bs s tw vw = R at *
  generalize canO bs s tw vw = O at *
  go_wp2_with fail
  refine hC9.out.mono ?_
  rintro e w10 ⟨rfl, hb10⟩
  clear e0 e1 p0 p1 hC9
  have K10 := (K9.later hb10).four (.int .u8 (tw : Int)) (.int .u16 (V : Int)) (.int .i64 R) (.int .i64 O) 48
  have B10' := B9.trans (hb10.mono (sz B9))
  have B10 := B10'.alloc (sz B10') (.cells #[.int .u8 (tw : Int), .int .u16 (V : Int), .int .i64 R, .int .i64 O] 48)
  clear hb10 B10' K9 B9
  go_upto_region 12 with fail
  generalize w10.alloc (.cells #[.int .u8 (tw : Int), .int .u16 (V : Int), .int .i64 R, .int .i64 O] 48) = W10 at *
  generalize w10.heap.size = Z at *
  have h10 := K10.cells
  simp only [Cs, List.forall_mem_cons] at h10
  obtain ⟨⟨q0, _⟩, ⟨q1, _⟩, ⟨q2, _⟩, ⟨q3, _⟩, ⟨e0, _⟩, ⟨e1, _⟩, _, _, _, _, _, _, _, _, _, _, ⟨p0, _⟩, ⟨p1, _⟩, _⟩ := h10
  have hR10 := Lib.hid (layout_Raw a3 bs c3 key a2 s c2 tw V R O W10 HZ.out HV.out K10.first.at K10.sizes.at)
  generalize rawT s tw V R O = T2 at *
  generalize rawV bs s key tw V R O = V2 at *
  generalize rawE s tw V R O = E2 at *
  go_wp2_with fail
  refine hR10.out.mono ?_
  rintro e w11 ⟨rfl, hb11⟩
  clear e0 e1 p0 p1 q0 q1 q2 q3 hR10
  have K11 := (K10.later hb11).two (.int .u8 (T2 : Int)) (.int .u16 (V2 : Int)) 51
  have B11' := B10.trans (hb11.mono (sz B10))
  have B11 := B11'.alloc (sz B11') (.cells #[.int .u8 (T2 : Int), .int .u16 (V2 : Int)] 51)
  clear hb11 B11' K10 B10
  go_upto_region 13 with fail
  generalize w11.alloc (.cells #[.int .u8 (T2 : Int), .int .u16 (V2 : Int)] 51) = W11 at *
  generalize w11.heap.size = F at *
  have h11 := K11.cells
  simp only [Cs, List.forall_mem_cons] at h11
  obtain ⟨⟨f0, _⟩, ⟨f1, _⟩, ⟨q0, _⟩, ⟨q1, _⟩, ⟨q2, _⟩, ⟨q3, _⟩, ⟨e0, _⟩, ⟨e1, _⟩, _⟩ := h11
  have hAw := Lib.hid (law03_awake W11)
  subst hD
  rcases hCR.out with ⟨h1, rfl, rfl, rfl⟩ | ⟨h1, rfl⟩
  · clear hCR
    go_wp2_with (go_at_call 6; (with_reducible refine hAw.out.mono ?_); rintro e w12 ⟨rfl, hb12⟩)
    go_ret
    exact ⟨rfl, B11.trans (hb12.mono (sz B11))⟩
  · have h1b : ¬ (0 ≤ R) := by omega
    clear hCR
    go_wp2_with (go_at_call 6; (with_reducible refine hAw.out.mono ?_); rintro e w12 ⟨rfl, hb12⟩)
    go_ret
    exact ⟨rfl, B11.trans (hb12.mono (sz B11))⟩

theorem walk {H : Type} (enc : TypeId × Value → H) (W : World) (base : Nat) (v0 : Value) (d0 : DataW H) (p0 : List MemPlace) (o0 : Value.okWide Try.prog W .any base 22 v0) (h0 : DataW.Trod enc Try.prog W 0 (fun _ => true) true 22 v0 d0 p0)
    (v1 : Value) (d1 : DataW H) (p1 : List MemPlace) (o1 : Value.okWide Try.prog W .any base 3 v1) (h1 : DataW.Trod enc Try.prog W 0 (fun _ => true) true 3 v1 d1 p1) :
    Calls Try.prog 5 #[v0, v1] W fun e w' => e = .returned (.bool true) ∧ Below W.heap.size W w' := by
  obtain ⟨a, xs, cap, rfl, ha, hx, hl⟩ := open_nums Try.underlying22 Try.underlying3 (by kernel_rfl) o0 h0
  obtain ⟨i, rfl, rfl, rfl, w1⟩ := open_int Try.underlying3 o1 h1
  exact core a xs cap i W ha (fun x hx2 => int_of (hx x hx2)) (by unfold maxLen at hl; exact hl) (int_of w1).1 (int_of w1).2
end Go.Proofs.Ytpjaflcljnfjmaa.layoutBackLaw
