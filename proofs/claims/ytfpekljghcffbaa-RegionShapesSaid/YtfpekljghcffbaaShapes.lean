/-
  RegionShapes: for any two lists of ints and all ints what, by the law returns true.
-/
import Derived.Test.YtfpekljghcffbaaReg4
import Derived.Deep.DeepCutAuto
import Derived.Deep.CutBlock
import Derived.OwnWalk
namespace Go.Proofs.Ytfpekljghcffbaa.regionShapesLaw
open Go.RowKit Go.ChangeShapes Go.WideShapes Go.ChangeAt

theorem long (a b : Option Addr) (xs ls : List Int) (ca cb : Nat) (p q : Int) (w : World) (h : 30 < xs.length) :
    Calls Try.prog 3 #[.slice a xs.length ca, .slice b ls.length cb, .int .i64 p, .int .i64 q] w fun e w' => e = .returned (.bool true) ∧ Below w.heap.size w w' := by
  go_enter Try.func3, Try.ntmps3
  go_wp2_with (go_at_call 8; (with_reducible refine (awake_any _).mono ?_); rintro e w' ⟨rfl, hb5⟩)
  go_ret
  exact ⟨rfl, hb5⟩

theorem IntsAt.later {k : IntKind} {w w' : World} {a : Option Addr} {xs : List Int} (h : IntsAt k w a xs) (hb : Below w.heap.size w w') : IntsAt k w' a xs := by
  rcases h with h | ⟨b, off, ha, h⟩
  · exact .inl h
  · exact .inr ⟨b, off, ha, fun i hi => cell_later hb (h i hi)⟩

theorem nats_back {k : IntKind} {w : World} {a : Option Addr} {s : List Nat} (h : IntsAt k w a (s.map fun x : Nat => (x : Int))) : NatsAt k w a s := by
  rcases h with h | ⟨b, off, ha, h⟩
  · exact .inl (by simpa using h)
  · exact .inr ⟨b, off, ha, fun i hi => by have := h i (by simpa using hi); simpa using this⟩

theorem ints_of_row {w : World} {base : Nat} {e : TypeId} {v : Value} {n : Nat} {xs : List Int} (h : w.ownsRow base e 1 v n (xs.map fun x : Int => Value.int .i64 x)) :
    ∃ a cap, v = .slice a xs.length cap ∧ IntsAt .i64 w a xs := by
  have hn : n = xs.length := by have := h.1; simp at this; omega
  subst hn
  rcases h.2 with ⟨hv, h0⟩ | ⟨g, cap, cur, hv, hb, hg, hnc, hrest⟩
  · have hx : xs = [] := by cases xs with | nil => rfl | cons x r => simp at h0
    subst hx
    exact ⟨none, 0, hv, Or.inl rfl⟩
  · refine ⟨Option.some ⟨g, 0, none⟩, cap, hv, Or.inr ⟨g, 0, rfl, fun i hi => ?_⟩⟩
    subst hv
    have := h.cellAt i (by omega)
    rw [Nat.zero_add, this, List.getElem?_map, List.getElem?_eq_getElem hi]
    rfl

/-- Block Q holds three lists of ints. -/
def Trio (W : World) (Q : Nat) : Prop :=
  ∀ k : Nat, k < 3 → ∃ (a : Option Addr) (ys : List Int) (cap : Nat), W.cell? ⟨Q, k, none⟩ = some (.slice a ys.length cap) ∧ IntsAt .i64 W a ys ∧ ys.length ≤ 30

theorem trio_new {w : World} {a b c : Option Addr} {xs ys zs : List Int} {ca cb cc : Nat} (T : TypeId) (h1 : IntsAt .i64 w a xs) (h2 : IntsAt .i64 w b ys) (h3 : IntsAt .i64 w c zs) (l1 : xs.length ≤ 30) (l2 : ys.length ≤ 30) (l3 : zs.length ≤ 30) :
    Trio (w.alloc (.cells #[.slice a xs.length ca, .slice b ys.length cb, .slice c zs.length cc] T)) w.heap.size := by
  intro k hk
  have hB : Below w.heap.size w (w.alloc (.cells #[.slice a xs.length ca, .slice b ys.length cb, .slice c zs.length cc] T)) := Below.alloc (Below.refl _ _) (Nat.le_refl _) _
  have : k = 0 ∨ k = 1 ∨ k = 2 := by omega
  rcases this with rfl | rfl | rfl
  · exact ⟨a, xs, ca, by rw [World.cell?_alloc_at _ _ _ _ rfl]; rfl, IntsAt.later h1 hB, l1⟩
  · exact ⟨b, ys, cb, by rw [World.cell?_alloc_at _ _ _ _ rfl]; rfl, IntsAt.later h2 hB, l2⟩
  · exact ⟨c, zs, cc, by rw [World.cell?_alloc_at _ _ _ _ rfl]; rfl, IntsAt.later h3 hB, l3⟩

theorem ints_one (zs : List Int) : ∀ u ∈ zs.map (fun x : Int => Value.int .i64 x), u.oneCell' = true := by
  intro u hu
  obtain ⟨x, _, rfl⟩ := List.mem_map.1 hu
  rfl

set_option maxHeartbeats 2000000 in
set_option maxRecDepth 100000 in
theorem core (a b : Option Addr) (xs ls : List Int) (ca cb : Nat) (p q : Int) (w : World) (lx : xs.length ≤ 30) (ha : IntsAt .i64 w a xs) (hb : IntsAt .i64 w b ls) (hx : ∀ x ∈ ls, -9223372036854775808 ≤ x ∧ x ≤ 9223372036854775807) (hl : ls.length ≤ 9223372036854775807)
    (hp : -9223372036854775808 ≤ p ∧ p ≤ 9223372036854775807) (hq : -9223372036854775808 ≤ q ∧ q ≤ 9223372036854775807) :
    Calls Try.prog 3 #[.slice a xs.length ca, .slice b ls.length cb, .int .i64 p, .int .i64 q] w fun e w' => e = .returned (.bool true) ∧ Below w.heap.size w w' := by
  obtain ⟨i0, hi, hz0, hz1, hz2⟩ := info_parts info_int
  have hNew := Lib.hid (new_any b ls cb w hb hx hl)
  clear hb hx hl
  go_enter Try.func3, Try.ntmps3
  go_wp2_with fail
  refine hNew.out.mono ?_
  rintro e w1 ⟨rfl, hd1, hb1⟩
  have hS := Lib.hid (sizes_any _ w1 hd1)
  go_wp2_with fail
  refine hS.out.mono ?_
  rintro e w2 ⟨a2, c2, s, rfl, hn2, hc2, hz, hd2, hg2⟩
  have B2 : Below w.heap.size w w2 := hb1.grown hg2 hb1.size (fun k hk => by cases hk; exact Nat.le_refl _)
  have A2 := IntsAt.later ha B2
  have I2 := hn2.at.ints
  obtain ⟨b2, o2, rfl, hc⟩ := hn2.at.some (j := 0) hz.1
  have hC : Hid (∀ j u, (s.map fun x : Nat => Value.int .i64 (x : Int))[j]? = some u → w2.cell? ((⟨b2, o2, none⟩ : Addr).add j) = some u) := Lib.hid fun j u hj => by
    rw [List.getElem?_map] at hj
    obtain ⟨x, hx, rfl⟩ := Option.map_eq_some_iff.1 hj
    obtain ⟨h1, rfl⟩ := List.getElem?_eq_some_iff.1 hx
    have e : (⟨b2, o2, none⟩ : Addr).add j = ⟨b2, o2 + j, none⟩ := by unfold Addr.add; split <;> simp_all
    rw [e]; exact hc j h1
  have hl1 := hz.1
  have hl4 := hz.2.1
  clear hd1 hb1 hg2 hd2 hNew hS hz hn2 hc ha
  go_wp2_with (first
    | (at_builtin; refine wpList_append_own _ rfl _ _ 22 rfl w2.heap.size 3 i0 (.int .i64 0) 1 8 Try.underlying22 hi hz0 hz1 hz2 rfl (by decide) (.slice none 0 0) 0 [] rfl (World.ownsRow_nil _ _ _ _) ⟨b2, o2, none⟩ s.length c2 (s.map fun x : Nat => Value.int .i64 (x : Int)) rfl (by simp) ?c1 ?c2 ?c3 ?c4 ?c5 ?_))
  case c1 => exact hC.out
  case c2 =>
    intro u hu
    obtain ⟨x, _, rfl⟩ := List.mem_map.1 hu
    rfl
  case c3 => unfold maxLen; omega
  case c4 => omega
  case c5 => exact Nat.le_refl _
  intro v3 w3 hown3 hgrow _h3
  have HO : Hid (∃ (g cap : Nat) (zs : List Int), v3 = .slice (some ⟨g, 0, none⟩) s.length cap ∧ zs.length = s.length ∧ w3.ownsRow w2.heap.size 3 1 (.slice (some ⟨g, 0, none⟩) s.length cap) s.length (zs.map fun x : Int => Value.int .i64 x) ∧ w2.heap.size ≤ g) := Lib.hid (by
    rcases hown3.2 with ⟨_, h0⟩ | ⟨g, cap, cur, hv, hbg, _⟩
    · omega
    · subst hv
      exact ⟨g, cap, s.map (fun x : Nat => (x : Int)), rfl, by simp, by rw [List.map_map]; exact hown3, hbg⟩)
  obtain ⟨g, c3, zs, rfl, hzl, own3, hgb⟩ := HO.out
  have B3 : Below w2.heap.size w2 w3 := (Below.refl _ _).grown hgrow (Nat.le_refl _) (fun k hk => by simp [Value.ownBlock] at hk)
  have hb1 := Int.emod_nonneg p (b := 3) (by omega)
  have hb2 := Int.emod_lt_of_pos p (b := 3) (by omega)
  have M1 := Lib.hid (dmod_any p 3 w3 (by omega) (by omega) hp.1 hp.2)
  generalize p % 3 = m at *
  clear HO hown3 hgrow _h3 hC
  go_upto_block 0 with (go_at_call 11; (with_reducible refine M1.out.mono ?_); rintro e w' ⟨rfl, rfl⟩)
  go_cut [10] (fun v wx => ∃ a4 c4 ys, v = .slice a4 ys.length c4 ∧ IntsAt .i64 wx a4 ys ∧ ys.length ≤ 8 ∧ Below w2.heap.size w2 wx)
  case first =>
    have hm : m = 0 ∨ m = 1 ∨ m = 2 := by omega
    rcases hm with rfl | rfl | rfl
    · have hn1 := Int.emod_nonneg q (b := ((s.length : Nat) : Int)) (by omega)
      have hn2 := Int.emod_lt_of_pos q (b := ((s.length : Nat) : Int)) (by omega)
      have hn3 := Int.emod_nonneg q (b := 36) (by omega)
      have hn4 := Int.emod_lt_of_pos q (b := 36) (by omega)
      have M2 := Lib.hid (dmod_any q ((s.length : Nat) : Int) w3 (by omega) (by omega) hq.1 hq.2)
      have M3 := Lib.hid (dmod_any q 36 w3 (by omega) (by omega) hq.1 hq.2)
      obtain ⟨k, hk⟩ : ∃ k : Nat, q % ((s.length : Nat) : Int) = (k : Int) := ⟨(q % ((s.length : Nat) : Int)).toNat, by omega⟩
      rw [hk] at M2 hn1 hn2
      generalize q % 36 = y at *
      have hf := own3.frozenAt k
      have hce := own3.cellAt k (by omega)
      have hkz : k < zs.length := by omega
      rw [List.getElem?_map, List.getElem?_eq_getElem hkz, Option.map_some] at hce
      generalize zs[k] = z at hce
      have hst := own3.stored k (.int .i64 (y - 2))
      rw [← List.map_set (f := fun x : Int => Value.int .i64 x)] at hst
      obtain ⟨a4, c4, hv, hI⟩ := ints_of_row hst.1
      have hln : (zs.set k (y - 2)).length = s.length := by simp [hzl]
      have hB4 := B3.grown hst.2 B3.size (fun j hj => by cases hj; exact hgb)
      have HF := Lib.hid (And.intro hv (And.intro hI (And.intro hln hB4)))
      clear hst hI hv hln hB4 own3 hk
      go_wp2_with (first
        | (go_at_call 11; (with_reducible refine M2.out.mono ?_); rintro e w' ⟨rfl, rfl⟩)
        | (go_at_call 11; (with_reducible refine M3.out.mono ?_); rintro e w' ⟨rfl, rfl⟩))
      go_meet
      obtain ⟨hv, hI, hln, hB4⟩ := HF.out
      exact ⟨a4, c4, zs.set k (y - 2), hv, hI, by omega, hB4⟩
    · have own3b := own3
      go_wp2_with (first
        | (at_builtin; refine wpList_append_own _ rfl _ _ 22 rfl w2.heap.size 3 i0 (.int .i64 0) 1 8 Try.underlying22 hi hz0 hz1 hz2 rfl (by decide) _ _ _ rfl own3b ⟨g, 0, none⟩ s.length c3 (zs.map fun x : Int => Value.int .i64 x) rfl (by simp [hzl]) ?c1 ?c2 ?c3 ?c4 ?c5 ?_))
      case c1 => exact own3b.cells rfl
      case c2 => exact ints_one zs
      case c3 => unfold maxLen; omega
      case c4 => omega
      case c5 => exact B3.size
      intro v5 w5 hown5 hgrow5 _h5
      rw [← List.map_append] at hown5
      obtain ⟨a4, c4, rfl, hI⟩ := ints_of_row hown5
      have hB4 := B3.grown hgrow5 B3.size (fun j hj => by simp [Value.ownBlock] at hj; omega)
      have HF := Lib.hid (And.intro hI hB4)
      clear _h5 hown5 hgrow5 hI hB4 own3 own3b
      go_wp2
      go_meet
      exact ⟨a4, c4, zs ++ zs, rfl, HF.out.1, by simp; omega, HF.out.2⟩
    · obtain ⟨a4, c4, hv, hI⟩ := ints_of_row own3
      have HF := Lib.hid (And.intro hv hI)
      clear hv hI own3
      go_wp2
      go_meet
      obtain ⟨hv, hI⟩ := HF.out
      exact ⟨a4, c4, zs, hv, hI, by omega, B3⟩
  case rest =>
    obtain ⟨a4, c4, ys, rfl, hys, hyl, hB4⟩ := hcut
    have X1 := IntsAt.later A2 hB4
    have X2 := IntsAt.later I2 hB4
    have l2 : (s.map fun x : Nat => (x : Int)).length = s.length := by simp
    have T3 := Lib.hid (trio_new (ca := ca) (cb := c2) (cc := c4) 22 X1 X2 hys lx (by omega) (by omega))
    rw [l2] at T3
    have hBn : Below wc.heap.size wc (wc.alloc (.cells #[.slice a xs.length ca, .slice (some ⟨b2, o2, none⟩) s.length c2, .slice a4 ys.length c4] 22)) := Below.alloc (Below.refl _ _) (Nat.le_refl _) _
    have hBw : Below w.heap.size w (wc.alloc (.cells #[.slice a xs.length ca, .slice (some ⟨b2, o2, none⟩) s.length c2, .slice a4 ys.length c4] 22)) := B2.trans ((hB4.trans (hBn.mono hB4.size)).mono B2.size)
    clear X1 X2 hys A2 I2 own3 hBn hB4 B3
    go_wp2_with fail
    go_loop [45] (fun c => ∃ k : Nat, k ≤ 3 ∧ c = .int .i64 k) (fun c => 3 - (intOf c).toNat)
    case atStart => exact ⟨0, by omega, rfl⟩
    case round =>
      obtain ⟨k, hk, rfl⟩ := hrel
      by_cases hlt : k < 3
      · obtain ⟨a6, us, c6, hce, hus, hul⟩ := T3.out k hlt
        have k3 : (k : Int) < 3 := by omega
        have V1 := Lib.hid (valid_any a6 us c6 _ hus (by omega))
        have V2 := Lib.hid (rvalid_any a6 us c6 _ hus (by omega))
        cases hV : validB us with
        | false =>
          rw [hV] at V1 V2
          clear hV
          go_wp2_with (first
            | (go_at_call 12; (with_reducible refine V1.out.mono ?_); rintro e w' ⟨rfl, rfl⟩)
            | (go_at_call 13; (with_reducible refine V2.out.mono ?_); rintro e w' ⟨rfl, rfl⟩))
          go_round
          case rel => exact ⟨k + 1, by omega, by go_num⟩
          case measure => simp [intOf]; omega
        | true =>
          rw [hV] at V1 V2
          obtain ⟨u, hu, rfl⟩ := validB_some hV
          have hun := nats_back hus
          rw [List.length_map] at V1 V2 hce
          have P1 := Lib.hid (total_any a6 u c6 _ hu hun)
          have P2 := Lib.hid (rtotal_any a6 u c6 _ hu.2.1 (fun x hx => (hu.2.2 x hx).2) hun)
          have P3 := Lib.hid (pages_any a6 u c6 _ hu hun)
          have P4 := Lib.hid (rpages_any a6 u c6 _ hu hun)
          clear hV hun hus hul
          go_wp2_with (first
            | (go_at_call 12; (with_reducible refine V1.out.mono ?_); rintro e w' ⟨rfl, rfl⟩)
            | (go_at_call 13; (with_reducible refine V2.out.mono ?_); rintro e w' ⟨rfl, rfl⟩)
            | (go_at_call 14; (with_reducible refine P1.out.mono ?_); rintro e w' ⟨rfl, rfl⟩)
            | (go_at_call 15; (with_reducible refine P2.out.mono ?_); rintro e w' ⟨rfl, rfl⟩)
            | (go_at_call 16; (with_reducible refine P3.out.mono ?_); rintro e w' ⟨rfl, rfl⟩)
            | (go_at_call 17; (with_reducible refine P4.out.mono ?_); rintro e w' ⟨rfl, rfl⟩))
          go_round
          case rel => exact ⟨k + 1, by omega, by go_num⟩
          case measure => simp [intOf]; omega
      · obtain rfl : k = 3 := by omega
        go_wp2_with (go_at_call 8; (with_reducible refine (awake_any _).mono ?_); rintro e w8 ⟨rfl, hb8⟩)
        go_ret
        exact ⟨rfl, hBw.trans (hb8.mono hBw.size)⟩

theorem walk {H : Type} (enc : TypeId × Value → H) (W : World) (base : Nat) (v0 : Value) (d0 : DataW H) (p0 : List MemPlace) (o0 : Value.okWide Try.prog W .any base 22 v0) (h0 : DataW.Trod enc Try.prog W 0 (fun _ => true) true 22 v0 d0 p0)
    (v1 : Value) (d1 : DataW H) (p1 : List MemPlace) (o1 : Value.okWide Try.prog W .any base 22 v1) (h1 : DataW.Trod enc Try.prog W 0 (fun _ => true) true 22 v1 d1 p1)
    (v2 : Value) (d2 : DataW H) (p2 : List MemPlace) (o2 : Value.okWide Try.prog W .any base 3 v2) (h2 : DataW.Trod enc Try.prog W 0 (fun _ => true) true 3 v2 d2 p2)
    (v3 : Value) (d3 : DataW H) (p3 : List MemPlace) (o3 : Value.okWide Try.prog W .any base 3 v3) (h3 : DataW.Trod enc Try.prog W 0 (fun _ => true) true 3 v3 d3 p3) :
    Calls Try.prog 3 #[v0, v1, v2, v3] W fun e w' => e = .returned (.bool true) ∧ Below W.heap.size W w' := by
  obtain ⟨a, xs, ca, rfl, ha, _, hxl⟩ := open_nums Try.underlying22 Try.underlying3 (by kernel_rfl) o0 h0
  obtain ⟨b, ls, cb, rfl, hb, hx, hl⟩ := open_nums Try.underlying22 Try.underlying3 (by kernel_rfl) o1 h1
  obtain ⟨p, rfl, rfl, rfl, w2⟩ := open_int Try.underlying3 o2 h2
  obtain ⟨q, rfl, rfl, rfl, w3⟩ := open_int Try.underlying3 o3 h3
  by_cases hlong : 30 < xs.length
  · exact long a b xs ls ca cb p q W hlong
  · exact core a b xs ls ca cb p q W (by omega) ha hb (fun x hx2 => int_of (hx x hx2)) (by unfold maxLen at hl; exact hl) (int_of w2) (int_of w3)
end Go.Proofs.Ytfpekljghcffbaa.regionShapesLaw
