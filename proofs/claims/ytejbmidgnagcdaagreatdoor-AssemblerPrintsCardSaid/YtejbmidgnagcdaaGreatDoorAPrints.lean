/-
  AssemblerPrints: for every program, list of ints and three ints the law returns true.
-/
import Derived.Test.YtejbmidgnagcdaaGreatDoorBent7
import Derived.Test.YtejbmidgnagcdaaGreatDoorOpen7
import Derived.Test.YtejbmidgnagcdaaGreatDoorShort7
import Derived.Test.YtejbmidgnagcdaaGreatDoorPrint7
import Derived.Lib.SmallJoins
namespace Go.Proofs.YtejbmidgnagcdaaGreatDoor.assemblerPrintsLaw
open Go.RowKit Go.ChangeShapes Go.WideShapes Go.ChangeAt Go.Sort Go.Joins
set_option maxRecDepth 100000

/-- A small program in memory. -/
def SmallAt (W : World) (ac a2 ad : Option Addr) (C : List Ins) (s : List Int) (L : List (List Nat)) : Prop :=
  PgAt W ac a2 ad C s L ∧ C.length ≤ 1000000 ∧ s.length ≤ 1000000 ∧ L.length ≤ 1000000 ∧ ∀ l ∈ L, l.length ≤ 1000000 ∧ ∀ v ∈ l, v < 65536

theorem SmallAt.later {W W' : World} {ac a2 ad : Option Addr} {C : List Ins} {s : List Int} {L : List (List Nat)} (h : SmallAt W ac a2 ad C s L) (hb : Below W.heap.size W W') : SmallAt W' ac a2 ad C s L := ⟨h.1.later hb, h.2⟩

/-- Both print it alike. -/
theorem both (ac a2 ad : Option Addr) (C : List Ins) (s : List Int) (L : List (List Nat)) (cc c2 cd : Nat) (w : World) (ht : Tabs w) (ho : OpsTab w) (h : SmallAt w ac a2 ad C s L) :
    ∃ (t : ByteArray) (e : Int), ∀ W, Below w.heap.size w W →
      (Calls Tryz.prog 10 #[.agg #[.slice ac C.length cc, .slice a2 s.length c2, .slice ad L.length cd]] W fun x W' => x = .returned (.tuple #[.string t, .int .i64 e]) ∧ Below W.heap.size W W') ∧
      (Calls Tryz.prog 11 #[.agg #[.slice ac C.length cc, .slice a2 s.length c2, .slice ad L.length cd]] W fun x W' => x = .returned (.tuple #[.string t, .int .i64 e]) ∧ Below W.heap.size W W') := by
  obtain ⟨hp, l1, l2, l3, l4⟩ := h
  by_cases hg : GoodPg C s L
  · refine ⟨printB C s L, 0, fun W hb => ?_⟩
    have hq := hp.later hb
    exact ⟨asm_Print ac a2 ad C s L cc c2 cd W (ht.later hb) (ho.later hb) hq.code hq.sizes hq.data hg (fun l hl => (l4 l hl).2), ref07_Print ac a2 ad C s L cc c2 cd W (ht.later hb) hq.code hq.sizes hq.data hg (fun l hl => (l4 l hl).2)⟩
  · refine ⟨⟨#[]⟩, 1, fun W hb => ?_⟩
    have hq := hp.later hb
    exact ⟨asm_Print_none ac a2 ad C s L cc c2 cd W (ho.later hb) hq.code hq.sizes hq.data l1 l2 (fun l hl => (l4 l hl).1) hg, ref07_Print_none ac a2 ad C s L cc c2 cd W hq.code hq.sizes hq.data l1 l2 l3 (fun l hl => (l4 l hl).1) hg⟩

/-- The three programs of the law: the cells of block X, three each. -/
def ThreeAt (W : World) (X : Nat) : Prop :=
  ∀ j, j < 3 → ∃ ac cc C a2 c2 s ad cd L, W.cell? ⟨X, j * 3, none⟩ = some (.slice ac (List.length C) cc) ∧ W.cell? ⟨X, j * 3 + 1, none⟩ = some (.slice a2 (List.length s) c2) ∧ W.cell? ⟨X, j * 3 + 2, none⟩ = some (.slice ad (List.length L) cd) ∧ SmallAt W ac a2 ad C s L

theorem three_new {W : World} {T : TypeId} {ac a2 ad bc b2 bd ec e2 ed : Option Addr} {C D E : List Ins} {s t r : List Int} {L M N : List (List Nat)} {cc c2 cd dc d2 dd fc f2 fd : Nat} (h0 : SmallAt W ac a2 ad C s L) (h1 : SmallAt W bc b2 bd D t M) (h2 : SmallAt W ec e2 ed E r N) :
    ThreeAt (W.alloc (.cells #[.slice ac C.length cc, .slice a2 s.length c2, .slice ad L.length cd, .slice bc D.length dc, .slice b2 t.length d2, .slice bd M.length dd, .slice ec E.length fc, .slice e2 r.length f2, .slice ed N.length fd] T)) W.heap.size := by
  intro j hj
  have B := Blk.new (W := W) #[.slice ac C.length cc, .slice a2 s.length c2, .slice ad L.length cd, .slice bc D.length dc, .slice b2 t.length d2, .slice bd M.length dd, .slice ec E.length fc, .slice e2 r.length f2, .slice ed N.length fd] T
  have hA := Below.alloc (Below.refl W.heap.size W) (Nat.le_refl _) (.cells #[.slice ac C.length cc, .slice a2 s.length c2, .slice ad L.length cd, .slice bc D.length dc, .slice b2 t.length d2, .slice bd M.length dd, .slice ec E.length fc, .slice e2 r.length f2, .slice ed N.length fd] T)
  rcases (by omega : j = 0 ∨ j = 1 ∨ j = 2) with rfl | rfl | rfl
  · exact ⟨ac, cc, C, a2, c2, s, ad, cd, L, (B 0 (by simp)).1, (B 1 (by simp)).1, (B 2 (by simp)).1, h0.later hA⟩
  · exact ⟨bc, dc, D, b2, d2, t, bd, dd, M, (B 3 (by simp)).1, (B 4 (by simp)).1, (B 5 (by simp)).1, h1.later hA⟩
  · exact ⟨ec, fc, E, e2, f2, r, ed, fd, N, (B 6 (by simp)).1, (B 7 (by simp)).1, (B 8 (by simp)).1, h2.later hA⟩

theorem ThreeAt.later {W W' : World} {X : Nat} (h : ThreeAt W X) (hb : Below W.heap.size W W') : ThreeAt W' X := fun j hj => by
  obtain ⟨ac, cc, C, a2, c2, s, ad, cd, L, k0, k1, k2, k3⟩ := h j hj
  exact ⟨ac, cc, C, a2, c2, s, ad, cd, L, cell_later hb k0, cell_later hb k1, cell_later hb k2, k3.later hb⟩

set_option maxHeartbeats 4000000 in
theorem core (ac a2 ad : Option Addr) (C : List Ins) (s : List Int) (L : List (List Nat)) (cc c2 cd : Nat) (a : Option Addr) (xs : List Int) (ca : Nat) (what at_ by_ : Int) (w : World) (ht : Tabs w) (ho : OpsTab w) (hp : PgAt w ac a2 ad C s L) (hu : ∀ l ∈ L, ∀ v ∈ l, v < 65536) (hll : L.length ≤ 9223372036854775807)
    (ha : IntsAt .i64 w a xs) (hx : ∀ x ∈ xs, -9223372036854775808 ≤ x ∧ x ≤ 9223372036854775807) (hxl : xs.length ≤ 9223372036854775807)
    (h1 : -9223372036854775808 ≤ what) (h2 : what ≤ 9223372036854775807) (h3 : -9223372036854775808 ≤ at_) (h4 : at_ ≤ 9223372036854775807) (h5 : -9223372036854775808 ≤ by_) (h6 : by_ ≤ 9223372036854775807) :
    Calls Tryz.prog 3 #[.agg #[.slice ac C.length cc, .slice a2 s.length c2, .slice ad L.length cd], .slice a xs.length ca, .int .i64 what, .int .i64 at_, .int .i64 by_] w fun e w' => e = .returned (.bool true) ∧ Below w.heap.size w w' := by
  have HTB := Lib.hid (fun W (h : Below w.heap.size w W) => And.intro (ht.later h) (ho.later h))
  have hA1 := Below.alloc (Below.refl w.heap.size w) (Nat.le_refl _) (.cells #[.slice ac C.length cc, .slice a2 s.length c2, .slice ad L.length cd] 26)
  have X1 := Blk.new (W := w) #[.slice ac C.length cc, .slice a2 s.length c2, .slice ad L.length cd] 26
  have HSh := Lib.hid (fun W (h : Below w.heap.size w W) => make_Short ac a2 ad C.length s.length L cc c2 cd W (hp.data.later h) hll)
  have HAw := Lib.hid (fun W (h : Below w.heap.size w W) => law07_awake W (HTB.out W h).1 (HTB.out W h).2)
  have HNew := Lib.hid (fun W (h : Below w.heap.size w W) => make_New a xs ca W (ints_later7 ha h) hx hxl)
  have HBe := Lib.hid (fun (ac a2 ad : Option Addr) C s L cc c2 cd W (h1' : PgAt W ac a2 ad C s L) (h2' : GoodU C s L) (h3' : L.length ≤ cd) => law07_bent ac a2 ad C s L cc c2 cd what at_ by_ W h1' h2' h3' h1 h2 h5 h6 h3 h4)
  have HM := Lib.hid (fun W => make_Mod by_ 28 W (by omega) (by omega) h5 h6)
  have HN1 := Lib.hid (fun v W (h : Below w.heap.size w W) => asm_Name v W (HTB.out W h).2)
  have HN2 := Lib.hid (fun v W (h : Below w.heap.size w W) => ref07_Name v W (HTB.out W h).1)
  have hm0 : 0 ≤ by_ % 28 ∧ by_ % 28 < 28 := by omega
  generalize by_ % 28 = m at HM hm0
  have hmw : IntKind.i64.wrap (m - 1) = m - 1 := IntWalk.i64_in _ (by omega)
  have HP := Lib.hid hp
  have HU := Lib.hid hu
  clear ht ho hp hu hll ha hx hxl h1 h2 h3 h4 h5 h6 hm0
  go_enter Tryz.func3, Tryz.ntmps3
  go_upto_region 1 with fail
  generalize w.alloc (.cells #[.slice ac C.length cc, .slice a2 s.length c2, .slice ad L.length cd] 26) = W1 at *
  obtain ⟨x0, x1, x2⟩ := (⟨(X1 0 (by simp)).1, (X1 1 (by simp)).1, (X1 2 (by simp)).1⟩ : _ ∧ _ ∧ _)
  have HB1 := Lib.hid hA1
  have HX1 := Lib.hid X1
  clear hA1 X1
  by_cases hsh : ShortPg C.length s.length L
  · have HS := Lib.hid ((HSh.out W1 HB1.out).mono fun e w' h => says_true h hsh)
    have HSm : Hid (SmallAt W1 ac a2 ad C s L) := Lib.hid ⟨HP.out.later HB1.out, by have := hsh.2.1; omega, by have := hsh.2.2.1; omega, by have := hsh.2.2.2; omega, fun l hl => ⟨by have := hsh.1 l hl; omega, HU.out l hl⟩⟩
    clear hsh HSh HP HU
    go_upto_region 3 with (go_at_call 5; (with_reducible refine HS.out.mono ?_); rintro e W2 ⟨rfl, hb2⟩)
    have HB2 := Lib.hid (HB1.out.trans (hb2.mono HB1.out.size))
    have HS2 := Lib.hid (HSm.out.later hb2)
    have HX2 := Lib.hid (HX1.out.later hb2)
    clear hb2 HS HSm HB1 HX1 x0 x1 x2
    go_wp2_with fail
    refine (HNew.out _ HB2.out).mono ?_
    rintro e W3 ⟨rfl, hd3, hb3⟩
    go_wp2_with fail
    refine (prog_in2 _ _ hd3).mono ?_
    rintro e W4 ⟨bc, b2, bd, dc, d2, dd, D, t, M, rfl, hg, hq4, hg4, hcap⟩
    have hb4 : Below W2.heap.size W2 W4 := hb3.grown hg4 hb3.size (fun k hk => by cases hk; omega)
    have Y4 := Blk.new (W := W4) #[.slice bc D.length dc, .slice b2 t.length d2, .slice bd M.length dd] 26
    have hA4 := Below.alloc (Below.refl W4.heap.size W4) (Nat.le_refl _) (.cells #[.slice bc D.length dc, .slice b2 t.length d2, .slice bd M.length dd] 26)
    have hb5 := hb4.trans (hA4.mono hb4.size)
    have Q5 := hq4.later hA4
    have X5 := HX2.out.later hb5
    have HS5 := Lib.hid (HS2.out.later hb5)
    have HB5 := Lib.hid (HB2.out.trans (hb5.mono HB2.out.size))
    clear hd3 hb3 hg4 hb4 hA4 hb5 hq4 HX2 HS2 HB2
    go_upto_region 4 with fail
    generalize W4.alloc (.cells #[.slice bc D.length dc, .slice b2 t.length d2, .slice bd M.length dd] 26) = W5 at *
    generalize W4.heap.size = Z at *
    have y0 : W5.cell? ⟨Z, 0, none⟩ = some (.slice bc D.length dc) := (Y4 0 (by simp)).1
    have y1 : W5.cell? ⟨Z, 1, none⟩ = some (.slice b2 t.length d2) := (Y4 1 (by simp)).1
    have y2 : W5.cell? ⟨Z, 2, none⟩ = some (.slice bd M.length dd) := (Y4 2 (by simp)).1
    have x0 : W5.cell? ⟨w.heap.size, 0, none⟩ = some (.slice ac C.length cc) := (X5 0 (by simp)).1
    have x1 : W5.cell? ⟨w.heap.size, 1, none⟩ = some (.slice a2 s.length c2) := (X5 1 (by simp)).1
    have x2 : W5.cell? ⟨w.heap.size, 2, none⟩ = some (.slice ad L.length cd) := (X5 2 (by simp)).1
    have HQ5 : Hid (SmallAt W5 bc b2 bd D t M) := Lib.hid ⟨Q5, by have := hg.lens.1; omega, by have := hg.lens.2.1; omega, by have := hg.lens.2.2.1; omega, fun l hl => ⟨by have := hg.lens.2.2.2 l hl; omega, hg.2 l hl⟩⟩
    have HBx : Hid (∀ W, Below W5.heap.size W5 W → Calls Tryz.prog 9 #[.agg #[.slice bc D.length dc, .slice b2 t.length d2, .slice bd M.length dd], .int .i64 what, .int .i64 at_, .int .i64 by_] W (GivesAny W)) := Lib.hid (fun W h => HBe.out bc b2 bd D t M dc d2 dd W (Q5.later h) hg hcap)
    clear Y4 X5 Q5 hg hcap HBe
    go_cut [32, 33, 34] (fun v32 v33 v34 wx => ∃ X, v32 = .slice (some ⟨X, 0, none⟩) 3 3 ∧ v33 = .int .i64 3 ∧ v34 = .int .i64 0 ∧ ThreeAt wx X ∧ Below W5.heap.size W5 wx)
    case first =>
      go_region_with (go_at_call 9; (refine (HBx.out W5.drew (Below.drew (Below.refl _ _))).mono ?_; rintro e W6 ⟨ec, f1, E, e2, f2, r, ed, f3, N, rfl, hp6, l1, l2, l3, l4, hb6⟩; have x0' : W6.cell? ⟨w.heap.size, 0, none⟩ = some (.slice ac C.length cc) := cell_later hb6 x0; have x1' : W6.cell? ⟨w.heap.size, 1, none⟩ = some (.slice a2 s.length c2) := cell_later hb6 x1; have x2' : W6.cell? ⟨w.heap.size, 2, none⟩ = some (.slice ad L.length cd) := cell_later hb6 x2; have y0' : W6.cell? ⟨Z, 0, none⟩ = some (.slice bc D.length dc) := cell_later hb6 y0; have y1' : W6.cell? ⟨Z, 1, none⟩ = some (.slice b2 t.length d2) := cell_later hb6 y1; have y2' : W6.cell? ⟨Z, 2, none⟩ = some (.slice bd M.length dd) := cell_later hb6 y2; have HB6 : Hid (Below W5.heap.size W5 W6) := Lib.hid ((Below.drew (Below.refl W5.heap.size W5)).trans hb6); have HS6 : Hid (SmallAt W6 ec e2 ed E r N) := Lib.hid ⟨hp6, by omega, by omega, by omega, fun l hl => ⟨by have := (l4 l hl).1; omega, (l4 l hl).2⟩⟩; clear hb6 hp6 l1 l2 l3 l4))
      all_goals
        go_wp2_with fail
        go_meet
        exact ⟨_, rfl, rfl, rfl, three_new (HS5.out.later HB6.out) (HQ5.out.later HB6.out) HS6.out, HB6.out.alloc HB6.out.size _⟩
    case rest =>
      obtain ⟨X, rfl, rfl, rfl, h3, hb7⟩ := hcut
      have HT3 := Lib.hid h3
      have HB7 := Lib.hid (HB5.out.trans (hb7.mono HB5.out.size))
      clear h3 hb7 HB5 HS5 HQ5 HBx x0 x1 x2 y0 y1 y2 HNew
      go_wp2_with fail
      go_loopw [34] (fun c wr => ∃ j : Nat, j ≤ 3 ∧ c = .int .i64 j ∧ Below wc.heap.size wc wr) (fun c _ => 3 - (intOf c).toNat)
      case atStart => exact ⟨0, by omega, rfl, Below.refl _ _⟩
      obtain ⟨j, hj, rfl, hw⟩ := hrel
      have HW := Lib.hid (HB7.out.trans (hw.mono HB7.out.size))
      by_cases hlt : j < 3
      · obtain ⟨qc, n1, F, q2, n2, u, qd, n3, G, k0, k1, k2, hsm⟩ := (HT3.out.later hw) j hlt
        obtain ⟨tx, er, hpp⟩ := both qc q2 qd F u G n1 n2 n3 wr (HTB.out wr HW.out).1 (HTB.out wr HW.out).2 hsm
        have HPP := Lib.hid hpp
        have i1 : (j : Int) < 3 := by omega
        have i2 : 0 ≤ (j : Int) := by omega
        have HWc := Lib.hid hw
        clear hpp hsm hw HT3 HN1 HN2 HM HAw HTB
        go_upto_region 7 with fail
        have X8 := Blk.new (W := wr) #[.slice qc F.length n1, .slice q2 u.length n2, .slice qd G.length n3] 26
        have hA8 := Below.alloc (Below.refl wr.heap.size wr) (Nat.le_refl _) (.cells #[.slice qc F.length n1, .slice q2 u.length n2, .slice qd G.length n3] 26)
        have HW8 := Lib.hid (HWc.out.trans (hA8.mono HWc.out.size))
        have HP1 := Lib.hid ((HPP.out _ hA8).1)
        have HP2 := Lib.hid (fun W (h : Below _ _ W) => (HPP.out W (hA8.trans (h.mono hA8.size))).2)
        clear k0 k1 k2 hA8 HPP
        generalize wr.alloc (.cells #[.slice qc F.length n1, .slice q2 u.length n2, .slice qd G.length n3] 26) = W8 at *
        generalize wr.heap.size = Y at *
        have z0 := (X8 0 (by simp)).1
        have z1 := (X8 1 (by simp)).1
        have z2 := (X8 2 (by simp)).1
        go_wp2_with (first
          | (go_at_call 10; (with_reducible refine HP1.out.mono ?_); rintro e w9 ⟨rfl, hb9⟩; have X9 := X8.later hb9; have z0' := (X9 0 (by simp)).1; have z1' := (X9 1 (by simp)).1; have z2' := (X9 2 (by simp)).1; have HB9 := Lib.hid hb9; clear hb9 X9)
          | (go_at_call 11; (with_reducible refine (HP2.out _ HB9.out).mono ?_); rintro e w10 ⟨rfl, hb10⟩; have HB10 := Lib.hid (HB9.out.trans (hb10.mono HB9.out.size)); clear hb10))
        refine ⟨⟨j + 1, by omega, by go_num, HW8.out.trans (HB10.out.mono HW8.out.size)⟩, ?_⟩
        simp [intOf]
        omega
      · obtain rfl : j = 3 := by omega
        have hbw := HW.out
        clear hw hlt hj HT3 HTB HB7 HW
        go_wp2_with (first
          | (go_at_call 14; (with_reducible refine (HM.out _).mono ?_); rintro e w' ⟨rfl, rfl⟩)
          | (go_at_call 12; (with_reducible refine (HN1.out _ _ hbw).mono ?_); rintro e w' ⟨rfl, rfl⟩)
          | (go_at_call 13; (with_reducible refine (HN2.out _ _ hbw).mono ?_); rintro e w11 ⟨rfl, hb11⟩; have hbw2 := hbw.trans (hb11.mono hbw.size); clear hb11)
          | (go_at_call 12; (with_reducible refine (HN1.out _ _ hbw2).mono ?_); rintro e w' ⟨rfl, rfl⟩)
          | (go_at_call 13; (with_reducible refine (HN2.out _ _ hbw2).mono ?_); rintro e w12 ⟨rfl, hb12⟩; have hbw3 := hbw2.trans (hb12.mono hbw2.size); clear hb12)
          | (go_at_call 6; (with_reducible refine (HAw.out _ hbw3).mono ?_); rintro e w13 ⟨rfl, hb13⟩))
        go_ret
        exact ⟨rfl, hbw3.trans (hb13.mono hbw3.size)⟩
  · have HS := Lib.hid ((HSh.out W1 HB1.out).mono fun e w' h => says_false h hsh)
    clear hsh HSh HP HU
    go_wp2_with (first
      | (go_at_call 5; (with_reducible refine HS.out.mono ?_); rintro e W2 ⟨rfl, hb2⟩; have HB2 := Lib.hid (HB1.out.trans (hb2.mono HB1.out.size)))
      | (go_at_call 6; (with_reducible refine (HAw.out _ HB2.out).mono ?_); rintro e W3 ⟨rfl, hb3⟩))
    go_ret
    exact ⟨rfl, HB2.out.trans (hb3.mono HB2.out.size)⟩

theorem walk {H : Type} (enc : TypeId × Value → H) (W : World) (base : Nat) (hsh : W.ShapedOpen Tryz.prog) (hL : laidMet Tryz.prog Rows.assemblerPrintsRow.laid W) (v0 : Value) (d0 : DataW H) (p0 : List MemPlace) (o0 : Value.okWide Tryz.prog W .any base 26 v0) (h0 : DataW.Trod enc Tryz.prog W 0 (fun _ => true) true 26 v0 d0 p0)
    (v1 : Value) (d1 : DataW H) (p1 : List MemPlace) (o1 : Value.okWide Tryz.prog W .any base 23 v1) (h1 : DataW.Trod enc Tryz.prog W 0 (fun _ => true) true 23 v1 d1 p1)
    (v2 : Value) (d2 : DataW H) (p2 : List MemPlace) (o2 : Value.okWide Tryz.prog W .any base 3 v2) (h2 : DataW.Trod enc Tryz.prog W 0 (fun _ => true) true 3 v2 d2 p2)
    (v3 : Value) (d3 : DataW H) (p3 : List MemPlace) (o3 : Value.okWide Tryz.prog W .any base 3 v3) (h3 : DataW.Trod enc Tryz.prog W 0 (fun _ => true) true 3 v3 d3 p3)
    (v4 : Value) (d4 : DataW H) (p4 : List MemPlace) (o4 : Value.okWide Tryz.prog W .any base 3 v4) (h4 : DataW.Trod enc Tryz.prog W 0 (fun _ => true) true 3 v4 d4 p4) :
    Calls Tryz.prog 3 #[v0, v1, v2, v3, v4] W fun e w' => e = .returned (.bool true) ∧ Below W.heap.size W w' := by
  obtain ⟨ac, C, cc, a2, s, c2, ad, L, cd, rfl, hp, hu, hll⟩ := open_prog o0 h0
  obtain ⟨a, xs, ca, rfl, ha, hx, hl⟩ := open_nums Tryz.underlying23 Tryz.underlying3 (by kernel_rfl) o1 h1
  obtain ⟨what, rfl, rfl, rfl, w2⟩ := open_int Tryz.underlying3 o2 h2
  obtain ⟨at_, rfl, rfl, rfl, w3⟩ := open_int Tryz.underlying3 o3 h3
  obtain ⟨by_, rfl, rfl, rfl, w4⟩ := open_int Tryz.underlying3 o4 h4
  have ht := tabs_reads hsh (Lib.laidMet.reads hL (by simp [Rows.assemblerPrintsRow]))
  have ho := opsTab_of (Lib.laidMet.reads hL (by simp [Rows.assemblerPrintsRow]))
  exact core ac a2 ad C s L cc c2 cd a xs ca what at_ by_ W ht ho hp hu (by unfold maxLen at hll; exact hll) ha (fun x hx2 => int_of (hx x hx2)) (by unfold maxLen at hl; exact hl) (int_of w2).1 (int_of w2).2 (int_of w3).1 (int_of w3).2 (int_of w4).1 (int_of w4).2
end Go.Proofs.YtejbmidgnagcdaaGreatDoor.assemblerPrintsLaw
