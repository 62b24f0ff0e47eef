/-
  AssemblerBack: for every two lists of ints the law returns true.
-/
import Derived.Test.YtejbmidgnagcdaaDoorPg7
import Derived.Test.YtejbmidgnagcdaaDoorTx
import Derived.Test.YtejbmidgnagcdaaDoorOpenInts
namespace Go.Proofs.YtejbmidgnagcdaaDoor.assemblerBackLaw
open Go.RowKit Go.ChangeShapes Go.WideShapes Go.ChangeAt
set_option maxRecDepth 100000

set_option maxHeartbeats 4000000 in
theorem core (a b : Option Addr) (xs ys : List Int) (ca cb : Nat) (w : World) (ht : Tabs w) (ho : OpsTab w) (ha : IntsAt .i64 w a xs) (hb : IntsAt .i64 w b ys) (hx : ∀ x ∈ xs, -9223372036854775808 ≤ x ∧ x ≤ 9223372036854775807) (hxl : xs.length ≤ 9223372036854775807) (hy : ∀ x ∈ ys, -9223372036854775808 ≤ x ∧ x ≤ 9223372036854775807) (hyl : ys.length ≤ 9223372036854775807) :
    Calls Tryd.prog 3 #[.slice a xs.length ca, .slice b ys.length cb] w fun e w' => e = .returned (.bool true) ∧ Below w.heap.size w w' := by
  have HN1 := Lib.hid (make_New a xs ca w ha hx hxl)
  have HN2 := Lib.hid (fun W (h : Below w.heap.size w W) => make_New b ys cb W (ints_later7 hb h) hy hyl)
  have HTB := Lib.hid (fun W (h : Below w.heap.size w W) => And.intro (ht.later h) (ho.later h))
  clear ha hb hx hy hxl hyl ht ho
  go_enter Tryd.func3, Tryd.ntmps3
  go_wp2_with fail
  refine HN1.out.mono ?_
  rintro e w1 ⟨rfl, hd1, hb1⟩
  go_wp2_with fail
  refine (prog_in _ _ hd1).mono ?_
  rintro e w2 ⟨ac, a2, ad, cc, c2, cd, C, s, L, rfl, hg, hp2, hg2⟩
  have hB2 : Below w.heap.size w w2 := hb1.grown hg2 hb1.size (fun k hk => by cases hk; omega)
  clear HN1 hd1 hb1 hg2
  go_wp2_with fail
  refine (HN2.out _ hB2).mono ?_
  rintro e w3 ⟨rfl, hd3, hb3⟩
  go_wp2_with fail
  refine (prog_in _ _ hd3).mono ?_
  rintro e w4 ⟨ac', a2', ad', cc', c2', cd', C', s', L', rfl, hg', hp4', hg4⟩
  have hb4 : Below w2.heap.size w2 w4 := hb3.grown hg4 hb3.size (fun k hk => by cases hk; omega)
  have hB4 : Below w.heap.size w w4 := hB2.trans (hb4.mono hB2.size)
  have hp4 := hp2.later hb4
  clear HN2 hd3 hb3 hg4 hp2 hB2 hb4
  have X1 := Blk.new (W := w4) #[.slice ac C.length cc, .slice a2 s.length c2, .slice ad L.length cd] 26
  have hA1 := Below.alloc (Below.refl w4.heap.size w4) (Nat.le_refl _) (.cells #[.slice ac C.length cc, .slice a2 s.length c2, .slice ad L.length cd] 26)
  have Y2 := Blk.new (W := w4.alloc (.cells #[.slice ac C.length cc, .slice a2 s.length c2, .slice ad L.length cd] 26)) #[.slice ac' C'.length cc', .slice a2' s'.length c2', .slice ad' L'.length cd'] 26
  have hA2 := Below.alloc (Below.refl (w4.alloc (.cells #[.slice ac C.length cc, .slice a2 s.length c2, .slice ad L.length cd] 26)).heap.size (w4.alloc (.cells #[.slice ac C.length cc, .slice a2 s.length c2, .slice ad L.length cd] 26))) (Nat.le_refl _) (.cells #[.slice ac' C'.length cc', .slice a2' s'.length c2', .slice ad' L'.length cd'] 26)
  have hA3 := hA1.trans (hA2.mono hA1.size)
  have X2 := X1.later hA2
  have P2 := hp4.later hA3
  have Q2 := hp4'.later hA3
  have hB5 := hB4.trans (hA3.mono hB4.size)
  rw [show (w4.alloc (.cells #[.slice ac C.length cc, .slice a2 s.length c2, .slice ad L.length cd] 26)).heap.size = w4.heap.size + 1 by simp] at Y2
  clear X1 hA1 hA2 hA3 hB4 hp4 hp4'
  go_upto_region 2 with fail
  generalize (w4.alloc (.cells #[.slice ac C.length cc, .slice a2 s.length c2, .slice ad L.length cd] 26)).alloc (.cells #[.slice ac' C'.length cc', .slice a2' s'.length c2', .slice ad' L'.length cd'] 26) = W5 at *
  generalize w4.heap.size = Z at *
  have hlen := hg.lens
  have hlen' := hg'.lens
  have hv : 1 ≤ s.length ∧ s.length ≤ 4 ∧ ∀ x ∈ s, 1 ≤ x ∧ x ≤ 32 := of_decide_eq_true hg.1.1
  have HPr1 := Lib.hid (fun W (h : Below w.heap.size w W) (hp : PgAt W ac a2 ad C s L) => asm_Print ac a2 ad C s L cc c2 cd W (HTB.out W h).1 (HTB.out W h).2 hp.code hp.sizes hp.data hg.1 hg.2)
  have HPr2 := Lib.hid (fun W (h : Below w.heap.size w W) (hp : PgAt W ac' a2' ad' C' s' L') => asm_Print ac' a2' ad' C' s' L' cc' c2' cd' W (HTB.out W h).1 (HTB.out W h).2 hp.code hp.sizes hp.data hg'.1 hg'.2)
  have hsn := ints_of_nats s hv.2.2
  have hnl : (natsS s).length = s.length := by simp [natsS]
  have HPa : Hid (∀ W, Below w.heap.size w W → Calls Tryd.prog 9 #[.string (textFrom ⟨#[]⟩ (linesX labl C s L))] W fun e w' => ∃ bc b2 bd dc d2 dd, e = .returned (.tuple #[.agg #[.slice bc C.length dc, .slice b2 s.length d2, .slice bd L.length dd], .int .i64 (((linesX labl C s L).length : Nat) : Int), .int .i64 0]) ∧ PgAt w' bc b2 bd C s L ∧ Below W.heap.size W w') := Lib.hid (fun W h => (asm_Parse_text labl labl_ok C s L hg.1 hg.2 W (HTB.out W h).1 (HTB.out W h).2).mono fun e w' hh => by
    obtain ⟨bc, b2, bd, dc, d2, dd, he, k1, k2, k3, hb⟩ := hh
    rw [hnl] at he
    rw [hsn] at k2
    exact ⟨bc, b2, bd, dc, d2, dd, he, ⟨k1, k2, k3⟩, hb⟩)
  have HCt := Lib.hid (fun W => Tryd.strings_Count_one (textFrom ⟨#[]⟩ (linesX labl C s L)) 10 W)
  rw [count_lines _ (linesX_clean labl labl_ok C s L ((good_split C s L).1 hg.1).2)] at HCt
  have HS1 : Hid (∀ W bc b2 bd dc d2 dd, PgAt W bc b2 bd C s L → PgAt W ac a2 ad C s L → Calls Tryd.prog 11 #[.agg #[.slice bc C.length dc, .slice b2 s.length d2, .slice bd L.length dd], .agg #[.slice ac C.length cc, .slice a2 s.length c2, .slice ad L.length cd]] W fun e w' => e = .returned (.bool true) ∧ Below W.heap.size W w') :=
    Lib.hid (fun W bc b2 bd dc d2 dd h1 h2 => (ref07_Same bc b2 bd ac a2 ad C C s s L L dc d2 dd cc c2 cd W h1.code h1.sizes h1.data h2.code h2.sizes h2.data (by omega) (by omega) (by omega) (fun l hl => by have := hlen.2.2.2 l hl; omega) (fun l hl => by have := hlen.2.2.2 l hl; omega)).mono fun _ _ hh => says_true hh ⟨rfl, rfl, rfl⟩)
  have hinj := print_inj C C' s s' L L' hg.1 hg'.1 hg.2 hg'.2
  obtain ⟨q, hq⟩ : ∃ q : Bool, ((printB C s L).toList == (printB C' s' L').toList) = q := ⟨_, rfl⟩
  have hqi : q = true ↔ SamePg C C' s s' L L' := by
    rw [← hq, beq_iff_eq]
    exact ⟨fun e => hinj.1 (toList_inj e), fun e => by rw [hinj.2 e]⟩
  have HS2 : Hid (∀ W, PgAt W ac a2 ad C s L → PgAt W ac' a2' ad' C' s' L' → Calls Tryd.prog 11 #[.agg #[.slice ac C.length cc, .slice a2 s.length c2, .slice ad L.length cd], .agg #[.slice ac' C'.length cc', .slice a2' s'.length c2', .slice ad' L'.length cd']] W fun e w' => e = .returned (.bool q) ∧ Below W.heap.size W w') :=
    Lib.hid (fun W h1 h2 => (ref07_Same ac a2 ad ac' a2' ad' C C' s s' L L' cc c2 cd cc' c2' cd' W h1.code h1.sizes h1.data h2.code h2.sizes h2.data (by omega) (by omega) (by omega) (fun l hl => by have := hlen.2.2.2 l hl; omega) (fun l hl => by have := hlen'.2.2.2 l hl; omega)).mono fun _ _ ⟨g, he, hi, hb⟩ => by
      have : g = q := by
        cases g <;> cases q <;> simp_all
      rw [this] at he
      exact ⟨he, hb⟩)
  have HAw := Lib.hid (fun W (h : Below w.heap.size w W) => law07_awake W (HTB.out W h).1 (HTB.out W h).2)
  rw [← print_text] at HPa HCt
  generalize (linesX labl C s L).length = n at *
  generalize printB C s L = sT at *
  generalize printB C' s' L' = tT at *
  have HQ := Lib.hid hq
  clear hlen hlen' hv hinj hq hqi hg hg' HTB hsn hnl
  obtain ⟨x0, x1, x2⟩ := (⟨(X2 0 (by simp)).1, (X2 1 (by simp)).1, (X2 2 (by simp)).1⟩ : _ ∧ _ ∧ _)
  go_upto_region 3 with (go_at_call 8; (with_reducible refine (HPr1.out _ hB5 P2).mono ?_); rintro e w6 ⟨rfl, hb6⟩)
  have X3 := X2.later hb6
  have Y3 := Y2.later hb6
  have P3 := P2.later hb6
  have Q3 := Q2.later hb6
  have hB6 := hB5.trans (hb6.mono hB5.size)
  clear X2 Y2 P2 Q2 hb6 hB5 HPr1 x0 x1 x2
  obtain ⟨y0, y1, y2⟩ := (⟨(Y3 0 (by simp)).1, (Y3 1 (by simp)).1, (Y3 2 (by simp)).1⟩ : _ ∧ _ ∧ _)
  go_upto_region 4 with (go_at_call 8; (with_reducible refine (HPr2.out _ hB6 Q3).mono ?_); rintro e w7 ⟨rfl, hb7⟩)
  have X4 := X3.later hb7
  have Y4 := Y3.later hb7
  have P4 := P3.later hb7
  have Q4 := Q3.later hb7
  have hB7 := hB6.trans (hb7.mono hB6.size)
  clear X3 Y3 P3 Q3 hb7 hB6 HPr2 y0 y1 y2
  go_upto_region 5 with (go_at_call 9; (with_reducible refine (HPa.out _ hB7).mono ?_); rintro e w8 ⟨bc, b2, bd, dc, d2, dd, rfl, hp8, hb8⟩)
  have V9 := Blk.new (W := w8) #[.slice bc C.length dc, .slice b2 s.length d2, .slice bd L.length dd] 26
  have hA9 := Below.alloc (Below.refl w8.heap.size w8) (Nat.le_refl _) (.cells #[.slice bc C.length dc, .slice b2 s.length d2, .slice bd L.length dd] 26)
  have hb9 := hb8.trans (hA9.mono hb8.size)
  have X9 := X4.later hb9
  have Y9 := Y4.later hb9
  have P9 := P4.later hb9
  have Q9 := Q4.later hb9
  have R9 := hp8.later hA9
  have hB9 := hB7.trans (hb9.mono hB7.size)
  clear X4 Y4 P4 Q4 hb8 hb9 hA9 hB7 HPa hp8
  generalize w8.alloc (.cells #[.slice bc C.length dc, .slice b2 s.length d2, .slice bd L.length dd] 26) = W9 at *
  generalize w8.heap.size = V at *
  obtain ⟨x0, x1, x2⟩ := (⟨(X9 0 (by simp)).1, (X9 1 (by simp)).1, (X9 2 (by simp)).1⟩ : _ ∧ _ ∧ _)
  obtain ⟨v0, v1, v2⟩ := (⟨(V9 0 (by simp)).1, (V9 1 (by simp)).1, (V9 2 (by simp)).1⟩ : _ ∧ _ ∧ _)
  have hq := HQ.out
  have HB9 := Lib.hid hB9
  clear hB9
  go_wp2_with (first
    | (go_at_call 10; (with_reducible refine (HCt.out _).mono ?_); rintro e w10 ⟨rfl, rfl⟩)
    | (go_at_call 11; (with_reducible refine (HS1.out _ _ _ _ _ _ _ R9 P9).mono ?_); rintro e w11 ⟨rfl, hb11⟩; have X11 := X9.later hb11; have Y11 := Y9.later hb11; have P11 := P9.later hb11; have Q11 := Q9.later hb11; have xx0 := (X11 0 (by simp)).1; have xx1 := (X11 1 (by simp)).1; have xx2 := (X11 2 (by simp)).1; have yy0 := (Y11 0 (by simp)).1; have yy1 := (Y11 1 (by simp)).1; have yy2 := (Y11 2 (by simp)).1)
    | (go_at_call 11; (with_reducible refine (HS2.out _ P11 Q11).mono ?_); rintro e w12 ⟨rfl, hb12⟩)
    | (go_at_call 12; (with_reducible refine (HAw.out _ ((HB9.out.trans (hb11.mono HB9.out.size)).trans (hb12.mono (HB9.out.trans (hb11.mono HB9.out.size)).size))).mono ?_); rintro e w13 ⟨rfl, hb13⟩))
  go_ret
  have hB12 := (HB9.out.trans (hb11.mono HB9.out.size)).trans (hb12.mono (HB9.out.trans (hb11.mono HB9.out.size)).size)
  exact ⟨rfl, hB12.trans (hb13.mono hB12.size)⟩

theorem walk {H : Type} (enc : TypeId × Value → H) (W : World) (base : Nat) (hsh : W.ShapedOpen Tryd.prog) (hL : laidMet Tryd.prog Rows.assemblerBackRow.laid W) (v0 : Value) (d0 : DataW H) (p0 : List MemPlace) (o0 : Value.okWide Tryd.prog W .any base 22 v0) (h0 : DataW.Trod enc Tryd.prog W 0 (fun _ => true) true 22 v0 d0 p0)
    (v1 : Value) (d1 : DataW H) (p1 : List MemPlace) (o1 : Value.okWide Tryd.prog W .any base 22 v1) (h1 : DataW.Trod enc Tryd.prog W 0 (fun _ => true) true 22 v1 d1 p1) :
    Calls Tryd.prog 3 #[v0, v1] W fun e w' => e = .returned (.bool true) ∧ Below W.heap.size W w' := by
  obtain ⟨a, xs, ca, rfl, ha, hx, hl⟩ := open_nums Tryd.underlying22 Tryd.underlying3 (by kernel_rfl) o0 h0
  obtain ⟨b, ys, cb, rfl, hb, hy, hm⟩ := open_nums Tryd.underlying22 Tryd.underlying3 (by kernel_rfl) o1 h1
  have ht := tabs_reads hsh (Lib.laidMet.reads hL (by simp [Rows.assemblerBackRow]))
  have ho := opsTab_of (Lib.laidMet.reads hL (by simp [Rows.assemblerBackRow]))
  exact core a b xs ys ca cb W ht ho ha hb (fun x hx2 => int_of (hx x hx2)) (by unfold maxLen at hl; exact hl) (fun y hy2 => int_of (hy y hy2)) (by unfold maxLen at hm; exact hm)
end Go.Proofs.YtejbmidgnagcdaaDoor.assemblerBackLaw
