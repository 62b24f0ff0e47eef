/-
  InstrNear: for every list of ints, every place and every byte the law returns true.
-/
import Derived.Test.YtbhpolnoeccofaaIc7
import Derived.Laws.AppendOwnNone
import Derived.Deep.AppendLies
import Derived.Laws.BitsAllLaws
namespace Go.Proofs.Ytbhpolnoeccofaa.instrNearLaw
open Go.RowKit Go.ChangeShapes Go.WideShapes Go.ChangeAt
set_option maxRecDepth 100000

theorem xor_ne (e y : Nat) (h : y ≠ 0) : e ^^^ y ≠ e := fun he => h (by
  have h2 : e ^^^ (e ^^^ y) = e ^^^ e := by rw [he]
  rw [← Nat.xor_assoc, Nat.xor_self, Nat.zero_xor] at h2
  exact h2)

/-- What is decoded is encoded to the same bytes. -/
theorem enc_dec (l : List Nat) (h6 : l.length = 6) (hl : ∀ n ∈ l, n < 256) : encB (decI l) = l := by
  obtain ⟨x0, x1, x2, x3, x4, x5, rfl⟩ := six_of l h6
  have h4 := hl x4 (by simp)
  have h5 := hl x5 (by simp)
  simp [encB, decI]
  omega

/-- A byte changed: no instruction, or another one. -/
theorem near (x : Ins) (hx : vinB x = true) (m y : Nat) (hm : m < (encB x).length) (hy : y < 256) (h0 : y ≠ 0) :
    ((decX ((encB x).set m ((encB x)[m] ^^^ y)) = zI ∧ decE ((encB x).set m ((encB x)[m] ^^^ y)) = 5) ∨
      ∃ z, vinB z = true ∧ sameI z x = false ∧ decX ((encB x).set m ((encB x)[m] ^^^ y)) = z ∧ decE ((encB x).set m ((encB x)[m] ^^^ y)) = 0) := by
  have hl : ∀ n ∈ (encB x).set m ((encB x)[m] ^^^ y), n < 256 := fun n hn => by
    rcases List.mem_or_eq_of_mem_set hn with hn | rfl
    · exact encB_lt x hx n hn
    · have := encB_lt x hx _ (List.getElem_mem hm)
      exact Nat.xor_lt_two_pow (n := 8) this hy
  have h6 : ((encB x).set m ((encB x)[m] ^^^ y)).length = 6 := by rw [List.length_set]; rfl
  have hne : (encB x).set m ((encB x)[m] ^^^ y) ≠ encB x := fun he => by
    have h2 : ((encB x).set m ((encB x)[m] ^^^ y))[m]? = (encB x)[m]? := by rw [he]
    rw [List.getElem?_set_self hm, List.getElem?_eq_getElem hm] at h2
    exact xor_ne _ _ h0 (Option.some.inj h2)
  generalize (encB x).set m ((encB x)[m] ^^^ y) = l at *
  cases hv : vinB (decI l) with
  | false => exact .inl (dec_bad h6 hv)
  | true =>
    refine .inr ⟨decI l, hv, ?_, dec_good h6 hv⟩
    rw [← Bool.not_eq_true, sameI_iff]
    intro he
    exact hne (by rw [← he, enc_dec l h6 hl])

set_option maxHeartbeats 2000000 in
theorem core (a : Option Addr) (xs : List Int) (ca : Nat) (at_ : Int) (y : Nat) (w : World) (ha : IntsAt .i64 w a xs) (hx : GoodInts xs) (h1 : -9223372036854775808 ≤ at_) (h2 : at_ ≤ 9223372036854775807) (hy : y < 256) :
    Calls Try.prog 7 #[.slice a xs.length ca, .int .i64 at_, .int .u8 (y : Int)] w fun e w' => e = .returned (.bool true) ∧ Below w.heap.size w w' := by
  have HN1 := Lib.hid (new_in a xs ca w ha hx)
  have HI := Lib.hid (fun D W (h : Deck W D) => instr_in D W h)
  have HM := Lib.hid (fun W => make_Mod at_ 6 W (by omega) (by omega) h1 h2)
  obtain ⟨m, hm⟩ : ∃ m : Nat, at_ % 6 = (m : Int) := ⟨(at_ % 6).toNat, by omega⟩
  have hm6 : m < 6 := by omega
  rw [hm] at HM
  clear ha hx h1 h2 hm
  go_enter Try.func7, Try.ntmps7
  go_wp2_with fail
  refine HN1.out.mono ?_
  rintro e w1 ⟨rfl, hd1, hb1⟩
  go_wp2_with fail
  refine (HI.out _ _ hd1).mono ?_
  rintro e w2 ⟨x, rfl, hx, hd2, hg2⟩
  have hB2 : Below w.heap.size w w2 := hb1.grown hg2 hb1.size (fun k hk => by cases hk; omega)
  clear HN1 hd1 hb1 hd2 hg2 HI
  have hvx := vin_of hx
  have HE1 := Lib.hid (fun W => instr_Encode x W hvx)
  unfold insV at HE1
  unfold insV
  clear hx
  have X1 := InsBox.new w2 x
  have hA1 := Below.alloc (Below.refl w2.heap.size w2) (Nat.le_refl _) (.cells #[.int .i64 x.op, .int .i64 x.a, .int .i64 x.b, .int .i64 x.c, .int .i64 x.imm] 23)
  have hB3 := hB2.trans (hA1.mono hB2.size)
  clear hA1 hB2
  go_upto_region 2 with fail
  generalize w2.alloc (.cells #[.int .i64 x.op, .int .i64 x.a, .int .i64 x.b, .int .i64 x.c, .int .i64 x.imm] 23) = W3 at *
  generalize w2.heap.size = Z at *
  obtain ⟨e0, e1, e2, e3, e4, _⟩ := ins_cells X1
  go_wp2_with fail
  refine (HE1.out _).mono ?_
  rintro e w4 ⟨Ba, hBa, rfl, hba, hb4⟩
  have X4 := X1.later hb4
  have hZ4 : Z < w4.heap.size := World.block_lt_of_cell? _ _ (X4 0 (by simp [insRow])).1
  have hB4 := hB3.trans (hb4.mono hB3.size)
  clear e0 e1 e2 e3 e4 X1 hb4 hB3 HE1 hBa
  have hlen : (encB x).length = 6 := rfl
  have hD := Lib.hid (near x hvx m y (by rw [hlen]; exact hm6) hy)
  have hD0 := Lib.hid (dec_enc x hvx)
  have hlt := Lib.hid (encB_lt x hvx)
  obtain ⟨i0, hi, hz0, hz1, hz2⟩ := info_parts info_u8
  have hnw := Lib.hid (blk_news hba)
  have hone := Lib.hid (u8s_one (encB x))
  have hnl : (u8s (encB x)).length = 6 * 1 := rfl
  go_wp2_with (at_builtin; refine wpList_append_own _ rfl _ _ 30 rfl w4.heap.size 5 i0 (.int .u8 0) 1 1 Try.underlying30 hi hz0 hz1 hz2 rfl (by decide) _ 0 [] rfl (World.ownsRow_nil _ _ _ _) ⟨Ba, 0, none⟩ 6 6 (u8s (encB x)) rfl hnl hnw.out hone.out (by unfold maxLen; omega) (by omega) (Nat.le_refl _) ?_)
  intro v5 w5 hown5 hg5 h5
  obtain ⟨g, cap, hv5, hgB, h66, hcap⟩ := own_bytes hown5 (by rw [hlen]; omega)
  rw [hlen] at hv5
  subst hv5
  have hB5 := hB4.grown hg5 hB4.size (fun k hk => by simp [Value.ownBlock] at hk)
  have hB4z := hB4.size
  have X5 := X4.kept hg5 (by simp [Value.ownBlock])
  clear hnw hone hnl hba h5 hg5 hB4 X4
  rw [hlen] at hcap
  clear h66
  have hml : m < (encB x).length := by rw [hlen]; exact hm6
  have hcl := hlt.out _ (List.getElem_mem hml)
  have hxor := u8_xor_nat (encB x)[m] y hcl hy
  have hfr := hown5.frozenAt m
  have hcell := hown5.cellAt m (by omega)
  have hst := Lib.hid (hown5.stored m (.int .u8 (((encB x)[m] ^^^ y : Nat) : Int)))
  rw [u8s_set] at hst
  rw [show (u8s (encB x))[m]? = some (.int .u8 ((encB x)[m] : Int)) by unfold u8s; rw [List.getElem?_map, List.getElem?_eq_getElem hml]; rfl] at hcell
  have j1 : 0 ≤ (m : Int) := by omega
  have j2 : (m : Int) < 6 := by omega
  generalize hee : (encB x)[m] = ee at *
  have hB4s := hB4z
  have HL := Lib.hid hlen
  have HS0 := Lib.hid (show (encB x).set m ee = encB x by rw [← hee]; exact List.set_getElem_self _)
  clear hee
  clear hlen hml
  go_wp2_with fail
  refine (HM.out _).mono ?_
  rintro e w6 ⟨rfl, hw6⟩
  subst hw6
  go_upto_region 7 with fail
  have hst := hst.out
  have NT := own_nats hst.1 rfl
  have hB6 := hB5.grown hst.2 hB5.size (fun k hk => by cases hk; have := hB4s; omega)
  have X6 := X5.kept hst.2 (by simp; omega)
  have hll : ((encB x).set m (ee ^^^ y)).length = 6 := by rw [List.length_set]; exact HL.out
  have hl256 : ∀ n ∈ (encB x).set m (ee ^^^ y), n < 256 := fun n hn => by
    rcases List.mem_or_eq_of_mem_set hn with hn | rfl
    · exact hlt.out n hn
    · exact Nat.xor_lt_two_pow (n := 8) hcl hy
  have HD := Lib.hid (instr_Decode (some ⟨g, 0, none⟩) ((encB x).set m (ee ^^^ y)) cap _ (by omega) NT hl256)
  rw [hll] at HD
  unfold GivesDec at HD
  have hE := fun z W => eql_ins z x W
  have hNE := fun z W => neq_ins z x W
  have hEE := fun z W => eql_ins z zI W
  have hsame := (sameI_iff x x).2 rfl
  clear hst hown5 hB5 X5 hfr hcell hll hl256 hgB hB4s hB4z hZ4 HM j1 j2 hm6 hxor
  generalize w5.setCell ⟨g, m, none⟩ (.int .u8 ((ee ^^^ y : Nat) : Int)) = W6 at *
  rcases Nat.eq_zero_or_pos y with h0 | h0
  · have hs : (encB x).set m (ee ^^^ y) = encB x := by
      rw [h0, Nat.xor_zero]; exact HS0.out
    rw [hs, hD0.out.1, hD0.out.2] at HD
    have g0 : ((y : Int) == 0) = true := by rw [beq_iff_eq]; omega
    have HE := hE x
    rw [hsame] at HE
    unfold insV at HD
    clear hE hNE hEE hs hD h0
    go_wp2_with fail
    refine HD.out.mono ?_
    rintro e w7 ⟨rfl, hb7⟩
    have hA7 := Below.alloc (Below.refl w7.heap.size w7) (Nat.le_refl _) (.cells #[.int .i64 x.op, .int .i64 x.a, .int .i64 x.b, .int .i64 x.c, .int .i64 x.imm] 23)
    have V8 := InsBox.new w7 x
    have hb8 := hb7.trans (hA7.mono hb7.size)
    have X8 := X6.later hb8
    have hB8 := hB6.trans (hb8.mono hB6.size)
    clear HD hb7 hA7 hb8 X6 hB6 NT
    go_upto_region 8 with fail
    generalize w7.alloc (.cells #[.int .i64 x.op, .int .i64 x.a, .int .i64 x.b, .int .i64 x.c, .int .i64 x.imm] 23) = W8 at *
    generalize w7.heap.size = V at *
    obtain ⟨e0, e1, e2, e3, e4, _⟩ := ins_cells X8
    obtain ⟨f0, f1, f2, f3, f4, _⟩ := ins_cells V8
    clear X8 V8
    go_wp2_with (go_at_call 21; (with_reducible refine (law06_awake _).mono ?_); rintro e w' ⟨rfl, hb9⟩)
    go_ret
    exact ⟨rfl, hB8.trans (hb9.mono hB8.size)⟩
  · have g0 : ((y : Int) == 0) = false := by rw [beq_eq_false_iff_ne]; omega
    rcases hD.out (by omega) with ⟨d1, d2⟩ | ⟨z, hvz, hzx, d1, d2⟩
    · rw [d1, d2] at HD
      unfold insV zI at HD
      clear hE hNE hEE hD d1 d2
      go_wp2_with fail
      refine HD.out.mono ?_
      rintro e w7 ⟨rfl, hb7⟩
      have hA7 := Below.alloc (Below.refl w7.heap.size w7) (Nat.le_refl _) (.cells #[.int .i64 0, .int .i64 0, .int .i64 0, .int .i64 0, .int .i64 0] 23)
      have V8 := Blk.new (W := w7) #[.int .i64 0, .int .i64 0, .int .i64 0, .int .i64 0, .int .i64 0] 23
      have hb8 := hb7.trans (hA7.mono hb7.size)
      have hB8 := hB6.trans (hb8.mono hB6.size)
      clear HD hb7 hA7 hb8 X6 hB6 NT
      go_upto_region 8 with fail
      generalize w7.alloc (.cells #[.int .i64 0, .int .i64 0, .int .i64 0, .int .i64 0, .int .i64 0] 23) = W8 at *
      generalize w7.heap.size = V at *
      obtain ⟨f0, f1, f2, f3, f4, _⟩ := ins_cells (x := ⟨0, 0, 0, 0, 0⟩) V8
      clear V8
      go_wp2_with (go_at_call 21; (with_reducible refine (law06_awake _).mono ?_); rintro e w' ⟨rfl, hb9⟩)
      go_ret
      exact ⟨rfl, hB8.trans (hb9.mono hB8.size)⟩
    · rw [d1, d2] at HD
      have HN := hNE z
      rw [hzx] at HN
      unfold insV at HD
      have HV := Lib.hid (fun W => instr_Valid z W)
      rw [hvz] at HV
      unfold insV at HV
      clear hE hNE hEE hD d1 d2
      go_wp2_with fail
      refine HD.out.mono ?_
      rintro e w7 ⟨rfl, hb7⟩
      have hA7 := Below.alloc (Below.refl w7.heap.size w7) (Nat.le_refl _) (.cells #[.int .i64 z.op, .int .i64 z.a, .int .i64 z.b, .int .i64 z.c, .int .i64 z.imm] 23)
      have V8 := InsBox.new w7 z
      have hb8 := hb7.trans (hA7.mono hb7.size)
      have X8 := X6.later hb8
      have hB8 := hB6.trans (hb8.mono hB6.size)
      clear HD hb7 hA7 hb8 X6 hB6 NT
      go_upto_region 8 with fail
      generalize w7.alloc (.cells #[.int .i64 z.op, .int .i64 z.a, .int .i64 z.b, .int .i64 z.c, .int .i64 z.imm] 23) = W8 at *
      generalize w7.heap.size = V at *
      obtain ⟨e0, e1, e2, e3, e4, _⟩ := ins_cells X8
      obtain ⟨f0, f1, f2, f3, f4, _⟩ := ins_cells V8
      clear X8 V8
      go_wp2_with (first
        | (go_at_call 21; (with_reducible refine (law06_awake _).mono ?_); rintro e w' ⟨rfl, hb9⟩)
        | (go_at_call 13; (with_reducible refine (HV.out _).mono ?_); rintro e w10 ⟨rfl, hb10⟩))
      go_ret
      exact ⟨rfl, hB8.trans ((hb10.trans (hb9.mono hb10.size)).mono hB8.size)⟩

theorem walk {H : Type} (enc : TypeId × Value → H) (W : World) (base : Nat) (v0 : Value) (d0 : DataW H) (p0 : List MemPlace) (o0 : Value.okWide Try.prog W .any base 24 v0) (h0 : DataW.Trod enc Try.prog W 0 (fun _ => true) true 24 v0 d0 p0)
    (v1 : Value) (d1 : DataW H) (p1 : List MemPlace) (o1 : Value.okWide Try.prog W .any base 3 v1) (h1 : DataW.Trod enc Try.prog W 0 (fun _ => true) true 3 v1 d1 p1)
    (v2 : Value) (d2 : DataW H) (p2 : List MemPlace) (o2 : Value.okWide Try.prog W .any base 5 v2) (h2 : DataW.Trod enc Try.prog W 0 (fun _ => true) true 5 v2 d2 p2) :
    Calls Try.prog 7 #[v0, v1, v2] W fun e w' => e = .returned (.bool true) ∧ Below W.heap.size W w' := by
  obtain ⟨a, xs, ca, rfl, ha, hx, hl⟩ := open_nums Try.underlying24 Try.underlying3 (by kernel_rfl) o0 h0
  obtain ⟨i, rfl, rfl, rfl, w1⟩ := open_int Try.underlying3 o1 h1
  obtain ⟨y, rfl, rfl, rfl, w2⟩ := open_int Try.underlying5 o2 h2
  obtain ⟨t, ht, rfl⟩ := byte_of w2
  exact core a xs ca i t W ha ⟨fun x hx2 => int_of (hx x hx2), by unfold maxLen at hl; exact hl⟩ (int_of w1).1 (int_of w1).2 ht
end Go.Proofs.Ytbhpolnoeccofaa.instrNearLaw
