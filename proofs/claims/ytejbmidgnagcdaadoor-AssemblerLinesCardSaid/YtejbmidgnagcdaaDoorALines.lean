/-
  AssemblerLines: for every list of ints the law returns true.
-/
import Derived.Test.YtejbmidgnagcdaaDoorPg7
import Derived.Test.YtejbmidgnagcdaaDoorTl
import Derived.Test.YtejbmidgnagcdaaDoorOpenInts
import Derived.Lib.QuietBelow
namespace Go.Proofs.YtejbmidgnagcdaaDoor.assemblerLinesLaw
open Go.RowKit Go.ChangeShapes Go.WideShapes Go.ChangeAt Go.Sort
set_option maxRecDepth 100000

theorem tgtB_zero (C : List Ins) : tgtB C 0 = fun _ => false := by
  funext i
  simp [tgtB]

theorem tgtB_jump (C : List Ins) {j m : Nat} (h : j < C.length) (hj : jumpB C[j].op = true) (hm : C[j].imm = (m : Int)) : tgtB C (j + 1) = fun q => tgtB C j q || decide (q = m) := by
  funext q
  rw [tgtB_next C h, hj, hm, Bool.true_and]
  congr 1
  by_cases e : q = m
  · subst e; simp
  · have : ((m : Int) == (q : Int)) = false := by rw [beq_eq_false_iff_ne]; omega
    rw [this]
    simp [e]

theorem tgtB_plain (C : List Ins) {j : Nat} (h : j < C.length) (hj : jumpB C[j].op = false) : tgtB C (j + 1) = tgtB C j := by
  funext q
  rw [tgtB_next C h, hj]
  simp

theorem jump_cases {op : Int} (h : jumpB op = true) : op = 18 ∨ op = 19 ∨ op = 20 ∨ op = 21 := of_decide_eq_true h

theorem tgtM_mono {w : World} {b n n' c : Nat} {p : Nat → Bool} (h : TgtM w b n p c) (hn : n ≤ n') : TgtM w b n' p c := by
  obtain ⟨D, h1, h2, h3⟩ := h
  exact ⟨D, h1.mono hn, h2, h3⟩

theorem tgtM_lt {w : World} {b n c : Nat} {p : Nat → Bool} (h : TgtM w b n p c) : b < w.heap.size := by
  obtain ⟨D, h1, _⟩ := h
  exact h1.lt

set_option maxHeartbeats 4000000 in
theorem core (a : Option Addr) (xs : List Int) (ca : Nat) (w : World) (ht : Tabs w) (ho : OpsTab w) (ha : IntsAt .i64 w a xs) (hx : ∀ x ∈ xs, -9223372036854775808 ≤ x ∧ x ≤ 9223372036854775807) (hxl : xs.length ≤ 9223372036854775807) :
    Calls Tryd.prog 5 #[.slice a xs.length ca] w fun e w' => e = .returned (.bool true) ∧ Below w.heap.size w w' := by
  have HN1 := Lib.hid (make_New a xs ca w ha hx hxl)
  have HTB := Lib.hid (fun W (h : Below w.heap.size w W) => And.intro (ht.later h) (ho.later h))
  clear ha hx hxl ht ho
  go_enter Tryd.func5, Tryd.ntmps5
  go_wp2_with fail
  refine HN1.out.mono ?_
  rintro e w1 ⟨rfl, hd1, hb1⟩
  go_wp2_with fail
  refine (prog_in _ _ hd1).mono ?_
  rintro e w2 ⟨ac, a2, ad, cc, c2, cd, C, s, L, rfl, hg, hp2, hg2⟩
  have hB2 : Below w.heap.size w w2 := hb1.grown hg2 hb1.size (fun k hk => by cases hk; omega)
  clear HN1 hd1 hb1 hg2
  have X2 := Blk.new (W := w2) #[.slice ac C.length cc, .slice a2 s.length c2, .slice ad L.length cd] 26
  have hA1 := Below.alloc (Below.refl w2.heap.size w2) (Nat.le_refl _) (.cells #[.slice ac C.length cc, .slice a2 s.length c2, .slice ad L.length cd] 26)
  have P2 := hp2.later hA1
  have hB3 := hB2.trans (hA1.mono hB2.size)
  clear hA1 hB2 hp2
  go_upto_region 2 with fail
  generalize w2.alloc (.cells #[.slice ac C.length cc, .slice a2 s.length c2, .slice ad L.length cd] 26) = W3 at *
  generalize w2.heap.size = Z at *
  have hlen := hg.lens
  have HPr := Lib.hid (asm_Print ac a2 ad C s L cc c2 cd W3 (HTB.out W3 hB3).1 (HTB.out W3 hB3).2 P2.code P2.sizes P2.data hg.1 hg.2)
  have HCt := Lib.hid (fun W => Tryd.strings_Count_one (textFrom ⟨#[]⟩ (linesX labl C s L)) 10 W)
  rw [count_lines _ (linesX_clean labl labl_ok C s L ((good_split C s L).1 hg.1).2), linesX_length, ← print_text] at HCt
  have hsz := (text_size labl labl_ok C s L hg.1 hg.2).1
  rw [← print_text] at hsz
  have HC2 : Hid (∀ W, Tabs W → Calls Tryd.prog 10 #[.string (printB C s L), .string ⟨#[58, 10]⟩] W fun e w' => e = .returned (.int .i64 (cntT C C.length C.length)) ∧ w' = W) := Lib.hid (fun W hW => by
    obtain ⟨m, hm⟩ := hW.max
    have h := Tryd.strings_Count (printB C s L) ⟨#[58, 10]⟩ m W (by omega) hm (by decide)
    rw [count_labels C s L hg.1] at h
    exact h)
  have HSf := Lib.hid (fun W => Tryd.strings_HasSuffix (printB C s L) ⟨#[10]⟩ W (by omega))
  have e10 : (⟨#[10]⟩ : ByteArray).data.toList = [10] := rfl
  rw [e10, text_ends C s L hg.1] at HSf
  have HAw := Lib.hid (fun W (h : Below w.heap.size w W) => law07_awake W (HTB.out W h).1 (HTB.out W h).2)
  have HGV := Lib.hid (fun i (h : i < C.length) => hg.1.2.2.2.2.2 i h)
  have hcnt : ∀ n, cntT C C.length n ≤ n := fun n => by unfold cntT; exact Nat.le_trans List.countP_le_length (by simp)
  have hcn := hcnt C.length
  have hl64 := hlen.1
  have hs4 := hlen.2.1
  generalize printB C s L = sT at *
  clear hg hlen hsz e10 hcnt
  obtain ⟨x0, x1, x2⟩ := (⟨(X2 0 (by simp)).1, (X2 1 (by simp)).1, (X2 2 (by simp)).1⟩ : _ ∧ _ ∧ _)
  go_upto_region 3 with (go_at_call 8; (with_reducible refine HPr.out.mono ?_); rintro e w6 ⟨rfl, hb6⟩)
  have X3 := X2.later hb6
  have P3 := P2.later hb6
  have hB6 := hB3.trans (hb6.mono hB3.size)
  clear X2 P2 hb6 hB3 HPr x0 x1 x2
  have hmm := run_makeMap (P := Tryd.prog) 45 w6
  have hA2 := Below.alloc (Below.refl w6.heap.size w6) (Nat.le_refl _) (.map #[] 0)
  have hM := TgtM.made w6
  have X4 := X3.later hA2
  go_upto_region 4 with fail
  have HX := Lib.hid X3
  have HP := Lib.hid P3
  have HB6 := Lib.hid hB6
  clear hmm X3 P3 hB6
  generalize w6.alloc (.map #[] 0) = W7 at *
  obtain ⟨x0, x1, x2⟩ := (⟨(X4 0 (by simp)).1, (X4 1 (by simp)).1, (X4 2 (by simp)).1⟩ : _ ∧ _ ∧ _)
  go_wp2_with fail
  go_loopw [21] (fun c wr => ∃ j : Nat, j ≤ C.length ∧ c = .int .i64 j ∧ TgtM wr w6.heap.size j (tgtB C j) (cntT C j C.length) ∧ Below w6.heap.size w6 wr) (fun c _ => C.length - (intOf c).toNat)
  case atStart => exact ⟨0, by omega, rfl, by rw [show cntT C 0 C.length = 0 by unfold cntT; rw [tgtB_zero]; simp, tgtB_zero]; exact hM, hA2⟩
  clear hM hA2 x0 x1 x2 X4
  obtain ⟨j, hj, rfl, hM, hw⟩ := hrel
  by_cases hlt : j < C.length
  · obtain ⟨bc, oc, rfl, hcc⟩ := ((HP.out.later (hw.mono (Nat.le_refl _))).code).some hlt
    obtain ⟨q0, q1, q2, q3, q4⟩ := hcc j hlt
    obtain ⟨gv, gj, _⟩ := HGV.out j hlt
    have HJP : Hid (∀ m : Nat, jumpB C[j].op = true → C[j].imm = (m : Int) → tgtB C (j + 1) = fun q => tgtB C j q || decide (q = m)) := Lib.hid (fun m h1 h2 => tgtB_jump C hlt h1 h2)
    have HNP : Hid (jumpB C[j].op = false → tgtB C (j + 1) = tgtB C j) := Lib.hid (fun h1 => tgtB_plain C hlt h1)
    have him : 0 ≤ C[j].imm := ((vinB_iff _).1 gv).2.2.2.2.2.2.2.2.1
    have i1 : (j : Int) < (C.length : Int) := by omega
    have i2 : 0 ≤ (j : Int) := by omega
    clear hcc gv
    generalize C[j] = x at *
    obtain ⟨op, xa, xb, xc, imm⟩ := x
    simp only at q0 q1 q2 q3 q4 gj HJP HNP him
    have hmz := tgtM_lt hM
    have HW := Lib.hid hw
    have HGJ := Lib.hid gj
    clear gj hw
    go_upto_region 7 with fail
    have e0 := (Blk.new (W := wr) #[.int .i64 op, .int .i64 xa, .int .i64 xb, .int .i64 xc, .int .i64 imm] 47 0 (by simp)).1
    have e4 := (Blk.new (W := wr) #[.int .i64 op, .int .i64 xa, .int .i64 xb, .int .i64 xc, .int .i64 imm] 47 4 (by simp)).1
    have hA5 := Below.alloc (Below.refl wr.heap.size wr) (Nat.le_refl _) (.cells #[.int .i64 op, .int .i64 xa, .int .i64 xb, .int .i64 xc, .int .i64 imm] 47)
    have M5 := hM.later hA5
    have HW5 := Lib.hid (HW.out.trans (hA5.mono (Nat.le_of_lt hmz)))
    clear hA5 q0 q1 q2 q3 q4 hM HW
    generalize wr.alloc (.cells #[.int .i64 op, .int .i64 xa, .int .i64 xb, .int .i64 xc, .int .i64 imm] 47) = W5 at *
    generalize wr.heap.size = V at *
    go_cut [42] (fun v wx => v = .bool (jumpB op) ∧ wx = W5)
    case first =>
      clear M5 e4
      cases hjj : jumpB op with
      | true =>
        clear HGJ HJP HNP
        rcases jump_cases hjj with rfl | rfl | rfl | rfl
        all_goals
          clear hjj
          go_wp2_with fail
          go_meet
          exact ⟨rfl, rfl⟩
      | false =>
        have n0 : ¬ (op = 18 ∨ op = 19 ∨ op = 20 ∨ op = 21) := of_decide_eq_false hjj
        have n18 : (op == 18) = false := by rw [beq_eq_false_iff_ne]; omega
        have n19 : (op == 19) = false := by rw [beq_eq_false_iff_ne]; omega
        have n20 : (op == 20) = false := by rw [beq_eq_false_iff_ne]; omega
        have n21 : (op == 21) = false := by rw [beq_eq_false_iff_ne]; omega
        have HJJ := Lib.hid hjj
        clear n0 HGJ HJP HNP hjj
        go_wp2_with fail
        go_meet
        exact ⟨by rw [HJJ.out], rfl⟩
    case rest =>
      obtain ⟨rfl, rfl⟩ := hcut
      cases hjj : jumpB op with
      | true =>
        obtain ⟨m, rfl⟩ := Int.eq_ofNat_of_zero_le him
        have hm : m < C.length := by have := HGJ.out hjj; omega
        have hT := HJP.out m hjj rfl
        obtain ⟨w9, hrun, hM9, hg9⟩ := M5.put (by omega) m (by omega)
        have hc9 : cntT C (j + 1) C.length = cntT C j C.length + if tgtB C j m then 0 else 1 := by
          unfold cntT
          rw [hT]
          exact cnt_more (tgtB C j) m C.length hm
        rw [← hT, ← hc9] at hM9
        have HM9 := Lib.hid hM9
        have HW9 := Lib.hid (HW5.out.grown hg9 HW5.out.size (fun k hk => by cases hk; exact Nat.le_refl _))
        clear hT hc9 hM9 hg9 M5 HJP HNP hjj HGJ
        go_wp2_with fail
        refine ⟨⟨j + 1, by omega, by go_num, HM9.out, HW9.out⟩, ?_⟩
        simp [intOf]
        omega
      | false =>
        have hT := HNP.out hjj
        have HM9 : Hid (TgtM wc w6.heap.size (j + 1) (tgtB C (j + 1)) (cntT C (j + 1) C.length)) := Lib.hid (by
          have e : cntT C (j + 1) C.length = cntT C j C.length := by unfold cntT; rw [hT]
          rw [hT, e]
          exact tgtM_mono M5 (by omega))
        clear hT M5 HJP HNP hjj HGJ
        go_wp2_with fail
        refine ⟨⟨j + 1, by omega, by go_num, HM9.out, HW5.out⟩, ?_⟩
        simp [intOf]
        omega
  · obtain rfl : j = C.length := by omega
    have X9 := HX.out.later hw
    have hB9 := HB6.out.trans (hw.mono HB6.out.size)
    have HT9 := (HTB.out wr hB9).1
    have x0 := (X9 0 (by simp)).1
    have x1 := (X9 1 (by simp)).1
    have k0 := cell_regrown x0
    have k1 := cell_regrown x1
    have kl := fun d os => (hM.later (below_regrown wr d os)).len 3
    have cV1 := fun d os => Calls.regrown_of ((HCt.out (grow (redrawn wr d) os)).mono fun _ w' hh => (⟨hh.1, hh.2 ▸ Below.refl _ _⟩ : _ ∧ Below (grow (redrawn wr d) os).heap.size (grow (redrawn wr d) os) w'))
    have cV2 := fun d os => Calls.regrown_of ((HC2.out (grow (redrawn wr d) os) (HT9.later (below_regrown wr d os))).mono fun _ w' hh => (⟨hh.1, hh.2 ▸ Below.refl _ _⟩ : _ ∧ Below (grow (redrawn wr d) os).heap.size (grow (redrawn wr d) os) w'))
    have cV3 := fun d os => Calls.regrown_of ((HSf.out (grow (redrawn wr d) os)).mono fun _ w' hh => (⟨hh.1, hh.2 ▸ Below.refl _ _⟩ : _ ∧ Below (grow (redrawn wr d) os).heap.size (grow (redrawn wr d) os) w'))
    have cV4 := fun d os => Calls.regrown_of (HAw.out (grow (redrawn wr d) os) (hB9.trans ((below_regrown wr d os).mono hB9.size)))
    generalize cntT C C.length C.length = cn at *
    have q1 : ((s.length : Int) + ((C.length : Int) + (cn : Int)) == (s.length : Int) + (C.length : Int) + (cn : Int)) = true := by rw [beq_iff_eq]; omega
    have HB9 := Lib.hid hB9
    clear hw hM hlt HCt HC2 HSf HAw X9 x0 x1 HT9 hB9 HGV HX HP HB6 HTB
    go_upto_region 10 with fail
    refine wp_region_quiet_below (by kernel_rfl) (by kernel_rfl) ?_
    repeat (go_big_quiet_step (first | with_reducible exact cV1 _ _ | with_reducible exact cV2 _ _ | with_reducible exact cV3 _ _ | with_reducible exact cV4 _ _))
    refine wpQuiet_nil ?_
    intro _ hw'
    obtain ⟨⟨dq, osq⟩, hw''⟩ := hw'
    subst hw''
    have HB := Lib.hid (below_regrown wr dq osq)
    go_wp2
    go_ret
    exact ⟨rfl, HB9.out.trans (HB.out.mono HB9.out.size)⟩

theorem walk {H : Type} (enc : TypeId × Value → H) (W : World) (base : Nat) (hsh : W.ShapedOpen Tryd.prog) (hL : laidMet Tryd.prog Rows.assemblerLinesRow.laid W) (v0 : Value) (d0 : DataW H) (p0 : List MemPlace) (o0 : Value.okWide Tryd.prog W .any base 22 v0) (h0 : DataW.Trod enc Tryd.prog W 0 (fun _ => true) true 22 v0 d0 p0) :
    Calls Tryd.prog 5 #[v0] W fun e w' => e = .returned (.bool true) ∧ Below W.heap.size W w' := by
  obtain ⟨a, xs, ca, rfl, ha, hx, hl⟩ := open_nums Tryd.underlying22 Tryd.underlying3 (by kernel_rfl) o0 h0
  have ht := tabs_reads hsh (Lib.laidMet.reads hL (by simp [Rows.assemblerLinesRow]))
  have ho := opsTab_of (Lib.laidMet.reads hL (by simp [Rows.assemblerLinesRow]))
  exact core a xs ca W ht ho ha (fun x hx2 => int_of (hx x hx2)) (by unfold maxLen at hl; exact hl)
end Go.Proofs.YtejbmidgnagcdaaDoor.assemblerLinesLaw
