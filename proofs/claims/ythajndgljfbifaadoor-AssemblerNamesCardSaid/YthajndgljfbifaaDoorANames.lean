/-
  AssemblerNames: for every list of ints and every int the law returns true.
-/
import Derived.Test.YthajndgljfbifaaDoorPg7
import Derived.Test.YthajndgljfbifaaDoorAnm
import Derived.Test.YthajndgljfbifaaDoorOpenInts
namespace Go.Proofs.YthajndgljfbifaaDoor.assemblerNamesLaw
open Go.RowKit Go.ChangeShapes Go.WideShapes Go.ChangeAt
set_option maxRecDepth 100000

/-- The names' strings in a block. -/
theorem name_at (q : Nat) (hq : q < 4) : ∃ nm, nm ∈ lawNames ∧ (#[Value.string ⟨#[122, 57]⟩, .string ⟨#[110, 111, 112]⟩, .string ⟨#[114, 101, 103, 105, 111, 110]⟩, .string ⟨#[97, 98, 99, 100, 101, 102]⟩] : Array Value)[q]? = some (.string nm) := by
  rcases (show q = 0 ∨ q = 1 ∨ q = 2 ∨ q = 3 by omega) with rfl | rfl | rfl | rfl
  · exact ⟨_, by simp [lawNames], rfl⟩
  · exact ⟨_, by simp [lawNames], rfl⟩
  · exact ⟨_, by simp [lawNames], rfl⟩
  · exact ⟨_, by simp [lawNames], rfl⟩

theorem names_size : ∀ nm ∈ lawNames, nm.size ≤ 6 := by decide

set_option maxHeartbeats 4000000 in
theorem core (a : Option Addr) (xs : List Int) (ca : Nat) (v : Int) (w : World) (ht : Tabs w) (ho : OpsTab w) (ha : IntsAt .i64 w a xs) (hx : ∀ x ∈ xs, -9223372036854775808 ≤ x ∧ x ≤ 9223372036854775807) (hxl : xs.length ≤ 9223372036854775807) (hv : -9223372036854775808 ≤ v ∧ v ≤ 9223372036854775807) :
    Calls Tryd.prog 3 #[.slice a xs.length ca, .int .i64 v] w fun e w' => e = .returned (.bool true) ∧ Below w.heap.size w w' := by
  have HN1 := Lib.hid (make_New a xs ca w ha hx hxl)
  have HTB := Lib.hid (fun W (h : Below w.heap.size w W) => And.intro (ht.later h) (ho.later h))
  have HMod := Lib.hid (fun W => make_Mod v 4 W (by omega) (by omega) hv.1 hv.2)
  obtain ⟨i0, hi, hz0, hz1, hz2⟩ := info_parts info_string
  clear ha hx hxl ht ho hv
  go_enter Tryd.func3, Tryd.ntmps3
  go_wp2_with fail
  refine HN1.out.mono ?_
  rintro e w1 ⟨rfl, hd1, hb1⟩
  go_wp2_with fail
  refine (prog_in _ _ hd1).mono ?_
  rintro e w2 ⟨ac, a2, ad, cc, c2, cd, C, s, L, rfl, hg, hp2, hg2⟩
  have hB2 : Below w.heap.size w w2 := hb1.grown hg2 hb1.size (fun k hk => by cases hk; omega)
  clear HN1 hd1 hb1 hg2
  have X2 := Blk.new (W := w2) #[.slice ac C.length cc, .slice a2 s.length c2, .slice ad L.length cd] 26
  have hA1 := Below.alloc (Below.refl w2.heap.size w2) (Nat.le_refl _) (.cells #[.slice ac C.length cc, .slice a2 s.length c2, .slice ad L.length cd] 26)
  have P2 := hp2.later hA1
  have hB3 := hB2.trans (hA1.mono hB2.size)
  clear hA1 hB2 hp2
  go_upto_region 2 with fail
  generalize w2.alloc (.cells #[.slice ac C.length cc, .slice a2 s.length c2, .slice ad L.length cd] 26) = W3 at *
  generalize w2.heap.size = Z at *
  have HPr := Lib.hid (asm_Print ac a2 ad C s L cc c2 cd W3 (HTB.out W3 hB3).1 (HTB.out W3 hB3).2 P2.code P2.sizes P2.data hg.1 hg.2)
  obtain ⟨x0, x1, x2⟩ := (⟨(X2 0 (by simp)).1, (X2 1 (by simp)).1, (X2 2 (by simp)).1⟩ : _ ∧ _ ∧ _)
  go_upto_region 5 with (go_at_call 6; (with_reducible refine HPr.out.mono ?_); rintro e w6 ⟨rfl, hb6⟩)
  have X3 := X2.later hb6
  have P3 := P2.later hb6
  have hB6 := hB3.trans (hb6.mono hB3.size)
  clear X2 P2 hb6 hB3 HPr x0 x1 x2
  -- the name
  have hA7 := Below.alloc (Below.refl w6.heap.size w6) (Nat.le_refl _) (.cells #[.string ⟨#[122, 57]⟩, .string ⟨#[110, 111, 112]⟩, .string ⟨#[114, 101, 103, 105, 111, 110]⟩, .string ⟨#[97, 98, 99, 100, 101, 102]⟩] 9)
  have hmod0 : 0 ≤ v % 4 := by omega
  have hmod4 : v % 4 < 4 := by omega
  obtain ⟨q, hq⟩ := Int.eq_ofNat_of_zero_le hmod0
  have hq4 : q < 4 := by omega
  obtain ⟨nm, hnm, hnc⟩ := name_at q hq4
  have c7 : (w6.alloc (.cells #[.string ⟨#[122, 57]⟩, .string ⟨#[110, 111, 112]⟩, .string ⟨#[114, 101, 103, 105, 111, 110]⟩, .string ⟨#[97, 98, 99, 100, 101, 102]⟩] 9)).cell? ⟨w6.heap.size, q, none⟩ = some (.string nm) := by
    rw [World.cell?_alloc_at _ _ _ _ rfl]; exact hnc
  rw [hq] at HMod
  have i4 : (q : Int) < 4 := by omega
  clear hnc hq hmod0 hmod4
  go_upto_region 6 with (go_at_call 7; (with_reducible refine (HMod.out _).mono ?_); rintro e w8 ⟨rfl, rfl⟩)
  have hB7 := hB6.trans (hA7.mono hB6.size)
  have X7 := X3.later hA7
  have P7 := P3.later hA7
  clear hA7 hB6 X3 P3 c7 i4
  generalize w6.alloc (.cells #[.string ⟨#[122, 57]⟩, .string ⟨#[110, 111, 112]⟩, .string ⟨#[114, 101, 103, 105, 111, 110]⟩, .string ⟨#[97, 98, 99, 100, 101, 102]⟩] 9) = W7 at *
  -- the lines
  obtain ⟨hFit, hCode⟩ := (good_split C s L).1 hg.1
  obtain ⟨hsz, hll⟩ := text_size labl labl_ok C s L hg.1 hg.2
  have hsp := split_lines (linesX labl C s L) (linesX_clean labl labl_ok C s L hCode)
  have HS0 := Lib.hid (fun W (hW : Tabs W) => lib_Split (printB C s L) ⟨#[10]⟩ W hW (by rw [print_text]; omega) (by decide) (split_len _ ⟨#[10]⟩ (by decide)))
  have hps := piece_size ⟨#[10]⟩ 0 (Lib.countB (printB C s L) ⟨#[10]⟩) (printB C s L)
  rw [print_text] at HS0 hps
  rw [hsp] at HS0 hps
  have HPS : Hid (∀ x ∈ lsE (linesX labl C s L), x.size ≤ 4096) := Lib.hid (fun x hx => by have := hps x hx; omega)
  have HJO := Lib.hid (jumpOk_lines C s L hCode)
  have HRL := Lib.hid (ren_lines nm C s L hCode)
  have hlen : (lsE (linesX labl C s L)).length ≤ 133 := by rw [lsE_length]; omega
  have HS : Hid (∀ W, Tabs W → Calls Tryd.prog 8 #[.string (textFrom ⟨#[]⟩ (linesX labl C s L)), .string ⟨#[10]⟩] W fun e w' => e = .returned (.slice (some ⟨W.heap.size, 0, none⟩) (lsE (linesX labl C s L)).length (lsE (linesX labl C s L)).length) ∧ w' = W.alloc (.cells ((lsE (linesX labl C s L)).map Value.string).toArray 9)) := Lib.hid (fun W hW => (HS0.out W hW).mono fun _ _ h => ⟨h.1, h.2⟩)
  have hvs : 1 ≤ s.length ∧ s.length ≤ 4 ∧ ∀ x ∈ s, 1 ≤ x ∧ x ≤ 32 := of_decide_eq_true hg.1.1
  have hsn := ints_of_nats s hvs.2.2
  have hnl : (natsS s).length = s.length := by simp [natsS]
  have HPa : Hid (∀ W, Below w.heap.size w W → Calls Tryd.prog 11 #[.string (textFrom ⟨#[]⟩ (linesX (labN nm) C s L))] W fun e w' => ∃ bc b2 bd dc d2 dd, e = .returned (.tuple #[.agg #[.slice bc C.length dc, .slice b2 s.length d2, .slice bd L.length dd], .int .i64 (((linesX (labN nm) C s L).length : Nat) : Int), .int .i64 0]) ∧ PgAt w' bc b2 bd C s L ∧ Below W.heap.size W w') := Lib.hid (fun W h => (asm_Parse_text (labN nm) (labN_ok nm hnm) C s L hg.1 hg.2 W (HTB.out W h).1 (HTB.out W h).2).mono fun e w' hh => by
    obtain ⟨bc, b2, bd, dc, d2, dd, he, k1, k2, k3, hb⟩ := hh
    rw [hnl] at he
    rw [hsn] at k2
    exact ⟨bc, b2, bd, dc, d2, dd, he, ⟨k1, k2, k3⟩, hb⟩)
  have hlens := hg.lens
  have HS1 : Hid (∀ W bc b2 bd dc d2 dd, PgAt W bc b2 bd C s L → PgAt W ac a2 ad C s L → Calls Tryd.prog 12 #[.agg #[.slice bc C.length dc, .slice b2 s.length d2, .slice bd L.length dd], .agg #[.slice ac C.length cc, .slice a2 s.length c2, .slice ad L.length cd]] W fun e w' => e = .returned (.bool true) ∧ Below W.heap.size W w') :=
    Lib.hid (fun W bc b2 bd dc d2 dd h1 h2 => (ref07_Same bc b2 bd ac a2 ad C C s s L L dc d2 dd cc c2 cd W h1.code h1.sizes h1.data h2.code h2.sizes h2.data (by omega) (by omega) (by omega) (fun l hl => by have := hlens.2.2.2 l hl; omega) (fun l hl => by have := hlens.2.2.2 l hl; omega)).mono fun _ _ hh => says_true hh ⟨rfl, rfl, rfl⟩)
  have HAw := Lib.hid (fun W (h : Below w.heap.size w W) => law07_awake W (HTB.out W h).1 (HTB.out W h).2)
  clear hvs hsn hnl
  have HTL := Lib.hid (text_size (labN nm) (labN_ok nm hnm) C s L hg.1 hg.2).1
  rw [← print_text] at HS
  have hlsz : 0 < (lsE (linesX labl C s L)).length := by rw [lsE_length]; omega
  clear HS0 hps hsp hsz hll hFit hCode hlens
  generalize lsE (linesX labl C s L) = ls at *
  generalize printB C s L = sT at *
  have hnz := names_size nm hnm
  have HT7 := Lib.hid (HTB.out _ hB7).1
  have hsa := strs_new ls W7 9
  have hA8 := Below.alloc (Below.refl W7.heap.size W7) (Nat.le_refl _) (.cells (ls.map Value.string).toArray 9)
  have HB8 := Lib.hid (hB7.trans (hA8.mono hB7.size))
  have HX8 := Lib.hid (X7.later hA8)
  have HP8 := Lib.hid (P7.later hA8)
  have HSA := Lib.hid hsa
  have HHS := Lib.hid (HS.out _ HT7.out)
  clear hsa hA8 X7 P7 hB7 HS HT7 hnm
  go_wp2_with (go_at_call 8; (with_reducible refine HHS.out.mono ?_); rintro e w' ⟨rfl, rfl⟩)
  generalize W7.alloc (.cells (ls.map Value.string).toArray 9) = W8 at *
  go_loopw [9, 36] (fun v c wr => ∃ k : Nat, k ≤ ls.length ∧ c = .int .i64 k ∧ wr.ownsRow W8.heap.size 9 1 v k ((ls.take k).map fun l => Value.string (renL nm l)) ∧ Below W8.heap.size W8 wr) (fun _ c _ => ls.length - (intOf c).toNat)
  case atStart => exact ⟨0, by omega, rfl, World.ownsRow_nil _ _ _ _, Below.refl _ _⟩
  obtain ⟨k, hk, rfl, hownr, hw⟩ := hrel
  have hBr := HB8.out.trans (hw.mono HB8.out.size)
  by_cases hlt : k < ls.length
  · have c0 := cell_later hw (HSA.out k hlt)
    rw [Nat.zero_add] at c0
    have hxz := HPS.out _ (List.getElem_mem hlt)
    have HJx := Lib.hid (HJO.out _ (List.getElem_mem hlt))
    have HNx : Hid ((ls.take (k + 1)).map (fun l => Value.string (renL nm l)) = (ls.take k).map (fun l => Value.string (renL nm l)) ++ [.string (renL nm ls[k])]) := Lib.hid (by rw [List.take_succ_eq_append_getElem hlt, List.map_append]; rfl)
    generalize ls[k] = x at *
    have i1 : (k : Int) < (ls.length : Int) := by omega
    have i2 : 0 ≤ (k : Int) := by omega
    have HS0 := Lib.hid (lib_Split x ⟨#[32]⟩ wr (HTB.out _ hBr).1 (by omega) (by decide) (splitW_len x))
    have HS1 : Hid (Calls Tryd.prog 8 #[.string x, .string ⟨#[32]⟩] wr (GivesStrs (splitW x) wr)) := HS0
    have hps : ∀ y ∈ splitW x, y.size ≤ x.size := piece_size ⟨#[32]⟩ 0 (Lib.countB x ⟨#[32]⟩) x
    have hwl : (splitW x).length ≤ 4097 := by
      rw [splitW_len]
      have := Lib.countB_le ⟨#[32]⟩ (by decide) x.size x (Nat.le_refl _)
      omega
    have hws0 : 0 < (splitW x).length := by rw [splitW_len]; omega
    have HRL1 : Hid (renL nm x = joinB (renW nm (splitW x))) := Lib.hid rfl
    unfold JumpOk at HJx
    have HJn : Hid (∀ W b c, StrsAt W b 0 (renW nm (splitW x)) → b < W.heap.size → (renW nm (splitW x)).length ≤ c → Calls Tryd.prog 10 #[.slice (some ⟨b, 0, none⟩) (renW nm (splitW x)).length c, .string ⟨#[32]⟩] W fun e w' => e = .returned (.string (renL nm x)) ∧ Below W.heap.size W w') := Lib.hid (fun W b c h hb hc => by
      have hsz := joinB_size_le (renW nm (splitW x)) 4102 (renW_size nm (splitW x) hws0 hnz (fun y hy => by have := hps y hy; omega))
      have hrl := renW_length nm (splitW x) hws0
      have e32 : (⟨#[32]⟩ : ByteArray).data.toList = [32] := rfl
      have hm : (renW nm (splitW x)).length * (4102 + 1) ≤ 4097 * (4102 + 1) := Nat.mul_le_mul_right _ (by omega)
      have h1 := Tryd.strings_Join b 0 c (renW nm (splitW x)) ⟨#[32]⟩ W (fun j y hy => by
        obtain ⟨hj, rfl⟩ := List.getElem?_eq_some_iff.1 hy
        exact h j hj) hb (by omega) hc (by
          rw [e32]
          have e : (Lib.join ((renW nm (splitW x)).map (·.data.toList)) [32]).length = (joinB (renW nm (splitW x))).size := rfl
          rw [e]
          omega)
      exact h1)
    have HRWL := Lib.hid (renW_length nm (splitW x) hws0)
    generalize splitW x = ws at *
    obtain ⟨m, hm⟩ : ∃ m, ws.length = m + 1 := ⟨ws.length - 1, by omega⟩
    have hsa := strs_new ws wr 9
    have d0 := hsa 0 (by omega)
    have dm := hsa m (by omega)
    have e0 : ws[0]'(by omega) = ws.headD ⟨#[]⟩ := by cases ws with | nil => simp at hws0 | cons a l => rfl
    have em : ws[m]'(by omega) = ws.getLastD ⟨#[]⟩ := last_at ws m hm _
    rw [Nat.zero_add] at d0 dm
    rw [e0] at d0
    rw [em] at dm
    have HWZ : Hid (∀ y ∈ ws, y.size ≤ 4096) := Lib.hid (fun y hy => by have := hps y hy; omega)
    have hlz : (ws.getLastD ⟨#[]⟩).size ≤ 4096 := by rw [← em]; exact HWZ.out _ (List.getElem_mem _)
    have HA5 := Lib.hid (hw.trans ((Below.alloc (Below.refl wr.heap.size wr) (Nat.le_refl _) (.cells (ws.map Value.string).toArray 9)).mono hw.size))
    have HS5 := Lib.hid hsa
    have HO5 := Lib.hid (hownr.alloc (.cells (ws.map Value.string).toArray 9))
    have hz5 : wr.heap.size < (wr.alloc (.cells (ws.map Value.string).toArray 9)).heap.size := by simp
    have hfz : (wr.alloc (.cells (ws.map Value.string).toArray 9)).frozen? ⟨wr.heap.size, m, none⟩ = false := by go_simp
    have HS : Hid (Calls Tryd.prog 8 #[.string x, .string ⟨#[32]⟩] wr fun e w' => e = .returned (.slice (some ⟨wr.heap.size, 0, none⟩) (m + 1) (m + 1)) ∧ w' = wr.alloc (.cells (ws.map Value.string).toArray 9)) := Lib.hid (HS1.out.mono fun _ _ hg => ⟨by rw [hg.1, hm], hg.2⟩)
    clear HS1 HS0
    go_upto_region 11 with (go_at_call 8; (with_reducible refine HS.out.mono ?_); rintro e w' ⟨rfl, rfl⟩)
    clear HS
    have HC0 := Lib.hid c0
    have HDM := Lib.hid dm
    clear c0
    obtain ⟨J, hJ⟩ : ∃ J, (decide (1 < ws.length) && jmpW (ws.headD ⟨#[]⟩)) = J := ⟨_, rfl⟩
    have HJ := Lib.hid hJ
    have HMM := Lib.hid hm
    have hmb : m ≤ 4096 := by omega
    clear hJ hm e0 em hsa hps
    have HR0 : Hid (renB ws = ((decide (1 < ws.length) && jmpW (ws.headD ⟨#[]⟩)) || Lib.hasSuffix (ws.getLastD ⟨#[]⟩).data.toList [58])) := Lib.hid rfl
    have HLW0 : Hid (renB ws = true → renW nm ws = ws.set m (lastN nm (ws.getLastD ⟨#[]⟩))) := Lib.hid (fun h => by
      rw [renW_yes nm ws h (by omega), HMM.out, Nat.add_sub_cancel])
    generalize ws.getLastD ⟨#[]⟩ = la at *
    generalize ws.headD ⟨#[]⟩ = w0 at *
    generalize wr.alloc (.cells (ws.map Value.string).toArray 9) = W5 at *
    go_upto_region 12 with fail
    clear dm
    go_cut [14] (fun v wx => v = .bool J ∧ wx = W5)
    case first =>
      by_cases hm0 : m = 0
      · subst hm0
        have hJ : J = false := by rw [← HJ.out, HMM.out]; rfl
        subst hJ
        go_wp2_with fail
        go_meet
        exact ⟨rfl, rfl⟩
      · have n1 : (1 : Int) < (m : Int) + 1 := by omega
        have hJ : J = jmpW w0 := by rw [← HJ.out, HMM.out, decide_eq_true (by omega), Bool.true_and]
        have HJ3 := Lib.hid hJ
        clear HJ HMM hfz HDM HJx HRL1 HNx hownr hJ
        by_cases f0 : w0 = ⟨#[106, 109, 112]⟩
        · have q0 := str_eq (l := [106, 109, 112]) f0
          have hJ2 : J = true := by rw [HJ3.out]; unfold jmpW; exact decide_eq_true (by simp [f0])
          subst hJ2
          clear f0
          go_wp2_with fail
          go_meet
          exact ⟨rfl, rfl⟩
        · have q0 := str_ne (l := [106, 109, 112]) f0
          by_cases f1 : w0 = ⟨#[106, 122]⟩
          · have q1 := str_eq (l := [106, 122]) f1
            have hJ2 : J = true := by rw [HJ3.out]; unfold jmpW; exact decide_eq_true (by simp [f1])
            subst hJ2
            clear f0 f1
            go_wp2_with fail
            go_meet
            exact ⟨rfl, rfl⟩
          · have q1 := str_ne (l := [106, 122]) f1
            by_cases f2 : w0 = ⟨#[106, 110, 122]⟩
            · have q2 := str_eq (l := [106, 110, 122]) f2
              have hJ2 : J = true := by rw [HJ3.out]; unfold jmpW; exact decide_eq_true (by simp [f2])
              subst hJ2
              clear f0 f1 f2
              go_wp2_with fail
              go_meet
              exact ⟨rfl, rfl⟩
            · have q2 := str_ne (l := [106, 110, 122]) f2
              by_cases f3 : w0 = ⟨#[106, 97, 108]⟩
              · have q3 := str_eq (l := [106, 97, 108]) f3
                have hJ2 : J = true := by rw [HJ3.out]; unfold jmpW; exact decide_eq_true (by simp [f3])
                subst hJ2
                clear f0 f1 f2 f3
                go_wp2_with fail
                go_meet
                exact ⟨rfl, rfl⟩
              · have q3 := str_ne (l := [106, 97, 108]) f3
                have hJ2 : J = false := by rw [HJ3.out]; unfold jmpW; exact decide_eq_false (by rintro (h | h | h | h) <;> (first | exact f0 h | exact f1 h | exact f2 h | exact f3 h))
                subst hJ2
                clear f0 f1 f2 f3
                go_wp2_with fail
                go_meet
                exact ⟨rfl, rfl⟩
    case rest =>
      obtain ⟨rfl, rfl⟩ := hcut
      have HSf := Lib.hid (fun W => Tryd.strings_HasSuffix la ⟨#[58]⟩ W (by omega))
      have e58 : (⟨#[58]⟩ : ByteArray).data.toList = [58] := rfl
      rw [e58] at HSf
      have HLP : Hid (renB ws = true → 1 ≤ la.size) := Lib.hid (fun h => by
        rw [HR0.out, Bool.or_eq_true] at h
        rcases h with h | h
        · rw [Bool.and_eq_true] at h
          exact HJx.out (of_decide_eq_true h.1) h.2
        · exact suffix_pos _ h)
      have HR : Hid (renB ws = (J || Lib.hasSuffix la.data.toList [58])) := Lib.hid (by rw [HR0.out, HJ.out])
      have HRN : Hid (renB ws = false → renW nm ws = ws) := Lib.hid (fun h => renW_no nm ws h)
      have HDR : Hid (1 ≤ la.size → nm ++ la.extract 1 la.size = lastN nm la) := Lib.hid (fun h => by rw [drop1_string _ h]; rfl)
      clear HJx HJ e58 d0 HR0
      generalize Lib.hasSuffix la.data.toList [58] = sB at *
      obtain ⟨R, hR⟩ : ∃ R, renB ws = R := ⟨_, rfl⟩
      have HRR := Lib.hid hR
      clear hR
      go_upto_region 13 with fail
      go_cut [79] (fun v wx => v = .bool R ∧ wx = wc)
      case first =>
        have HRJ : Hid (R = (J || sB)) := Lib.hid (by rw [← HRR.out, HR.out])
        clear HR HLP HRN HDR hownr HNx
        cases J with
        | true =>
          obtain rfl : R = true := HRJ.out
          go_wp2_with fail
          go_meet
          exact ⟨rfl, rfl⟩
        | false =>
          obtain rfl : R = sB := by rw [HRJ.out]; rfl
          go_wp2_with (go_at_call 9; (with_reducible refine (HSf.out _).mono ?_); rintro e w' ⟨rfl, rfl⟩)
          go_meet
          exact ⟨rfl, rfl⟩
      case rest =>
      obtain ⟨rfl, rfl⟩ := hcut
      go_upto_if 79 with fail
      go_cut [12] (fun v wx => v = .slice (some ⟨wr.heap.size, 0, none⟩) (m + 1) (m + 1) ∧ StrsAt wx wr.heap.size 0 (renW nm ws) ∧ wx.ownsRow W8.heap.size 9 1 u9 k ((ls.take k).map fun l => Value.string (renL nm l)) ∧ Below W8.heap.size W8 wx ∧ wr.heap.size < wx.heap.size)
      case first =>
        have hstore : ∀ s : ByteArray, StrsAt (wc.setCell ⟨wr.heap.size, m, none⟩ (.string s)) wr.heap.size 0 (ws.set m s) ∧ (wc.setCell ⟨wr.heap.size, m, none⟩ (.string s)).ownsRow W8.heap.size 9 1 u9 k ((ls.take k).map fun l => Value.string (renL nm l)) ∧ Below W8.heap.size W8 (wc.setCell ⟨wr.heap.size, m, none⟩ (.string s)) ∧ wr.heap.size < (wc.setCell ⟨wr.heap.size, m, none⟩ (.string s)).heap.size := fun s =>
          ⟨HS5.out.put m s, HO5.out.kept (grownBy_cell wc wr.heap.size m _) (.inr (fun e => by have := (hownr.lt _ e).2; omega)), HA5.out.setCell (by have := hw.size; exact this) _, by simpa [World.setCell] using hz5⟩
        have HST := Lib.hid hstore
        have hdm := HDM.out
        clear hstore
        cases R with
        | true =>
          have hl1 := HLP.out HRR.out
          have HE1 := Lib.hid (HLW0.out HRR.out)
          have HE2 := Lib.hid (HDR.out hl1)
          have n1 : (1 : Int) ≤ (la.size : Int) := by omega
          have n2 : ¬ 9223372036854775807 < nm.size + (la.size - 1) := by omega
          clear HR HLP HRN HDR HLW0 HRR
          go_wp2_with fail
          go_meet
          have hh := HST.out (nm ++ la.extract 1 la.size)
          exact ⟨rfl, by rw [HE1.out, ← HE2.out]; exact hh.1, hh.2.1, hh.2.2.1, hh.2.2.2⟩
        | false =>
          have HE1 := Lib.hid (HRN.out HRR.out)
          clear HR HLP HRN HDR HLW0 HRR
          go_wp2_with fail
          go_meet
          exact ⟨rfl, by rw [HE1.out]; exact HS5.out, HO5.out, HA5.out, hz5⟩
      case rest =>
        obtain ⟨rfl, hst, hown, hbel, hdl⟩ := hcut
        have HJ2 : Hid (Calls Tryd.prog 10 #[.slice (some ⟨wr.heap.size, 0, none⟩) (m + 1) (m + 1), .string ⟨#[32]⟩] wc fun e w' => e = .returned (.string (renL nm x)) ∧ Below wc.heap.size wc w') := Lib.hid (by
          have h := HJn.out wc wr.heap.size (m + 1) hst hdl (by rw [HRWL.out, HMM.out]; exact Nat.le_refl _)
          rw [HRWL.out, HMM.out] at h
          exact h)
        have hbs := hbel.size
        clear HJn HR HLP HRN HDR HLW0 HRR HS5 HO5 HA5 hz5 hfz hownr hw hst HDM HRL1 hlz hxz HWZ HC0
        go_wp2_with (first
          | (go_at_call 10; (with_reducible refine HJ2.out.mono ?_); rintro e W3 ⟨rfl, hb3⟩; have hown3 := own_later7 hown hb3; have h3s := Nat.le_trans hbs hb3.size)
          | (at_builtin; refine wpList_append_own _ rfl (.tmp 89) (.tmp 92) 33 rfl W8.heap.size 9 i0 (.string ⟨#[]⟩) 1 16 Tryd.underlying33 hi hz0 hz1 hz2 rfl (by decide) _ _ _ rfl (hown3.alloc _) ⟨W3.heap.size, 0, none⟩ 1 1 [.string (renL nm x)] rfl rfl ?c1 ?c2 ?c3 ?c4 ?c5 ?_))
        case c1 => exact World.news_of_block (cs := #[.string (renL nm x)]) (t := 9) (fr := (0, 0)) (heap_alloc_new W3 _)
        case c2 => simp [Value.oneCell']
        case c3 => unfold maxLen; omega
        case c4 => omega
        case c5 => simp; omega
        intro v' w9 hown9 hgrow _h3
        have hb4 := Below.alloc (Below.refl W8.heap.size W3) h3s (.cells #[.string (renL nm x)] 9)
        have hb5 := hb4.grown hgrow (by simp; omega) (fun j hj => (hown3.lt j hj).1)
        have HF := Lib.hid (hbel.trans ((hb3.mono hbs).trans hb5))
        rw [← List.map_take, ← HNx.out] at hown9
        clear hgrow _h3 hown3 hb4 hb5 hb3 hown hbel
        go_wp2_with fail
        refine ⟨⟨k + 1, by omega, by go_num, hown9, HF.out⟩, ?_⟩
        simp [intOf]
        omega
  · obtain rfl : k = ls.length := by omega
    rw [List.take_length] at hownr
    have hB9 := HB8.out.trans (hw.mono HB8.out.size)
    have X9 := HX8.out.later hw
    have P9 := HP8.out.later hw
    have HJ9 : Hid (∃ g cap, u9 = .slice (some ⟨g, 0, none⟩) ls.length cap ∧ Calls Tryd.prog 10 #[.slice (some ⟨g, 0, none⟩) ls.length cap, .string ⟨#[10]⟩] wr fun e w' => e = .returned (.string (textFrom ⟨#[]⟩ (linesX (labN nm) C s L))) ∧ Below wr.heap.size wr w') := Lib.hid (by
      obtain ⟨g, cap, hv, _, hg9⟩ := hownr.form hlsz
      subst hv
      have hcap : ls.length ≤ cap := by
        rcases hownr.2 with ⟨h', _⟩ | ⟨g', cap', cur, h', _, hg, hnc, _⟩
        · simp at h'
        · simp only [Value.slice.injEq, true_and] at h'
          omega
      have hl9 : (lsE (linesX (labN nm) C s L)).length = ls.length := by rw [← HRL.out, List.length_map]
      have e10 : (⟨#[10]⟩ : ByteArray).data.toList = [10] := rfl
      have hsz : (Lib.join ((lsE (linesX (labN nm) C s L)).map (·.data.toList)) [10]).length = (textFrom ⟨#[]⟩ (linesX (labN nm) C s L)).size := by
        rw [← joinL_text]; rfl
      have h1 := Tryd.strings_Join g 0 cap (lsE (linesX (labN nm) C s L)) ⟨#[10]⟩ wr (fun j y hy => by
        obtain ⟨hj, rfl⟩ := List.getElem?_eq_some_iff.1 hy
        rw [Nat.zero_add, hownr.cellAt j (by omega), List.getElem?_map, List.getElem?_eq_getElem (by omega)]
        have e : (lsE (linesX (labN nm) C s L))[j] = renL nm (ls[j]'(by omega)) := by
          have h := HRL.out
          have := congrArg (·[j]?) h
          simp only [List.getElem?_map] at this
          rw [List.getElem?_eq_getElem (by omega), List.getElem?_eq_getElem hj] at this
          exact (Option.some.inj this).symm
        rw [e]
        rfl) hg9 (by omega) (by omega) (by rw [e10, hsz]; have := HTL.out; omega)
      rw [hl9] at h1
      refine ⟨g, cap, rfl, ?_⟩
      have e2 : (⟨(Lib.join ((lsE (linesX (labN nm) C s L)).map (·.data.toList)) (⟨#[10]⟩ : ByteArray).data.toList).toArray⟩ : ByteArray) = textFrom ⟨#[]⟩ (linesX (labN nm) C s L) := joinL_text _
      rw [e2] at h1
      exact h1)
    obtain ⟨g9, c9, rfl, HJ1⟩ := HJ9.out
    have HJ := Lib.hid HJ1
    have HWB := Lib.hid hB9
    clear HJ9 HJ1 hownr hw hBr HB8 HX8 HP8 HSA HPS HJO HRL HTL
    go_upto_region 18 with (first
      | (go_at_call 10; (with_reducible refine HJ.out.mono ?_); rintro e W3 ⟨rfl, hb3⟩; have hB3 := HWB.out.trans (hb3.mono HWB.out.size))
      | (go_at_call 11; (with_reducible refine (HPa.out _ hB3).mono ?_); rintro e W4 ⟨bc, b2, bd, dc, d2, dd, rfl, hp4, hb4⟩))
    have V9 := Blk.new (W := W4) #[.slice bc C.length dc, .slice b2 s.length d2, .slice bd L.length dd] 26
    have hA9 := Below.alloc (Below.refl W4.heap.size W4) (Nat.le_refl _) (.cells #[.slice bc C.length dc, .slice b2 s.length d2, .slice bd L.length dd] 26)
    have hb9 := hb3.trans ((hb4.trans (hA9.mono hb4.size)).mono hb3.size)
    have X10 := X9.later hb9
    have P10 := P9.later hb9
    have R10 := hp4.later hA9
    have HB10 := Lib.hid (HWB.out.trans (hb9.mono HWB.out.size))
    clear hb3 hb4 hA9 hb9 hp4 X9 P9 HPa HJ hB3 HWB
    generalize W4.alloc (.cells #[.slice bc C.length dc, .slice b2 s.length d2, .slice bd L.length dd] 26) = W9 at *
    generalize W4.heap.size = V at *
    obtain ⟨x0, x1, x2⟩ := (⟨(X10 0 (by simp)).1, (X10 1 (by simp)).1, (X10 2 (by simp)).1⟩ : _ ∧ _ ∧ _)
    obtain ⟨y0, y1, y2⟩ := (⟨(V9 0 (by simp)).1, (V9 1 (by simp)).1, (V9 2 (by simp)).1⟩ : _ ∧ _ ∧ _)
    have HSm := Lib.hid (HS1.out _ _ _ _ dc d2 dd R10 P10)
    clear HS1 R10 P10 X10 V9
    go_wp2_with (first
      | (go_at_call 12; (with_reducible refine HSm.out.mono ?_); rintro e w11 ⟨rfl, hb11⟩)
      | (go_at_call 13; (with_reducible refine (HAw.out _ (HB10.out.trans (hb11.mono HB10.out.size))).mono ?_); rintro e w13 ⟨rfl, hb13⟩))
    go_ret
    have hB12 := HB10.out.trans (hb11.mono HB10.out.size)
    exact ⟨rfl, hB12.trans (hb13.mono hB12.size)⟩

theorem walk {H : Type} (enc : TypeId × Value → H) (W : World) (base : Nat) (hsh : W.ShapedOpen Tryd.prog) (hL : laidMet Tryd.prog Rows.assemblerNamesRow.laid W) (v0 : Value) (d0 : DataW H) (p0 : List MemPlace) (o0 : Value.okWide Tryd.prog W .any base 22 v0) (h0 : DataW.Trod enc Tryd.prog W 0 (fun _ => true) true 22 v0 d0 p0)
    (v1 : Value) (d1 : DataW H) (p1 : List MemPlace) (o1 : Value.okWide Tryd.prog W .any base 3 v1) (h1 : DataW.Trod enc Tryd.prog W 0 (fun _ => true) true 3 v1 d1 p1) :
    Calls Tryd.prog 3 #[v0, v1] W fun e w' => e = .returned (.bool true) ∧ Below W.heap.size W w' := by
  obtain ⟨a, xs, ca, rfl, ha, hx, hl⟩ := open_nums Tryd.underlying22 Tryd.underlying3 (by kernel_rfl) o0 h0
  obtain ⟨n, rfl, rfl, rfl, hn⟩ := open_int Tryd.underlying3 o1 h1
  have ht := tabs_reads hsh (Lib.laidMet.reads hL (by simp [Rows.assemblerNamesRow]))
  have ho := opsTab_of (Lib.laidMet.reads hL (by simp [Rows.assemblerNamesRow]))
  exact core a xs ca n W ht ho ha (fun x hx2 => int_of (hx x hx2)) (by unfold maxLen at hl; exact hl) (int_of hn)
end Go.Proofs.YthajndgljfbifaaDoor.assemblerNamesLaw
