/-
  ProgramReaches: for every list of ints the law returns true, given the library's Repeat.
-/
import Derived.Test.YthajndgljfbifaaRea8
import Derived.Test.YthajndgljfbifaaPgD
import Derived.Test.YthajndgljfbifaaAw8
import Derived.Test.YthajndgljfbifaaOpenInts
namespace Go.Proofs.Ythajndgljfbifaa.programReachesLaw
open Go.RowKit Go.ChangeShapes Go.WideShapes Go.ChangeAt
set_option maxRecDepth 100000

open Classical in
noncomputable def rb (C : List Ins) (j : Nat) : Bool := decide (Rch C j)

theorem rb_iff {C : List Ins} {j : Nat} : rb C j = true ↔ Rch C j := by simp [rb]

def GivesR (C : List Ins) (w : World) (e : Ending) (w' : World) : Prop := ∃ b off cap, e = .returned (.slice (some ⟨b, off, none⟩) C.length cap) ∧ (∀ i, i < C.length → w'.cell? ⟨b, off + i, none⟩ = some (.bool (rb C i))) ∧ Below w.heap.size w w'

theorem gives_r {C : List Ins} {w w' : World} {e : Ending} (h1 : 1 ≤ C.length) (h : GivesBools (rchL C) w e w') : GivesR C w e w' := by
  obtain ⟨a, cap, rfl, hb, hB⟩ := h
  rcases hb with h0 | ⟨b, off, rfl, hc⟩
  · have : (rchL C).length = 0 := by rw [h0]; rfl
    rw [rchL_length] at this
    omega
  · refine ⟨b, off, cap, by rw [rchL_length], fun i hi => ?_, hB⟩
    rw [hc i (by rw [rchL_length]; exact hi), rchL_at]
    rfl

set_option maxHeartbeats 4000000 in
theorem core (HRep : RepOk) (a : Option Addr) (xs : List Int) (ca : Nat) (w : World) (ha : IntsAt .i64 w a xs) (hx : ∀ x ∈ xs, -9223372036854775808 ≤ x ∧ x ≤ 9223372036854775807) (hxl : xs.length ≤ 9223372036854775807) :
    Calls Try.prog 6 #[.slice a xs.length ca] w fun e w' => e = .returned (.bool true) ∧ Below w.heap.size w w' := by
  have HN1 := Lib.hid (make_New a xs ca w ha hx hxl)
  clear ha hx hxl
  go_enter Try.func6, Try.ntmps6
  go_wp2_with fail
  refine HN1.out.mono ?_
  rintro e w1 ⟨rfl, hd1, hb1⟩
  go_wp2_with fail
  refine (prog_in _ _ hd1).mono ?_
  rintro e w2 ⟨ac, a2, ad, cc, c2, cd, C, s, L, rfl, hg, hp2, hg2⟩
  have hB2 : Below w.heap.size w w2 := hb1.grown hg2 hb1.size (fun k hk => by cases hk; omega)
  clear HN1 hd1 hb1 hg2
  have X1 := Blk.new (W := w2) #[.slice ac C.length cc, .slice a2 s.length c2, .slice ad L.length cd] 26
  have hA1 := Below.alloc (Below.refl w2.heap.size w2) (Nat.le_refl _) (.cells #[.slice ac C.length cc, .slice a2 s.length c2, .slice ad L.length cd] 26)
  have P1 := hp2.later hA1
  have hB3 := hB2.trans (hA1.mono hB2.size)
  clear hA1 hB2 hp2
  go_upto_region 2 with fail
  generalize w2.alloc (.cells #[.slice ac C.length cc, .slice a2 s.length c2, .slice ad L.length cd] 26) = W3 at *
  generalize w2.heap.size = Z at *
  have l1 : 1 ≤ C.length := hg.1.2.2.1
  have l64 : C.length ≤ 64 := hg.1.2.2.2.1
  have HR1 := Lib.hid ((program_Reach HRep ac a2 ad C s L cc c2 cd W3 P1.code P1.sizes P1.data hg.1).mono fun e w' h => gives_r l1 h)
  have HR2 := Lib.hid (fun W (h : PgAt W ac a2 ad C s L) => (ref08_Reach ac a2 ad C s L cc c2 cd W h.code hg.1).mono fun e w' h => gives_r l1 h)
  have HV := Lib.hid (fun i (h : i < C.length) => (hg.1.2.2.2.2.2 i h).1)
  have HX := Lib.hid (fun W (h : Below W3.heap.size W3 W) => And.intro (X1.later h) (P1.later h))
  have p0 := (X1 0 (by simp)).1
  have p1 := (X1 1 (by simp)).1
  have p2 := (X1 2 (by simp)).1
  have HB3 := Lib.hid hB3
  clear X1 P1 hg HRep hB3
  go_upto_region 3 with (go_at_call 26; (with_reducible refine HR1.out.mono ?_); rintro e w4 ⟨br, fr, cr, rfl, hr4, hb4⟩)
  obtain ⟨X4, P4⟩ := HX.out w4 hb4
  have r0 : w4.cell? ⟨br, fr, none⟩ = some (.bool true) := by
    rw [show fr = fr + 0 from rfl, hr4 0 (by omega), rb_iff.2 .zero]
  have HRr := Lib.hid hr4
  have HBB4 := Lib.hid hb4
  have p0 := (X4 0 (by simp)).1
  have p1 := (X4 1 (by simp)).1
  have p2 := (X4 2 (by simp)).1
  clear hr4 hb4 X4 HR1
  have HR2' := Lib.hid (HR2.out w4 P4)
  have i0 : (0 : Int) < (C.length : Int) := by omega
  have g0 : (((C.length : Int)) != (C.length : Int)) = false := by simp
  go_upto_region 6 with (go_at_call 27; (with_reducible refine HR2'.out.mono ?_); rintro e w5 ⟨bq, fq, cq, rfl, hq5, hb5⟩)
  have HRq : Hid (∀ W, Below w5.heap.size w5 W → ∀ i, i < C.length → W.cell? ⟨bq, fq + i, none⟩ = some (.bool (rb C i)) ∧ W.cell? ⟨br, fr + i, none⟩ = some (.bool (rb C i))) := Lib.hid (fun W h i hi => ⟨cell_later h (hq5 i hi), cell_later (hb5.trans (h.mono hb5.size)) (HRr.out i hi)⟩)
  have HX5 : Hid (∀ W, Below w5.heap.size w5 W → Below w.heap.size w W ∧ W.cell? ⟨Z, 0, none⟩ = some (.slice ac C.length cc) ∧ CodeAt W ac C) := Lib.hid (fun W h => by
    have h1 := HBB4.out.trans ((hb5.trans (h.mono hb5.size)).mono HBB4.out.size)
    obtain ⟨hx, hp⟩ := HX.out W h1
    exact ⟨HB3.out.trans (h1.mono HB3.out.size), (hx 0 (by simp)).1, hp.code⟩)
  clear hq5 hb5 HRr HBB4 HX HB3 HR2 HR2' P4 p0 p1 p2 r0
  go_upto_region 7 with fail
  go_loopw [31] (fun c wr => ∃ k : Nat, k ≤ C.length ∧ c = .int .i64 k ∧ Below w5.heap.size w5 wr) (fun c _ => C.length - (intOf c).toNat)
  case atStart => exact ⟨0, by omega, rfl, Below.refl _ _⟩
  obtain ⟨k, hk, rfl, hb⟩ := hrel
  by_cases hlt : k < C.length
  · obtain ⟨q0, q1⟩ := HRq.out wr hb k hlt
    have i1 : (k : Int) < (C.length : Int) := by omega
    have i2 : 0 ≤ (k : Int) := by omega
    have HLT := Lib.hid hlt
    cases hm : rb C k with
    | false =>
      rw [hm] at q0 q1
      clear hm
      go_wp2_with fail
      refine ⟨⟨k + 1, HLT.out, by go_num, hb⟩, ?_⟩
      have := HLT.out
      simp [intOf]
      omega
    | true =>
      rw [hm] at q0 q1
      obtain ⟨_, p0, hcode⟩ := HX5.out wr hb
      obtain ⟨bc, oc, rfl, hcc⟩ := hcode.some hlt
      obtain ⟨x0, x1, x2, x3, x4⟩ := hcc k hlt
      have hv := HV.out k hlt
      have HCl : Hid (∀ j (h : j < (tgtV C[k] ((k : Int) + 1)).length) (t : Nat), (tgtV C[k] ((k : Int) + 1))[j] = (t : Int) → t < C.length → rb C t = true) := Lib.hid (fun j h t e ht => rb_iff.2 (.step (rb_iff.1 hm) hlt ht ⟨hlt, .inl (by rw [← e]; exact List.getElem_mem h)⟩))
      generalize C[k] = x at *
      have HT0 := Lib.hid (fun j (h : j < (tgtV x ((k : Int) + 1)).length) => tgtV_nonneg (p := (k : Int) + 1) hv (by omega) _ (List.getElem_mem h))
      have hTl := tgtV_len x ((k : Int) + 1)
      have HTg := Lib.hid (fun W => ref06_Targets x k W (by omega))
      unfold insV at HTg
      generalize tgtV x ((k : Int) + 1) = T at *
      clear hm hv hcode hcc
      go_upto_region 13 with (go_at_call 28; (with_reducible refine (HTg.out _).mono ?_); rintro e w7 ⟨aT, cT, rfl, hT, hb7⟩)
      have hB7 := hb.trans (hb7.mono hb.size)
      clear hb7 x0 x1 x2 x3 x4 q0 q1 p0 HTg hb
      go_loopw [52] (fun c wz => ∃ j : Nat, j ≤ T.length ∧ c = .int .i64 j ∧ Below w7.heap.size w7 wz) (fun c _ => T.length - (intOf c).toNat)
      case atStart => exact ⟨0, by omega, rfl, Below.refl _ _⟩
      obtain ⟨j, hj, rfl, hb8⟩ := hrel
      by_cases hlt2 : j < T.length
      · obtain ⟨bT, oT, rfl, hTc⟩ : ∃ b off, aT = some ⟨b, off, none⟩ ∧ ∀ i (h : i < T.length), w7.cell? ⟨b, off + i, none⟩ = some (.int .i64 T[i]) := by
          rcases hT with h | ⟨b, off, h1, _, h2⟩
          · subst h; simp at hlt2
          · exact ⟨b, off, h1, h2⟩
        have t0 := cell_later hb8 (hTc j hlt2)
        obtain ⟨t, ht⟩ : ∃ t : Nat, T[j] = (t : Int) := ⟨T[j].toNat, by have := HT0.out j hlt2; omega⟩
        have hcl := HCl.out j hlt2 t ht
        rw [ht] at t0
        have HLT2 := Lib.hid hlt2
        have i4 : (j : Int) < (T.length : Int) := by omega
        have i5 : 0 ≤ (j : Int) := by omega
        have i6 : 0 ≤ (t : Int) := by omega
        by_cases htl : t < C.length
        · have i7 : (t : Int) < (C.length : Int) := by omega
          have q2 := (HRq.out wr (hB7.trans (hb8.mono hB7.size)) t htl).2
          rw [hcl htl] at q2
          clear hcl ht hTc hT
          go_wp2_with fail
          refine ⟨⟨j + 1, HLT2.out, by go_num, hb8⟩, ?_⟩
          have := HLT2.out
          simp [intOf]
          omega
        · have i7 : ¬ (t : Int) < (C.length : Int) := by omega
          clear hcl ht hTc hT
          go_wp2_with fail
          refine ⟨⟨j + 1, HLT2.out, by go_num, hb8⟩, ?_⟩
          have := HLT2.out
          simp [intOf]
          omega
      · obtain rfl : j = T.length := by omega
        clear hT
        go_wp2_with fail
        refine ⟨⟨k + 1, HLT.out, by go_num, hB7.trans (hb8.mono hB7.size)⟩, ?_⟩
        have := HLT.out
        simp [intOf]
        omega
  · obtain rfl : k = C.length := by omega
    have hF := (HX5.out wr hb).1
    go_wp2_with (go_at_call 10; (with_reducible refine (law08_awake _).mono ?_); rintro e w9 ⟨rfl, hb9⟩)
    go_ret
    exact ⟨rfl, hF.trans (hb9.mono hF.size)⟩

theorem walk {H : Type} (enc : TypeId × Value → H) (W : World) (base : Nat) (v0 : Value) (d0 : DataW H) (p0 : List MemPlace) (o0 : Value.okWide Try.prog W .any base 23 v0) (h0 : DataW.Trod enc Try.prog W 0 (fun _ => true) true 23 v0 d0 p0) :
    Calls Try.prog 6 #[v0] W fun e w' => e = .returned (.bool true) ∧ Below W.heap.size W w' := by
  obtain ⟨a, xs, ca, rfl, ha, hx, hl⟩ := open_nums Try.underlying23 Try.underlying3 (by kernel_rfl) o0 h0
  exact core rep_ok a xs ca W ha (fun x hx2 => int_of (hx x hx2)) (by unfold maxLen at hl; exact hl)
end Go.Proofs.Ythajndgljfbifaa.programReachesLaw
