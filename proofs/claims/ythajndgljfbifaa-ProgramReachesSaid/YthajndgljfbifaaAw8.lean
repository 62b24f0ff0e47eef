/-
  The sanity check of stage 8's laws: the chapter's example.
-/
import Derived.Test.YthajndgljfbifaaSta8
import Derived.Test.YthajndgljfbifaaEnc8
import Derived.Test.YthajndgljfbifaaIc6
namespace Go.Proofs.Ythajndgljfbifaa
open Go.RowKit
set_option maxRecDepth 100000

def exC : List Ins := [⟨0, 0, 0, 0, 0⟩]

theorem con8 : chkE exC [1] [[]] = 0 ∧ encV exC [1] [[]] = [1, 1, 0, 1, 0, 0, 0, 0, 0, 0] ∧ layB [3] [1] = true := by decide +kernel

theorem ex_at (w : World) (B : Nat) (hB : B = w.heap.size) (V : World) (hV : V = (((w.alloc (.cells #[.int .i64 0, .int .i64 0, .int .i64 0, .int .i64 0, .int .i64 0] 66)).alloc (.cells #[.int .i64 1] 3)).alloc (.cells #[.slice none 0 0] 84)).alloc (.cells #[.slice (some ⟨B, 0, none⟩) 1 1, .slice (some ⟨B + 1, 0, none⟩) 1 1, .slice (some ⟨B + 1 + 1, 0, none⟩) 1 1] 26)) :
    CodeAt V (some ⟨B, 0, none⟩) exC ∧ IntsAt .i64 V (some ⟨B + 1, 0, none⟩) [1] ∧ DatAt V (some ⟨B + 1 + 1, 0, none⟩) [[]] ∧ Blk V (B + 1 + 1 + 1) [.slice (some ⟨B, 0, none⟩) 1 1, .slice (some ⟨B + 1, 0, none⟩) 1 1, .slice (some ⟨B + 1 + 1, 0, none⟩) 1 1] ∧ Below w.heap.size w V := by
  subst hB hV
  refine ⟨.inr ⟨_, _, rfl, fun i hi => ?_⟩, .inr ⟨_, _, rfl, fun i hi => ?_⟩, .inr ⟨_, _, rfl, fun i hi => ?_⟩, ?_, ?_⟩
  · obtain rfl : i = 0 := by simp [exC] at hi; omega
    refine ⟨?_, ?_, ?_, ?_, ?_⟩ <;> (simp only [exC, List.getElem_cons_zero]; go_simp)
  · obtain rfl : i = 0 := by simp at hi; omega
    go_simp
  · obtain rfl : i = 0 := by simp at hi; omega
    exact ⟨none, 0, by go_simp, .inl rfl⟩
  · have h := Blk.new (W := ((w.alloc (.cells #[.int .i64 0, .int .i64 0, .int .i64 0, .int .i64 0, .int .i64 0] 66)).alloc (.cells #[.int .i64 1] 3)).alloc (.cells #[.slice none 0 0] 84)) #[.slice (some ⟨w.heap.size, 0, none⟩) 1 1, .slice (some ⟨w.heap.size + 1, 0, none⟩) 1 1, .slice (some ⟨w.heap.size + 1 + 1, 0, none⟩) 1 1] 26
    simpa using h
  · exact ((((Below.refl _ _).alloc (Nat.le_refl _) _).alloc (by simp) _).alloc (by simp; omega) _).alloc (by simp; omega) _

set_option maxHeartbeats 2000000 in
theorem law08_awake (w : World) :
    Calls Try.prog 10 #[] w fun e w' => e = .returned (.bool true) ∧ Below w.heap.size w w' := by
  go_enter Try.func10, Try.ntmps10
  go_upto_region 2 with fail
  obtain ⟨V, hV⟩ : ∃ V, V = (((w.alloc (.cells #[.int .i64 0, .int .i64 0, .int .i64 0, .int .i64 0, .int .i64 0] 66)).alloc (.cells #[.int .i64 1] 3)).alloc (.cells #[.slice none 0 0] 84)).alloc (.cells #[.slice (some ⟨w.heap.size, 0, none⟩) 1 1, .slice (some ⟨w.heap.size + 1, 0, none⟩) 1 1, .slice (some ⟨w.heap.size + 1 + 1, 0, none⟩) 1 1] 26) := ⟨_, rfl⟩
  obtain ⟨hc, hs, hd, hb, hB⟩ := ex_at w _ rfl V hV
  rw [← hV]
  clear hV
  have HEn : Hid (Calls Try.prog 20 #[.agg #[.slice (some ⟨w.heap.size, 0, none⟩) 1 1, .slice (some ⟨w.heap.size + 1, 0, none⟩) 1 1, .slice (some ⟨w.heap.size + 1 + 1, 0, none⟩) 1 1]] V (GivesBytes [1, 1, 0, 1, 0, 0, 0, 0, 0, 0] 0 V)) := Lib.hid (by
    have h := program_Encode _ _ _ exC [1] [[]] 1 1 1 V hc hs hd (by simp [exC]) (by simp) (by simp) (by simp) (by simp)
    rw [con8.1, con8.2.1] at h
    exact h)
  have HSt : Hid (∀ W, Below V.heap.size V W → ∀ lay, IntsAt .i64 W lay [3] → Calls Try.prog 17 #[.agg #[.slice (some ⟨w.heap.size, 0, none⟩) 1 1, .slice (some ⟨w.heap.size + 1, 0, none⟩) 1 1, .slice (some ⟨w.heap.size + 1 + 1, 0, none⟩) 1 1], .agg #[.slice lay 1 1, .int .u16 0]] W (GivesStart exC [1] [[]] [3] 0 W)) := Lib.hid (fun W h lay hl => program_Start _ _ _ lay exC [1] [[]] [3] 0 1 1 1 1 W (hc.later h) (ints_later7 hs h) (hd.later h) hl (by simp [exC]) (by simp) (by simp) (by simp) (by simp))
  have HB := Lib.hid hB
  have b0 := (hb 0 (by simp)).1
  have b1 := (hb 1 (by simp)).1
  have b2 := (hb 2 (by simp)).1
  clear hc hs hd hB
  go_upto_region 3 with (go_at_call 20; (with_reducible refine HEn.out.mono ?_); rintro e w1 ⟨ae, ce, rfl, hce, hne, hb1⟩)
  have hA := Below.alloc (Below.refl w1.heap.size w1) (Nat.le_refl _) (.cells #[.int .i64 3] 3)
  have hb2 := hb1.trans (hA.mono hb1.size)
  have hl3 : IntsAt .i64 (w1.alloc (.cells #[.int .i64 3] 3)) (some ⟨w1.heap.size, 0, none⟩) [3] := .inr ⟨_, _, rfl, fun i hi => by
    obtain rfl : i = 0 := by simp at hi; omega
    go_simp⟩
  have HS2 := Lib.hid (HSt.out _ hb2 _ hl3)
  have hx := hb.later hb1
  have b0 := (hx 0 (by simp)).1
  have b1 := (hx 1 (by simp)).1
  have b2 := (hx 2 (by simp)).1
  have HN := Lib.hid (hne.later hA)
  have HB2 := Lib.hid (HB.out.trans (hb2.mono HB.out.size))
  clear HSt HEn hb hb1 hb2 hl3 hx hne hA HB hce
  go_upto_region 4 with (go_at_call 17; (with_reducible refine HS2.out.mono ?_); rintro e w3 hG; obtain ⟨hb3, ⟨hk, _⟩ | ⟨_, hk, _⟩ | ⟨_, _, la, lc, c, cc, g, cl, ta, tc, rfl, hlc, hi, hcc, hll, ht⟩⟩ := hG; (first | exact absurd con8.1 hk | (rw [con8.2.2] at hk; cases hk) | skip))
  have MB := Blk.new (W := w3) #[.slice la 1 lc, .int .u16 0, .slice (some ⟨c, 0, none⟩) 512 cc, .slice (some ⟨g, 0, none⟩) 4 cl, .slice ta 4 tc] 47
  have hA := Below.alloc (Below.refl w3.heap.size w3) (Nat.le_refl _) (.cells #[.slice la 1 lc, .int .u16 0, .slice (some ⟨c, 0, none⟩) 512 cc, .slice (some ⟨g, 0, none⟩) 4 cl, .slice ta 4 tc] 47)
  have hN4 := (HN.out.later hb3).later hA
  have HF := Lib.hid (HB2.out.trans ((hb3.trans (hA.mono hb3.size)).mono HB2.out.size))
  have ht4 := ht.later hA
  obtain ⟨tb, tf, rfl, htc⟩ := ht4.some (k := 0) (by simp [firstT])
  have t0 := (htc 0 (by simp [firstT])).1
  have t1 := (htc 1 (by simp [firstT])).1
  have e0 : (firstT[0]'(by simp [firstT])).st = 1 := rfl
  have e1 : (firstT[1]'(by simp [firstT])).st = 0 := rfl
  rw [e0, Nat.zero_mul, Nat.add_zero] at t0
  rw [e1, Nat.one_mul] at t1
  have m4 := (MB 4 (by simp)).1
  clear hi hcc hll ht ht4 htc hb3 hA HN HB2 MB HS2 e0 e1 b0 b1 b2
  generalize w3.alloc (.cells #[.slice la 1 lc, .int .u16 0, .slice (some ⟨c, 0, none⟩) 512 cc, .slice (some ⟨g, 0, none⟩) 4 cl, .slice (some ⟨tb, tf, none⟩) 4 tc] 47) = W4 at *
  have hc := conv_of hN4 (by decide) 10 ce rfl
  rw [show strOf [1, 1, 0, 1, 0, 0, 0, 0, 0, 0] = ⟨#[1, 1, 0, 1, 0, 0, 0, 0, 0, 0]⟩ from rfl] at hc
  clear hN4
  go_wp2_with fail
  go_ret
  exact ⟨rfl, HF.out⟩
end Go.Proofs.Ythajndgljfbifaa
