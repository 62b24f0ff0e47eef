/-
  Contracts: Valid, and the document's own Valid.
-/
import Derived.Test.YtaigkplalcnelaaLay1
namespace Go.Proofs.Ytaigkplalcnelaa
open Go.RowKit

set_option maxHeartbeats 1000000 in
theorem layout_Valid (a : Option Addr) (bs : List Int) (ca : Nat) (key : Int) (b : Option Addr) (xs : List Int) (cb : Nat) (w : World) (lb : bs.length ≤ 1000000) (lx : xs.length ≤ 1000000)
    (ha : IntsAt .i64 w a bs) (hb : IntsAt .i64 w b xs) :
    Calls Try.prog 21 #[.agg #[.slice a bs.length ca, .int .u16 key], .slice b xs.length cb] w fun e w' => e = .returned (.bool (layB bs xs)) ∧ Below w.heap.size w w' := by
  have hB := Below.alloc (Below.refl w.heap.size w) (Nat.le_refl _) (.cells #[.slice a bs.length ca, .int .u16 key] 32)
  have HV := Lib.hid (region_Valid b xs cb _ (hb.later hB) lx)
  by_cases hv : validB xs = true
  case neg =>
    have hv : validB xs = false := by simpa using hv
    have HL := Lib.hid (layB_bad bs hv)
    rw [hv] at HV
    clear hv ha hb
    go_enter Try.func21, Try.ntmps21
    go_wp2_with (go_at_call 31; (with_reducible refine HV.out.mono ?_); rintro e w' ⟨rfl, rfl⟩)
    go_ret
    exact ⟨ret_bool HL.out.symm, hB⟩
  case pos =>
    rw [hv] at HV
    obtain ⟨s, hs, rfl⟩ := validB_some hv
    rw [layB_nat bs hs]
    rw [List.length_map] at HV ⊢
    clear hv lx
    by_cases hl : bs.length = s.length
    case neg =>
      have HL := Lib.hid (decide_eq_false (not_len hl))
      have hl2 : ((bs.length : Int) == (s.length : Int)) = false := by rw [beq_eq_false_iff_ne]; omega
      clear ha hb hl hs
      go_enter Try.func21, Try.ntmps21
      go_wp2_with (go_at_call 31; (with_reducible refine HV.out.mono ?_); rintro e w' ⟨rfl, rfl⟩)
      go_ret
      exact ⟨ret_bool HL.out.symm, hB⟩
    case pos =>
      have hn : NatsAt .i64 w b s := by
        have := nats_of hb (by intro x hx; obtain ⟨y, _, rfl⟩ := List.mem_map.1 hx; omega)
        rwa [toNat_map] at this
      have HS := Lib.hid hs
      have HE := Lib.hid hl
      have hl4 : bs.length ≤ 4 := by have := hs.2.1; omega
      have HP := Lib.hid (fun (i j : Nat) W (hW : Below w.heap.size w W) (hi : i < bs.length) (hj : j < bs.length) (ri : InR bs s i) (rj : InR bs s j) => layout_apart a bs ca key b s cb i j W hs hl hi hj ri rj (ha.later hW) (hn.later hW))
      have hl2 : ((bs.length : Int) == (s.length : Int)) = true := by rw [beq_iff_eq]; omega
      have ha1 := ha.later hB
      have hn1 := hn.later hB
      clear hb hl hs ha hn
      go_enter Try.func21, Try.ntmps21
      go_wp2_with (go_at_call 31; (with_reducible refine HV.out.mono ?_); rintro e w' ⟨rfl, rfl⟩)
      go_loop [4, 5, 6, 23] (fun _ _ _ c => ∃ k : Nat, k ≤ bs.length ∧ c = .int .i64 k ∧ ∀ i, i < k → InR bs s i) (fun _ _ _ c => bs.length - (intOf c).toNat)
      case atStart => exact ⟨0, by omega, rfl, fun i hi => by omega⟩
      case round =>
        obtain ⟨k, hk, rfl, hall⟩ := hrel
        have HA := Lib.hid hall
        clear hall
        by_cases hlt : k < bs.length
        · have hsk : k < s.length := by have := HE.out; omega
          obtain ⟨b1, o1, rfl, hc⟩ := ha1.some hlt
          obtain ⟨b2, o2, rfl, hd⟩ := hn1.some hsk
          have c1 := hc k hlt
          have c2 := hd k hsk
          clear hc hd
          have i1 : (k : Int) < (bs.length : Int) := by omega
          have i2 : (k : Int) < (s.length : Int) := by omega
          have i3 : 0 ≤ (k : Int) := by omega
          have hR := Lib.hid (inr_at hlt hsk)
          have hx := HS.out.2.2 _ (List.getElem_mem hsk)
          have hF : Hid (¬ InR bs s k → decide (LV bs s) = false) := Lib.hid (fun h => decide_eq_false (not_in hlt h))
          generalize bs[k] = x at *
          generalize s[k] = y at *
          by_cases h1 : x < 0
          · have HL := Lib.hid (hF.out (fun h => by have := hR.out.1 h; omega))
            clear hsk
            go_wp2
            go_ret
            exact ⟨ret_bool HL.out.symm, hB⟩
          · by_cases h2 : 512 - (y : Int) < x
            · have HL := Lib.hid (hF.out (fun h => by have := hR.out.1 h; omega))
              clear hsk
              go_wp2
              go_ret
              exact ⟨ret_bool HL.out.symm, hB⟩
            · have hG : Hid (∀ i, i < k + 1 → InR bs s i) := Lib.hid (all_succ HA.out (hR.out.2 ⟨by omega, by omega⟩))
              clear hsk
              go_wp2
              go_round
              case rel => exact ⟨k + 1, by omega, by go_num, hG.out⟩
              case measure => simp [intOf]; omega
        · obtain rfl : k = bs.length := by omega
          have hB2 := hB
          clear ha1 hn1 hlt
          go_wp2
          go_loopw [4, 7, 8, 43, 47] (fun _ _ _ c _ wr => ∃ k : Nat, k ≤ bs.length ∧ c = .int .i64 k ∧ (∀ i, i < k → ∀ j, j < i → Ap bs s i j) ∧ Below (w.heap.size + 1) (w.alloc (.cells #[.slice a bs.length ca, .int .u16 key] 32)) wr) (fun _ _ _ c _ _ => bs.length - (intOf c).toNat)
          case atStart => exact ⟨0, by omega, rfl, (fun i hi => by omega), Below.refl _ _⟩
          case round =>
            obtain ⟨k, hk, rfl, hall, hw⟩ := hrel
            have H1 := Lib.hid hall
            clear hall
            by_cases hlt : k < bs.length
            · have i1 : (k : Int) < (bs.length : Int) := by omega
              go_wp2
              go_loopw [4, 8, 47] (fun _ _ c w2 => ∃ m : Nat, m ≤ k ∧ c = .int .i64 m ∧ (∀ j, j < m → Ap bs s k j) ∧ Below (w.heap.size + 1) (w.alloc (.cells #[.slice a bs.length ca, .int .u16 key] 32)) w2) (fun _ _ c _ => k - (intOf c).toNat)
              case atStart => exact ⟨0, by omega, rfl, (fun i hi => by omega), hw⟩
              case round =>
                obtain ⟨m, hm, rfl, hall, hw2⟩ := hrel
                have H2 := Lib.hid hall
                clear hall
                have hb2 : Below w.heap.size w wr := hB.trans (hw2.mono (by omega))
                by_cases hlt2 : m < k
                · have i2 : (m : Int) < (k : Int) := by omega
                  obtain ⟨b0, b1⟩ := boxed hw2 (by simp)
                  have hP := HP.out k m wr hb2 hlt (by omega) (HA.out k hlt) (HA.out m (by omega))
                  by_cases hap : Ap bs s k m
                  · rw [decide_eq_true hap] at hP
                    have HQ := Lib.hid hP
                    have hG : Hid (∀ j, j < m + 1 → Ap bs s k j) := Lib.hid (all_succ H2.out hap)
                    clear hP hap
                    go_wp2_with fail
                    refine HQ.out.mono ?_
                    rintro e w3 ⟨rfl, hb3⟩
                    have hw3 := hw2.trans (hb3.mono (by have := hw2.size; simpa using this))
                    go_wp2
                    go_roundw
                    case rel => exact ⟨m + 1, by omega, by go_num, hG.out, hw3⟩
                    case measure => simp [intOf]; omega
                  · rw [decide_eq_false hap] at hP
                    have HQ := Lib.hid hP
                    have HL := Lib.hid (decide_eq_false (not_ap hlt hlt2 hap))
                    clear hP hap
                    go_wp2_with fail
                    refine HQ.out.mono ?_
                    rintro e w3 ⟨rfl, hb3⟩
                    have hw3 := hb2.trans (hb3.mono hb2.size)
                    go_wp2
                    go_ret
                    exact ⟨ret_bool HL.out.symm, hw3⟩
                · obtain rfl : m = k := by omega
                  have hG : Hid (∀ i, i < m + 1 → ∀ j, j < i → Ap bs s i j) := Lib.hid (all_succ H1.out H2.out)
                  go_wp2
                  go_roundw
                  case rel => exact ⟨m + 1, by omega, by go_num, hG.out, hw2⟩
                  case measure => simp [intOf]; omega
            · obtain rfl : k = bs.length := by omega
              have HL : Hid (decide (LV bs s) = true) := Lib.hid (decide_eq_true ⟨HE.out, HA.out, H1.out⟩)
              have hb2 : Below w.heap.size w wr := hB.trans (hw.mono (by omega))
              go_wp2
              go_ret
              exact ⟨ret_bool HL.out.symm, hb2⟩
end Go.Proofs.Ytaigkplalcnelaa
