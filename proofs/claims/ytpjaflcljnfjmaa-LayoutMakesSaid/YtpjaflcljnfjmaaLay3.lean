/-
  Contract: the document's own Valid.
-/
import Derived.Test.YtpjaflcljnfjmaaLay1
namespace Go.Proofs.Ytpjaflcljnfjmaa
open Go.RowKit

set_option maxHeartbeats 1000000 in
theorem ref03_Valid (a : Option Addr) (bs : List Int) (ca : Nat) (key : Int) (b : Option Addr) (xs : List Int) (cb : Nat) (w : World) (lb : bs.length ≤ 1000000) (lx : xs.length ≤ 1000000) (hcap : bs.length ≤ ca)
    (ha : IntsAt .i64 w a bs) (hb : IntsAt .i64 w b xs) :
    Calls Try.prog 12 #[.agg #[.slice a bs.length ca, .int .u16 key], .slice b xs.length cb] w fun e w' => e = .returned (.bool (layB bs xs)) ∧ Below w.heap.size w w' := by
  have hB := Below.alloc (Below.refl w.heap.size w) (Nat.le_refl _) (.cells #[.slice a bs.length ca, .int .u16 key] 25)
  have HV := Lib.hid (ref02_Valid b xs cb _ (hb.later hB) lx)
  by_cases hv : validB xs = true
  case neg =>
    have hv : validB xs = false := by simpa using hv
    have HL := Lib.hid (layB_bad bs hv)
    rw [hv] at HV
    clear hv ha hb
    go_enter Try.func12, Try.ntmps12
    go_wp2_with (go_at_call 24; (with_reducible refine HV.out.mono ?_); rintro e w' ⟨rfl, rfl⟩)
    go_ret
    exact ⟨ret_bool HL.out.symm, hB⟩
  case pos =>
    rw [hv] at HV
    obtain ⟨s, hs, rfl⟩ := validB_some hv
    rw [layB_nat bs hs]
    rw [List.length_map] at HV ⊢
    clear hv lx
    by_cases hl : bs.length = s.length
    case neg =>
      have HL := Lib.hid (decide_eq_false (not_len hl))
      have hl2 : ((bs.length : Int) == (s.length : Int)) = false := by rw [beq_eq_false_iff_ne]; omega
      clear ha hb hl hs
      go_enter Try.func12, Try.ntmps12
      go_wp2_with (go_at_call 24; (with_reducible refine HV.out.mono ?_); rintro e w' ⟨rfl, rfl⟩)
      go_ret
      exact ⟨ret_bool HL.out.symm, hB⟩
    case pos =>
      have hn : NatsAt .i64 w b s := by
        have := nats_of hb (by intro x hx; obtain ⟨y, _, rfl⟩ := List.mem_map.1 hx; omega)
        rwa [toNat_map] at this
      have HS := Lib.hid hs
      have HE := Lib.hid hl
      have hl4 : bs.length ≤ 4 := by have := hs.2.1; omega
      have hl2 : ((bs.length : Int) == (s.length : Int)) = true := by rw [beq_iff_eq]; omega
      have ha1 := ha.later hB
      have hn1 := hn.later hB
      clear hb hl hs ha hn
      go_enter Try.func12, Try.ntmps12
      go_wp2_with (go_at_call 24; (with_reducible refine HV.out.mono ?_); rintro e w' ⟨rfl, rfl⟩)
      go_loop [4, 5, 6, 7, 8, 23, 44] (fun _ _ _ _ _ c _ => ∃ k : Nat, k ≤ bs.length ∧ c = .int .i64 k ∧ (∀ i, i < k → InR bs s i) ∧ ∀ i, i < k → ∀ j, j < i → Ap bs s i j) (fun _ _ _ _ _ c _ => bs.length - (intOf c).toNat)
      case atStart => exact ⟨0, by omega, rfl, (fun i hi => by omega), (fun i hi => by omega)⟩
      case round =>
        obtain ⟨k, hk, rfl, hall, hal2⟩ := hrel
        have HA := Lib.hid hall
        have H1 := Lib.hid hal2
        clear hall hal2
        by_cases hlt : k < bs.length
        · have hsk : k < s.length := by have := HE.out; omega
          obtain ⟨b1, o1, rfl, hc⟩ := ha1.some hlt
          obtain ⟨b2, o2, rfl, hd⟩ := hn1.some hsk
          have c1 := hc k hlt
          have c2 := hd k hsk
          have HC := Lib.hid hc
          have HD := Lib.hid hd
          clear hc hd
          have i1 : (k : Int) < (bs.length : Int) := by omega
          have i2 : (k : Int) < (s.length : Int) := by omega
          have i3 : 0 ≤ (k : Int) := by omega
          have hR := Lib.hid (inr_at hlt hsk)
          have hx := HS.out.2.2 _ (List.getElem_mem hsk)
          have hF : Hid (¬ InR bs s k → decide (LV bs s) = false) := Lib.hid (fun h => decide_eq_false (not_in hlt h))
          have HAP := Lib.hid (fun (m : Nat) (hm : m < bs.length) (hm2 : m < s.length) => ap_at hlt hsk hm hm2)
          generalize bs[k] = x at *
          generalize s[k] = y at *
          by_cases h1 : x < 0
          · have HL := Lib.hid (hF.out (fun h => by have := hR.out.1 h; omega))
            clear hsk
            go_wp2
            go_ret
            exact ⟨ret_bool HL.out.symm, hB⟩
          · by_cases h2 : 512 - (y : Int) < x
            · have HL := Lib.hid (hF.out (fun h => by have := hR.out.1 h; omega))
              clear hsk
              go_wp2
              go_ret
              exact ⟨ret_bool HL.out.symm, hB⟩
            · have hG : Hid (∀ i, i < k + 1 → InR bs s i) := Lib.hid (all_succ HA.out (hR.out.2 ⟨by omega, by omega⟩))
              have i4 : (k : Int) ≤ (ca : Int) := by omega
              clear hsk
              go_wp2
              go_loop [4, 7, 8, 44] (fun _ _ _ c => ∃ m : Nat, m ≤ k ∧ c = .int .i64 m ∧ ∀ j, j < m → Ap bs s k j) (fun _ _ _ c => k - (intOf c).toNat)
              case atStart => exact ⟨0, by omega, rfl, fun i hi => by omega⟩
              case round =>
                obtain ⟨m, hm, rfl, hall⟩ := hrel
                have H2 := Lib.hid hall
                clear hall
                by_cases hlt2 : m < k
                · have hmb : m < bs.length := by omega
                  have hms : m < s.length := by have := HE.out; omega
                  have j1 : (m : Int) < (k : Int) := by omega
                  have j2 : (m : Int) < (s.length : Int) := by omega
                  have j3 : 0 ≤ (m : Int) := by omega
                  have d1 := HC.out m hmb
                  have d2 := HD.out m hms
                  have hQ := Lib.hid (HAP.out m hmb hms)
                  have hq := (inr_at hmb hms).1 (HA.out m hlt2)
                  have hqy := HS.out.2.2 _ (List.getElem_mem hms)
                  generalize bs[m] = z at *
                  generalize s[m] = t at *
                  have w1 : IntKind.i64.wrap (x + (y : Int)) = x + (y : Int) := IntWalk.i64_in _ (by omega)
                  have w2 : IntKind.i64.wrap (z + (t : Int)) = z + (t : Int) := IntWalk.i64_in _ (by omega)
                  by_cases g1 : x + (y : Int) < z
                  · have hap : Hid (∀ j, j < m + 1 → Ap bs s k j) := Lib.hid (all_succ H2.out (hQ.out.2 (.inl g1)))
                    clear hms
                    go_wp2
                    go_round
                    case rel => exact ⟨m + 1, by omega, by go_num, hap.out⟩
                    case measure => simp [intOf]; omega
                  · by_cases g2 : z + (t : Int) < x
                    · have hap : Hid (∀ j, j < m + 1 → Ap bs s k j) := Lib.hid (all_succ H2.out (hQ.out.2 (.inr g2)))
                      clear hms
                      go_wp2
                      go_round
                      case rel => exact ⟨m + 1, by omega, by go_num, hap.out⟩
                      case measure => simp [intOf]; omega
                    · have HL : Hid (decide (LV bs s) = false) := Lib.hid (decide_eq_false (not_ap hlt hlt2 (fun h => by rcases hQ.out.1 h with h | h <;> omega)))
                      clear hms
                      go_wp2
                      go_ret
                      exact ⟨ret_bool HL.out.symm, hB⟩
                · obtain rfl : m = k := by omega
                  have hG2 : Hid (∀ i, i < m + 1 → ∀ j, j < i → Ap bs s i j) := Lib.hid (all_succ H1.out H2.out)
                  go_wp2
                  go_round
                  case rel => exact ⟨_, _, _, _, _, _, ⟨m + 1, by omega, rfl, hG.out, hG2.out⟩, rfl, rfl, rfl, rfl, rfl, by go_num⟩
                  case measure => simp [intOf]; omega
        · obtain rfl : k = bs.length := by omega
          have HL : Hid (decide (LV bs s) = true) := Lib.hid (decide_eq_true ⟨HE.out, HA.out, H1.out⟩)
          go_wp2
          go_ret
          exact ⟨ret_bool HL.out.symm, hB⟩
end Go.Proofs.Ytpjaflcljnfjmaa
