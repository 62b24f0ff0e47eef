/-
  Contracts: which layouts are valid (apart, Valid), and the document's own Valid.
  Contract: the document's own Valid.
  Contracts: Valid, and the document's own Valid.
  Contracts: Resolve and Address.
-/
import Derived.Test.YthajndgljfbifaaReg1
import Derived.Test.YthajndgljfbifaaReg2
import Derived.Test.YthajndgljfbifaaLayMath
import Derived.Test.YthajndgljfbifaaLayRes
import Derived.Test.YthajndgljfbifaaReg4
namespace Go.Proofs.Ythajndgljfbifaa
open Go.RowKit

theorem IntsAt.later {k : IntKind} {w w' : World} {a : Option Addr} {xs : List Int} (h : IntsAt k w a xs) (hb : Below w.heap.size w w') : IntsAt k w' a xs := by
  rcases h with h | ⟨b, off, ha, h⟩
  · exact .inl h
  · exact .inr ⟨b, off, ha, fun i hi => cell_later hb (h i hi)⟩

set_option maxHeartbeats 1000000 in
theorem layout_apart (a : Option Addr) (bs : List Int) (ca : Nat) (key : Int) (b : Option Addr) (s : List Nat) (cb : Nat) (i j : Nat) (w : World) (hs : Sz s) (hl : bs.length = s.length) (hi : i < bs.length) (hj : j < bs.length)
    (ri : InR bs s i) (rj : InR bs s j) (ha : IntsAt .i64 w a bs) (hb : NatsAt .i64 w b s) :
    Calls Try.prog 110 #[.agg #[.slice a bs.length ca, .int .u16 key], .slice b s.length cb, .int .i64 (i : Int), .int .i64 (j : Int)] w fun e w' => e = .returned (.bool (decide (Ap bs s i j))) ∧ Below w.heap.size w w' := by
  have hB := Below.alloc (Below.refl w.heap.size w) (Nat.le_refl _) (.cells #[.slice a bs.length ca, .int .u16 key] 29)
  have hl4 := hs.2.1
  have hsi : i < s.length := by omega
  have hsj : j < s.length := by omega
  have ra := (inr_at hi hsi).1 ri
  have rb := (inr_at hj hsj).1 rj
  have xi := (hs.2.2 _ (List.getElem_mem hsi)).2
  have xj := (hs.2.2 _ (List.getElem_mem hsj)).2
  have HA := Lib.hid (ap_at hi hsi hj hsj)
  obtain ⟨b1, o1, rfl, hc⟩ := ha.some hi
  obtain ⟨b2, o2, rfl, hd⟩ := hb.some hsi
  have c1 := cell_later hB (hc i hi)
  have c2 := cell_later hB (hc j hj)
  have c3 := cell_later hB (hd i hsi)
  have c4 := cell_later hB (hd j hsj)
  clear hc hd ri rj ha hb hs
  generalize bs[i] = x at *
  generalize bs[j] = y at *
  generalize s[i] = m at *
  generalize s[j] = n at *
  have i1 : (i : Int) < (bs.length : Int) := by omega
  have i2 : (j : Int) < (bs.length : Int) := by omega
  have i3 : (i : Int) < (s.length : Int) := by omega
  have i4 : (j : Int) < (s.length : Int) := by omega
  have i5 : 0 ≤ (i : Int) := by omega
  have i6 : 0 ≤ (j : Int) := by omega
  clear hl hsi hsj
  have w1 : IntKind.i64.wrap (x + (m : Int)) = x + (m : Int) := IntWalk.i64_in _ (by omega)
  have w2 : IntKind.i64.wrap (y + (n : Int)) = y + (n : Int) := IntWalk.i64_in _ (by omega)
  by_cases h1 : x + (m : Int) < y
  · have hv : Hid (decide (Ap bs s i j) = true) := Lib.hid (decide_eq_true (HA.out.2 (.inl h1)))
    go_enter Try.func110, Try.ntmps110
    go_wp2
    go_quiet (fail)
    go_wp2
    go_ret
    exact ⟨ret_bool hv.out.symm, below_drewN hB _⟩
  · by_cases h2 : y + (n : Int) < x
    · have hv : Hid (decide (Ap bs s i j) = true) := Lib.hid (decide_eq_true (HA.out.2 (.inr h2)))
      go_enter Try.func110, Try.ntmps110
      go_wp2
      go_quiet (fail)
      go_wp2
      go_ret
      exact ⟨ret_bool hv.out.symm, below_drewN hB _⟩
    · have hv : Hid (decide (Ap bs s i j) = false) := Lib.hid (decide_eq_false (fun h => by rcases HA.out.1 h with h | h <;> omega))
      go_enter Try.func110, Try.ntmps110
      go_wp2
      go_quiet (fail)
      go_wp2
      go_ret
      exact ⟨ret_bool (by rw [hv.out]; simp; omega), below_drewN hB _⟩
end Go.Proofs.Ythajndgljfbifaa
namespace Go.Proofs.Ythajndgljfbifaa
open Go.RowKit

set_option maxHeartbeats 1000000 in
theorem ref03_Valid (a : Option Addr) (bs : List Int) (ca : Nat) (key : Int) (b : Option Addr) (xs : List Int) (cb : Nat) (w : World) (lb : bs.length ≤ 1000000) (lx : xs.length ≤ 1000000) (hcap : bs.length ≤ ca)
    (ha : IntsAt .i64 w a bs) (hb : IntsAt .i64 w b xs) :
    Calls Try.prog 53 #[.agg #[.slice a bs.length ca, .int .u16 key], .slice b xs.length cb] w fun e w' => e = .returned (.bool (layB bs xs)) ∧ Below w.heap.size w w' := by
  have hB := Below.alloc (Below.refl w.heap.size w) (Nat.le_refl _) (.cells #[.slice a bs.length ca, .int .u16 key] 29)
  have HV := Lib.hid (ref02_Valid b xs cb _ (hb.later hB) lx)
  by_cases hv : validB xs = true
  case neg =>
    have hv : validB xs = false := by simpa using hv
    have HL := Lib.hid (layB_bad bs hv)
    rw [hv] at HV
    clear hv ha hb
    go_enter Try.func53, Try.ntmps53
    go_wp2_with (go_at_call 48; (with_reducible refine HV.out.mono ?_); rintro e w' ⟨rfl, rfl⟩)
    go_ret
    exact ⟨ret_bool HL.out.symm, hB⟩
  case pos =>
    rw [hv] at HV
    obtain ⟨s, hs, rfl⟩ := validB_some hv
    rw [layB_nat bs hs]
    rw [List.length_map] at HV ⊢
    clear hv lx
    by_cases hl : bs.length = s.length
    case neg =>
      have HL := Lib.hid (decide_eq_false (not_len hl))
      have hl2 : ((bs.length : Int) == (s.length : Int)) = false := by rw [beq_eq_false_iff_ne]; omega
      clear ha hb hl hs
      go_enter Try.func53, Try.ntmps53
      go_wp2_with (go_at_call 48; (with_reducible refine HV.out.mono ?_); rintro e w' ⟨rfl, rfl⟩)
      go_ret
      exact ⟨ret_bool HL.out.symm, hB⟩
    case pos =>
      have hn : NatsAt .i64 w b s := by
        have := nats_of hb (by intro x hx; obtain ⟨y, _, rfl⟩ := List.mem_map.1 hx; omega)
        rwa [toNat_map] at this
      have HS := Lib.hid hs
      have HE := Lib.hid hl
      have hl4 : bs.length ≤ 4 := by have := hs.2.1; omega
      have hl2 : ((bs.length : Int) == (s.length : Int)) = true := by rw [beq_iff_eq]; omega
      have ha1 := ha.later hB
      have hn1 := hn.later hB
      clear hb hl hs ha hn
      go_enter Try.func53, Try.ntmps53
      go_wp2_with (go_at_call 48; (with_reducible refine HV.out.mono ?_); rintro e w' ⟨rfl, rfl⟩)
      go_loop [4, 5, 6, 7, 8, 23, 44] (fun _ _ _ _ _ c _ => ∃ k : Nat, k ≤ bs.length ∧ c = .int .i64 k ∧ (∀ i, i < k → InR bs s i) ∧ ∀ i, i < k → ∀ j, j < i → Ap bs s i j) (fun _ _ _ _ _ c _ => bs.length - (intOf c).toNat)
      case atStart => exact ⟨0, by omega, rfl, (fun i hi => by omega), (fun i hi => by omega)⟩
      case round =>
        obtain ⟨k, hk, rfl, hall, hal2⟩ := hrel
        have HA := Lib.hid hall
        have H1 := Lib.hid hal2
        clear hall hal2
        by_cases hlt : k < bs.length
        · have hsk : k < s.length := by have := HE.out; omega
          obtain ⟨b1, o1, rfl, hc⟩ := ha1.some hlt
          obtain ⟨b2, o2, rfl, hd⟩ := hn1.some hsk
          have c1 := hc k hlt
          have c2 := hd k hsk
          have HC := Lib.hid hc
          have HD := Lib.hid hd
          clear hc hd
          have i1 : (k : Int) < (bs.length : Int) := by omega
          have i2 : (k : Int) < (s.length : Int) := by omega
          have i3 : 0 ≤ (k : Int) := by omega
          have hR := Lib.hid (inr_at hlt hsk)
          have hx := HS.out.2.2 _ (List.getElem_mem hsk)
          have hF : Hid (¬ InR bs s k → decide (LV bs s) = false) := Lib.hid (fun h => decide_eq_false (not_in hlt h))
          have HAP := Lib.hid (fun (m : Nat) (hm : m < bs.length) (hm2 : m < s.length) => ap_at hlt hsk hm hm2)
          generalize bs[k] = x at *
          generalize s[k] = y at *
          by_cases h1 : x < 0
          · have HL := Lib.hid (hF.out (fun h => by have := hR.out.1 h; omega))
            clear hsk
            go_wp2
            go_ret
            exact ⟨ret_bool HL.out.symm, hB⟩
          · by_cases h2 : 512 - (y : Int) < x
            · have HL := Lib.hid (hF.out (fun h => by have := hR.out.1 h; omega))
              clear hsk
              go_wp2
              go_ret
              exact ⟨ret_bool HL.out.symm, hB⟩
            · have hG : Hid (∀ i, i < k + 1 → InR bs s i) := Lib.hid (all_succ HA.out (hR.out.2 ⟨by omega, by omega⟩))
              have i4 : (k : Int) ≤ (ca : Int) := by omega
              clear hsk
              go_wp2
              go_loop [4, 7, 8, 44] (fun _ _ _ c => ∃ m : Nat, m ≤ k ∧ c = .int .i64 m ∧ ∀ j, j < m → Ap bs s k j) (fun _ _ _ c => k - (intOf c).toNat)
              case atStart => exact ⟨0, by omega, rfl, fun i hi => by omega⟩
              case round =>
                obtain ⟨m, hm, rfl, hall⟩ := hrel
                have H2 := Lib.hid hall
                clear hall
                by_cases hlt2 : m < k
                · have hmb : m < bs.length := by omega
                  have hms : m < s.length := by have := HE.out; omega
                  have j1 : (m : Int) < (k : Int) := by omega
                  have j2 : (m : Int) < (s.length : Int) := by omega
                  have j3 : 0 ≤ (m : Int) := by omega
                  have d1 := HC.out m hmb
                  have d2 := HD.out m hms
                  have hQ := Lib.hid (HAP.out m hmb hms)
                  have hq := (inr_at hmb hms).1 (HA.out m hlt2)
                  have hqy := HS.out.2.2 _ (List.getElem_mem hms)
                  generalize bs[m] = z at *
                  generalize s[m] = t at *
                  have w1 : IntKind.i64.wrap (x + (y : Int)) = x + (y : Int) := IntWalk.i64_in _ (by omega)
                  have w2 : IntKind.i64.wrap (z + (t : Int)) = z + (t : Int) := IntWalk.i64_in _ (by omega)
                  by_cases g1 : x + (y : Int) < z
                  · have hap : Hid (∀ j, j < m + 1 → Ap bs s k j) := Lib.hid (all_succ H2.out (hQ.out.2 (.inl g1)))
                    clear hms
                    go_wp2
                    go_round
                    case rel => exact ⟨m + 1, by omega, by go_num, hap.out⟩
                    case measure => simp [intOf]; omega
                  · by_cases g2 : z + (t : Int) < x
                    · have hap : Hid (∀ j, j < m + 1 → Ap bs s k j) := Lib.hid (all_succ H2.out (hQ.out.2 (.inr g2)))
                      clear hms
                      go_wp2
                      go_round
                      case rel => exact ⟨m + 1, by omega, by go_num, hap.out⟩
                      case measure => simp [intOf]; omega
                    · have HL : Hid (decide (LV bs s) = false) := Lib.hid (decide_eq_false (not_ap hlt hlt2 (fun h => by rcases hQ.out.1 h with h | h <;> omega)))
                      clear hms
                      go_wp2
                      go_ret
                      exact ⟨ret_bool HL.out.symm, hB⟩
                · obtain rfl : m = k := by omega
                  have hG2 : Hid (∀ i, i < m + 1 → ∀ j, j < i → Ap bs s i j) := Lib.hid (all_succ H1.out H2.out)
                  go_wp2
                  go_round
                  case rel => exact ⟨_, _, _, _, _, _, ⟨m + 1, by omega, rfl, hG.out, hG2.out⟩, rfl, rfl, rfl, rfl, rfl, by go_num⟩
                  case measure => simp [intOf]; omega
        · obtain rfl : k = bs.length := by omega
          have HL : Hid (decide (LV bs s) = true) := Lib.hid (decide_eq_true ⟨HE.out, HA.out, H1.out⟩)
          go_wp2
          go_ret
          exact ⟨ret_bool HL.out.symm, hB⟩
end Go.Proofs.Ythajndgljfbifaa
namespace Go.Proofs.Ythajndgljfbifaa
open Go.RowKit

set_option maxHeartbeats 1000000 in
theorem layout_Valid (a : Option Addr) (bs : List Int) (ca : Nat) (key : Int) (b : Option Addr) (xs : List Int) (cb : Nat) (w : World) (lb : bs.length ≤ 1000000) (lx : xs.length ≤ 1000000)
    (ha : IntsAt .i64 w a bs) (hb : IntsAt .i64 w b xs) :
    Calls Try.prog 85 #[.agg #[.slice a bs.length ca, .int .u16 key], .slice b xs.length cb] w fun e w' => e = .returned (.bool (layB bs xs)) ∧ Below w.heap.size w w' := by
  have hB := Below.alloc (Below.refl w.heap.size w) (Nat.le_refl _) (.cells #[.slice a bs.length ca, .int .u16 key] 29)
  have HV := Lib.hid (region_Valid b xs cb _ (hb.later hB) lx)
  by_cases hv : validB xs = true
  case neg =>
    have hv : validB xs = false := by simpa using hv
    have HL := Lib.hid (layB_bad bs hv)
    rw [hv] at HV
    clear hv ha hb
    go_enter Try.func85, Try.ntmps85
    go_wp2_with (go_at_call 44; (with_reducible refine HV.out.mono ?_); rintro e w' ⟨rfl, rfl⟩)
    go_ret
    exact ⟨ret_bool HL.out.symm, hB⟩
  case pos =>
    rw [hv] at HV
    obtain ⟨s, hs, rfl⟩ := validB_some hv
    rw [layB_nat bs hs]
    rw [List.length_map] at HV ⊢
    clear hv lx
    by_cases hl : bs.length = s.length
    case neg =>
      have HL := Lib.hid (decide_eq_false (not_len hl))
      have hl2 : ((bs.length : Int) == (s.length : Int)) = false := by rw [beq_eq_false_iff_ne]; omega
      clear ha hb hl hs
      go_enter Try.func85, Try.ntmps85
      go_wp2_with (go_at_call 44; (with_reducible refine HV.out.mono ?_); rintro e w' ⟨rfl, rfl⟩)
      go_ret
      exact ⟨ret_bool HL.out.symm, hB⟩
    case pos =>
      have hn : NatsAt .i64 w b s := by
        have := nats_of hb (by intro x hx; obtain ⟨y, _, rfl⟩ := List.mem_map.1 hx; omega)
        rwa [toNat_map] at this
      have HS := Lib.hid hs
      have HE := Lib.hid hl
      have hl4 : bs.length ≤ 4 := by have := hs.2.1; omega
      have HP := Lib.hid (fun (i j : Nat) W (hW : Below w.heap.size w W) (hi : i < bs.length) (hj : j < bs.length) (ri : InR bs s i) (rj : InR bs s j) => layout_apart a bs ca key b s cb i j W hs hl hi hj ri rj (ha.later hW) (hn.later hW))
      have hl2 : ((bs.length : Int) == (s.length : Int)) = true := by rw [beq_iff_eq]; omega
      have ha1 := ha.later hB
      have hn1 := hn.later hB
      clear hb hl hs ha hn
      go_enter Try.func85, Try.ntmps85
      go_wp2_with (go_at_call 44; (with_reducible refine HV.out.mono ?_); rintro e w' ⟨rfl, rfl⟩)
      go_loop [4, 5, 6, 23] (fun _ _ _ c => ∃ k : Nat, k ≤ bs.length ∧ c = .int .i64 k ∧ ∀ i, i < k → InR bs s i) (fun _ _ _ c => bs.length - (intOf c).toNat)
      case atStart => exact ⟨0, by omega, rfl, fun i hi => by omega⟩
      case round =>
        obtain ⟨k, hk, rfl, hall⟩ := hrel
        have HA := Lib.hid hall
        clear hall
        by_cases hlt : k < bs.length
        · have hsk : k < s.length := by have := HE.out; omega
          obtain ⟨b1, o1, rfl, hc⟩ := ha1.some hlt
          obtain ⟨b2, o2, rfl, hd⟩ := hn1.some hsk
          have c1 := hc k hlt
          have c2 := hd k hsk
          clear hc hd
          have i1 : (k : Int) < (bs.length : Int) := by omega
          have i2 : (k : Int) < (s.length : Int) := by omega
          have i3 : 0 ≤ (k : Int) := by omega
          have hR := Lib.hid (inr_at hlt hsk)
          have hx := HS.out.2.2 _ (List.getElem_mem hsk)
          have hF : Hid (¬ InR bs s k → decide (LV bs s) = false) := Lib.hid (fun h => decide_eq_false (not_in hlt h))
          generalize bs[k] = x at *
          generalize s[k] = y at *
          by_cases h1 : x < 0
          · have HL := Lib.hid (hF.out (fun h => by have := hR.out.1 h; omega))
            clear hsk
            go_wp2
            go_ret
            exact ⟨ret_bool HL.out.symm, hB⟩
          · by_cases h2 : 512 - (y : Int) < x
            · have HL := Lib.hid (hF.out (fun h => by have := hR.out.1 h; omega))
              clear hsk
              go_wp2
              go_ret
              exact ⟨ret_bool HL.out.symm, hB⟩
            · have hG : Hid (∀ i, i < k + 1 → InR bs s i) := Lib.hid (all_succ HA.out (hR.out.2 ⟨by omega, by omega⟩))
              clear hsk
              go_wp2
              go_round
              case rel => exact ⟨k + 1, by omega, by go_num, hG.out⟩
              case measure => simp [intOf]; omega
        · obtain rfl : k = bs.length := by omega
          have hB2 := hB
          clear ha1 hn1 hlt
          go_wp2
          go_loopw [4, 7, 8, 43, 47] (fun _ _ _ c _ wr => ∃ k : Nat, k ≤ bs.length ∧ c = .int .i64 k ∧ (∀ i, i < k → ∀ j, j < i → Ap bs s i j) ∧ Below (w.heap.size + 1) (w.alloc (.cells #[.slice a bs.length ca, .int .u16 key] 29)) wr) (fun _ _ _ c _ _ => bs.length - (intOf c).toNat)
          case atStart => exact ⟨0, by omega, rfl, (fun i hi => by omega), Below.refl _ _⟩
          case round =>
            obtain ⟨k, hk, rfl, hall, hw⟩ := hrel
            have H1 := Lib.hid hall
            clear hall
            by_cases hlt : k < bs.length
            · have i1 : (k : Int) < (bs.length : Int) := by omega
              go_wp2
              go_loopw [4, 8, 47] (fun _ _ c w2 => ∃ m : Nat, m ≤ k ∧ c = .int .i64 m ∧ (∀ j, j < m → Ap bs s k j) ∧ Below (w.heap.size + 1) (w.alloc (.cells #[.slice a bs.length ca, .int .u16 key] 29)) w2) (fun _ _ c _ => k - (intOf c).toNat)
              case atStart => exact ⟨0, by omega, rfl, (fun i hi => by omega), hw⟩
              case round =>
                obtain ⟨m, hm, rfl, hall, hw2⟩ := hrel
                have H2 := Lib.hid hall
                clear hall
                have hb2 : Below w.heap.size w wr := hB.trans (hw2.mono (by omega))
                by_cases hlt2 : m < k
                · have i2 : (m : Int) < (k : Int) := by omega
                  obtain ⟨b0, b1⟩ := boxed hw2 (by simp)
                  have hP := HP.out k m wr hb2 hlt (by omega) (HA.out k hlt) (HA.out m (by omega))
                  by_cases hap : Ap bs s k m
                  · rw [decide_eq_true hap] at hP
                    have HQ := Lib.hid hP
                    have hG : Hid (∀ j, j < m + 1 → Ap bs s k j) := Lib.hid (all_succ H2.out hap)
                    clear hP hap
                    go_wp2_with fail
                    refine HQ.out.mono ?_
                    rintro e w3 ⟨rfl, hb3⟩
                    have hw3 := hw2.trans (hb3.mono (by have := hw2.size; simpa using this))
                    go_wp2
                    go_roundw
                    case rel => exact ⟨m + 1, by omega, by go_num, hG.out, hw3⟩
                    case measure => simp [intOf]; omega
                  · rw [decide_eq_false hap] at hP
                    have HQ := Lib.hid hP
                    have HL := Lib.hid (decide_eq_false (not_ap hlt hlt2 hap))
                    clear hP hap
                    go_wp2_with fail
                    refine HQ.out.mono ?_
                    rintro e w3 ⟨rfl, hb3⟩
                    have hw3 := hb2.trans (hb3.mono hb2.size)
                    go_wp2
                    go_ret
                    exact ⟨ret_bool HL.out.symm, hw3⟩
                · obtain rfl : m = k := by omega
                  have hG : Hid (∀ i, i < m + 1 → ∀ j, j < i → Ap bs s i j) := Lib.hid (all_succ H1.out H2.out)
                  go_wp2
                  go_roundw
                  case rel => exact ⟨m + 1, by omega, by go_num, hG.out, hw2⟩
                  case measure => simp [intOf]; omega
            · obtain rfl : k = bs.length := by omega
              have HL : Hid (decide (LV bs s) = true) := Lib.hid (decide_eq_true ⟨HE.out, HA.out, H1.out⟩)
              have hb2 : Below w.heap.size w wr := hB.trans (hw.mono (by omega))
              go_wp2
              go_ret
              exact ⟨ret_bool HL.out.symm, hb2⟩
end Go.Proofs.Ythajndgljfbifaa
namespace Go.Proofs.Ythajndgljfbifaa
open Go.RowKit

theorem layB_true {bs : List Int} {s : List Nat} (hs : Sz s) (h : LV bs s) : layB bs (s.map fun x : Nat => (x : Int)) = true := by
  rw [layB_nat bs hs]; exact decide_eq_true h

/-- Valid of a valid layout. -/
theorem layout_Valid_true (a : Option Addr) (bs : List Int) (ca : Nat) (key : Int) (b : Option Addr) (s : List Nat) (cb : Nat) (w : World) (hs : Sz s) (hv : LV bs s) (ha : IntsAt .i64 w a bs) (hb : NatsAt .i64 w b s) :
    Calls Try.prog 85 #[.agg #[.slice a bs.length ca, .int .u16 key], .slice b s.length cb] w fun e w' => e = .returned (.bool true) ∧ Below w.heap.size w w' := by
  have h4 := hs.2.1
  have h1 := hv.1
  have := layout_Valid a bs ca key b (s.map fun x : Nat => (x : Int)) cb w (by omega) (by rw [List.length_map]; omega) ha hb.ints
  rw [layB_true hs hv, List.length_map] at this
  exact this

end Go.Proofs.Ythajndgljfbifaa
