/-
  Contracts: Valid, regionsOf, pagesOfRegion, Total, Pages and the document's own Valid, Total, Pages.
-/
import Derived.Test.YtpjaflcljnfjmaaOpenInts
import Derived.Test.YtpjaflcljnfjmaaRegMath
namespace Go.Proofs.Ytpjaflcljnfjmaa
open Go.RowKit

theorem IntsAt.some {k : IntKind} {w : World} {a : Option Addr} {xs : List Int} (h : IntsAt k w a xs) {j : Nat} (hj : j < xs.length) :
    ∃ b off, a = some ⟨b, off, none⟩ ∧ ∀ i (h : i < xs.length), w.cell? ⟨b, off + i, none⟩ = some (.int k xs[i]) := by
  rcases h with rfl | h
  · simp at hj
  · exact h

theorem NatsAt.ints {k : IntKind} {w : World} {a : Option Addr} {xs : List Nat} (h : NatsAt k w a xs) : IntsAt k w a (xs.map fun x : Nat => (x : Int)) := by
  rcases h with rfl | ⟨b, off, ha, h⟩
  · exact .inl rfl
  · exact .inr ⟨b, off, ha, fun i hi => by rw [h i (by simpa using hi)]; simp⟩

theorem ref02_Valid (a : Option Addr) (xs : List Int) (cap : Nat) (w : World) (ha : IntsAt .i64 w a xs) (hl : xs.length ≤ 1000000) :
    Calls Try.prog 24 #[.slice a xs.length cap] w fun e w' => e = .returned (.bool (validB xs)) ∧ w = w' := by
  go_enter Try.func24, Try.ntmps24
  go_wp2
  go_loop [4, 7] (fun _ c => ∃ k : Nat, k ≤ xs.length ∧ c = .int .i64 k ∧ ∀ x ∈ xs.take k, 1 ≤ x ∧ x ≤ 32) (fun _ c => xs.length - (intOf c).toNat)
  case atStart => exact ⟨0, by omega, rfl, by simp⟩
  case round =>
    obtain ⟨k, hk, rfl, hall⟩ := hrel
    have HA := Lib.hid hall
    clear hall
    by_cases hlt : k < xs.length
    · obtain ⟨b, off, rfl, hc⟩ := ha.some hlt
      have c1 := hc k hlt
      clear hc
      have i1 : (k : Int) < (xs.length : Int) := by omega
      have hb := Lib.hid (validB_bad xs k hlt)
      have hn := Lib.hid (validB_take xs k hlt HA.out)
      generalize xs[k] = x at *
      by_cases h1 : x < 1
      · have hv := Lib.hid (hb.out (by omega))
        go_wp2
        go_ret
        exact ⟨ret_bool hv.out.symm, rfl⟩
      · by_cases h2 : 32 < x
        · have hv := Lib.hid (hb.out (by omega))
          go_wp2
          go_ret
          exact ⟨ret_bool hv.out.symm, rfl⟩
        · have hv := Lib.hid (hn.out (by omega))
          go_wp2
          go_round
          case rel => exact ⟨k + 1, by omega, by go_num, hv.out⟩
          case measure => simp [intOf]; omega
    · obtain rfl : k = xs.length := by omega
      have hv := Lib.hid (validB_all xs HA.out)
      by_cases h1 : 1 ≤ xs.length
      · by_cases h2 : xs.length ≤ 4
        · have hv2 : Hid (validB xs = true) := Lib.hid (by rw [hv.out]; exact decide_eq_true ⟨h1, h2⟩)
          go_wp2
          go_ret
          exact ⟨ret_bool (by first | exact hv2.out.symm | (rw [hv2.out]; simp; omega)), rfl⟩
        · have hv2 : Hid (validB xs = false) := Lib.hid (by rw [hv.out]; exact decide_eq_false (fun h => h2 h.2))
          go_wp2
          go_ret
          exact ⟨ret_bool (by first | exact hv2.out.symm | (rw [hv2.out]; simp; omega)), rfl⟩
      · have hv2 : Hid (validB xs = false) := Lib.hid (by rw [hv.out]; exact decide_eq_false (fun h => h1 h.1))
        go_wp2
        go_ret
        exact ⟨ret_bool (by first | exact hv2.out.symm | (rw [hv2.out]; simp; omega)), rfl⟩

theorem region_Valid (a : Option Addr) (xs : List Int) (cap : Nat) (w : World) (ha : IntsAt .i64 w a xs) (hl : xs.length ≤ 1000000) :
    Calls Try.prog 26 #[.slice a xs.length cap] w fun e w' => e = .returned (.bool (validB xs)) ∧ w = w' := by
  by_cases h1 : xs.length < 1
  · have hv : Hid (validB xs = false) := Lib.hid (by unfold validB; exact decide_eq_false (fun h => by have := h.1; have := h.2.1; omega))
    go_enter Try.func26, Try.ntmps26
    go_wp2
    go_ret
    exact ⟨ret_bool hv.out.symm, rfl⟩
  · by_cases h2 : 4 < xs.length
    · have hv : Hid (validB xs = false) := Lib.hid (by unfold validB; exact decide_eq_false (fun h => by have := h.1; have := h.2.1; omega))
      go_enter Try.func26, Try.ntmps26
      go_wp2
      go_ret
      exact ⟨ret_bool hv.out.symm, rfl⟩
    · go_enter Try.func26, Try.ntmps26
      go_wp2
      go_loop [4, 15] (fun _ c => ∃ k : Nat, k ≤ xs.length ∧ c = .int .i64 k ∧ ∀ x ∈ xs.take k, 1 ≤ x ∧ x ≤ 32) (fun _ c => xs.length - (intOf c).toNat)
      case atStart => exact ⟨0, by omega, rfl, by simp⟩
      case round =>
        obtain ⟨k, hk, rfl, hall⟩ := hrel
        have HA := Lib.hid hall
        clear hall
        by_cases hlt : k < xs.length
        · obtain ⟨b, off, rfl, hc⟩ := ha.some hlt
          have c1 := hc k hlt
          clear hc
          have i1 : (k : Int) < (xs.length : Int) := by omega
          have hb := Lib.hid (validB_bad xs k hlt)
          have hn := Lib.hid (validB_take xs k hlt HA.out)
          generalize xs[k] = x at *
          by_cases h1 : x < 1
          · have hv := Lib.hid (hb.out (by omega))
            go_wp2
            go_ret
            exact ⟨ret_bool hv.out.symm, rfl⟩
          · by_cases h2 : 32 < x
            · have hv := Lib.hid (hb.out (by omega))
              go_wp2
              go_ret
              exact ⟨ret_bool hv.out.symm, rfl⟩
            · have hv := Lib.hid (hn.out (by omega))
              go_wp2
              go_round
              case rel => exact ⟨k + 1, by omega, by go_num, hv.out⟩
              case measure => simp [intOf]; omega
        · obtain rfl : k = xs.length := by omega
          have hv := Lib.hid (validB_all xs HA.out)
          go_wp2
          go_ret
          exact ⟨ret_bool (by rw [hv.out]; simp; omega), rfl⟩

theorem region_regionsOf (a : Option Addr) (s : List Nat) (cap : Nat) (w : World) (hs : Sz s) (ha : NatsAt .i64 w a s) :
    Calls Try.prog 33 #[.slice a s.length cap] w fun e w' => e = .returned (.slice a s.length cap) ∧ w = w' := by
  have hV := region_Valid a (s.map fun x : Nat => (x : Int)) cap w ha.ints (by rw [List.length_map]; have := hs.2.1; omega)
  rw [(validB_nat s).2 hs, List.length_map] at hV
  have HV := Lib.hid hV
  clear hV ha hs
  go_enter Try.func33, Try.ntmps33
  go_wp2_with (go_at_call 26; (with_reducible refine HV.out.mono ?_); rintro e w' ⟨rfl, rfl⟩)
  go_ret
  exact ⟨rfl, rfl⟩

theorem pg_int (n : Nat) : ((n : Int) + 8 - 1) / 8 = ((pg n : Nat) : Int) := by unfold pg; omega

theorem ref02_Total (a : Option Addr) (s : List Nat) (cap : Nat) (w : World) (hl4 : s.length ≤ 4) (hx : ∀ x ∈ s, x ≤ 32) (ha : NatsAt .i64 w a s) :
    Calls Try.prog 17 #[.slice a s.length cap] w fun e w' => e = .returned (.int .i64 ((s.sum : Nat) : Int)) ∧ w = w' := by
  have HX := Lib.hid hx
  have HT : Hid (∀ k, (s.take k).sum ≤ 128) := Lib.hid fun k => by
    have h1 := sum_le (s.take k) (fun x hx2 => hx x (List.mem_of_mem_take hx2))
    have h2 : (s.take k).length ≤ 4 := by rw [List.length_take]; omega
    omega
  clear hx
  go_enter Try.func17, Try.ntmps17
  go_wp2
  go_loop [3, 5, 8] (fun t _ c => ∃ k : Nat, k ≤ s.length ∧ c = .int .i64 k ∧ t = .int .i64 (((s.take k).sum : Nat) : Int)) (fun _ _ c => s.length - (intOf c).toNat)
  case atStart => exact ⟨0, by omega, rfl, rfl⟩
  case round =>
    obtain ⟨k, hk, rfl, rfl⟩ := hrel
    by_cases hlt : k < s.length
    · obtain ⟨b, off, rfl, hc⟩ := ha.some hlt
      have c1 := hc k hlt
      clear hc
      have i1 : (k : Int) < (s.length : Int) := by omega
      have hn := Lib.hid (sum_take_succ s k hlt)
      have hx := HX.out _ (List.getElem_mem hlt)
      have ht := HT.out k
      generalize s[k] = x at *
      go_wp2
      go_round
      case rel => exact ⟨k + 1, by omega, by go_num, by rw [hn.out]; go_num⟩
      case measure => simp [intOf]; omega
    · obtain rfl : k = s.length := by omega
      go_wp2
      go_ret
      exact ⟨rfl, rfl⟩

end Go.Proofs.Ytpjaflcljnfjmaa
