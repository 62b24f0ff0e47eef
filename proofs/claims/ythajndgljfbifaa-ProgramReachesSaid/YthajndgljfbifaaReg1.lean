/-
  Contracts: Valid, regionsOf, pagesOfRegion, Total, Pages and the document's own Valid, Total, Pages.
-/
import Derived.Test.YthajndgljfbifaaOpenInts
import Derived.Test.YthajndgljfbifaaRegMath
namespace Go.Proofs.Ythajndgljfbifaa
open Go.RowKit

theorem IntsAt.some {k : IntKind} {w : World} {a : Option Addr} {xs : List Int} (h : IntsAt k w a xs) {j : Nat} (hj : j < xs.length) :
    ∃ b off, a = some ⟨b, off, none⟩ ∧ ∀ i (h : i < xs.length), w.cell? ⟨b, off + i, none⟩ = some (.int k xs[i]) := by
  rcases h with rfl | h
  · simp at hj
  · exact h

theorem NatsAt.ints {k : IntKind} {w : World} {a : Option Addr} {xs : List Nat} (h : NatsAt k w a xs) : IntsAt k w a (xs.map fun x : Nat => (x : Int)) := by
  rcases h with rfl | ⟨b, off, ha, h⟩
  · exact .inl rfl
  · exact .inr ⟨b, off, ha, fun i hi => by rw [h i (by simpa using hi)]; simp⟩

theorem ref02_Valid (a : Option Addr) (xs : List Int) (cap : Nat) (w : World) (ha : IntsAt .i64 w a xs) (hl : xs.length ≤ 1000000) :
    Calls Try.prog 48 #[.slice a xs.length cap] w fun e w' => e = .returned (.bool (validB xs)) ∧ w = w' := by
  go_enter Try.func48, Try.ntmps48
  go_wp2
  go_loop [4, 7] (fun _ c => ∃ k : Nat, k ≤ xs.length ∧ c = .int .i64 k ∧ ∀ x ∈ xs.take k, 1 ≤ x ∧ x ≤ 32) (fun _ c => xs.length - (intOf c).toNat)
  case atStart => exact ⟨0, by omega, rfl, by simp⟩
  case round =>
    obtain ⟨k, hk, rfl, hall⟩ := hrel
    have HA := Lib.hid hall
    clear hall
    by_cases hlt : k < xs.length
    · obtain ⟨b, off, rfl, hc⟩ := ha.some hlt
      have c1 := hc k hlt
      clear hc
      have i1 : (k : Int) < (xs.length : Int) := by omega
      have hb := Lib.hid (validB_bad xs k hlt)
      have hn := Lib.hid (validB_take xs k hlt HA.out)
      generalize xs[k] = x at *
      by_cases h1 : x < 1
      · have hv := Lib.hid (hb.out (by omega))
        go_wp2
        go_ret
        exact ⟨ret_bool hv.out.symm, rfl⟩
      · by_cases h2 : 32 < x
        · have hv := Lib.hid (hb.out (by omega))
          go_wp2
          go_ret
          exact ⟨ret_bool hv.out.symm, rfl⟩
        · have hv := Lib.hid (hn.out (by omega))
          go_wp2
          go_round
          case rel => exact ⟨k + 1, by omega, by go_num, hv.out⟩
          case measure => simp [intOf]; omega
    · obtain rfl : k = xs.length := by omega
      have hv := Lib.hid (validB_all xs HA.out)
      by_cases h1 : 1 ≤ xs.length
      · by_cases h2 : xs.length ≤ 4
        · have hv2 : Hid (validB xs = true) := Lib.hid (by rw [hv.out]; exact decide_eq_true ⟨h1, h2⟩)
          go_wp2
          go_ret
          exact ⟨ret_bool (by first | exact hv2.out.symm | (rw [hv2.out]; simp; omega)), rfl⟩
        · have hv2 : Hid (validB xs = false) := Lib.hid (by rw [hv.out]; exact decide_eq_false (fun h => h2 h.2))
          go_wp2
          go_ret
          exact ⟨ret_bool (by first | exact hv2.out.symm | (rw [hv2.out]; simp; omega)), rfl⟩
      · have hv2 : Hid (validB xs = false) := Lib.hid (by rw [hv.out]; exact decide_eq_false (fun h => h1 h.1))
        go_wp2
        go_ret
        exact ⟨ret_bool (by first | exact hv2.out.symm | (rw [hv2.out]; simp; omega)), rfl⟩

theorem region_Valid (a : Option Addr) (xs : List Int) (cap : Nat) (w : World) (ha : IntsAt .i64 w a xs) (hl : xs.length ≤ 1000000) :
    Calls Try.prog 44 #[.slice a xs.length cap] w fun e w' => e = .returned (.bool (validB xs)) ∧ w = w' := by
  by_cases h1 : xs.length < 1
  · have hv : Hid (validB xs = false) := Lib.hid (by unfold validB; exact decide_eq_false (fun h => by have := h.1; have := h.2.1; omega))
    go_enter Try.func44, Try.ntmps44
    go_wp2
    go_ret
    exact ⟨ret_bool hv.out.symm, rfl⟩
  · by_cases h2 : 4 < xs.length
    · have hv : Hid (validB xs = false) := Lib.hid (by unfold validB; exact decide_eq_false (fun h => by have := h.1; have := h.2.1; omega))
      go_enter Try.func44, Try.ntmps44
      go_wp2
      go_ret
      exact ⟨ret_bool hv.out.symm, rfl⟩
    · go_enter Try.func44, Try.ntmps44
      go_wp2
      go_loop [4, 15] (fun _ c => ∃ k : Nat, k ≤ xs.length ∧ c = .int .i64 k ∧ ∀ x ∈ xs.take k, 1 ≤ x ∧ x ≤ 32) (fun _ c => xs.length - (intOf c).toNat)
      case atStart => exact ⟨0, by omega, rfl, by simp⟩
      case round =>
        obtain ⟨k, hk, rfl, hall⟩ := hrel
        have HA := Lib.hid hall
        clear hall
        by_cases hlt : k < xs.length
        · obtain ⟨b, off, rfl, hc⟩ := ha.some hlt
          have c1 := hc k hlt
          clear hc
          have i1 : (k : Int) < (xs.length : Int) := by omega
          have hb := Lib.hid (validB_bad xs k hlt)
          have hn := Lib.hid (validB_take xs k hlt HA.out)
          generalize xs[k] = x at *
          by_cases h1 : x < 1
          · have hv := Lib.hid (hb.out (by omega))
            go_wp2
            go_ret
            exact ⟨ret_bool hv.out.symm, rfl⟩
          · by_cases h2 : 32 < x
            · have hv := Lib.hid (hb.out (by omega))
              go_wp2
              go_ret
              exact ⟨ret_bool hv.out.symm, rfl⟩
            · have hv := Lib.hid (hn.out (by omega))
              go_wp2
              go_round
              case rel => exact ⟨k + 1, by omega, by go_num, hv.out⟩
              case measure => simp [intOf]; omega
        · obtain rfl : k = xs.length := by omega
          have hv := Lib.hid (validB_all xs HA.out)
          go_wp2
          go_ret
          exact ⟨ret_bool (by rw [hv.out]; simp; omega), rfl⟩

theorem pg_int (n : Nat) : ((n : Int) + 8 - 1) / 8 = ((pg n : Nat) : Int) := by unfold pg; omega

end Go.Proofs.Ythajndgljfbifaa
