/-
  Contracts: At and the document's own At.
-/
import Derived.Test.YtpjaflcljnfjmaaReg2
namespace Go.Proofs.Ytpjaflcljnfjmaa
open Go.RowKit

/-- The place with number i. -/
def atO (s : List Nat) (i : Int) : Option (Nat × Nat) := if 0 ≤ i then atF 0 s i.toNat else none

/-- What At answers: region, offset, error. -/
def atR (s : List Nat) (i : Int) : Int := match atO s i with | some p => (p.1 : Int) | none => 0
def atOf (s : List Nat) (i : Int) : Int := match atO s i with | some p => (p.2 : Int) | none => 0
def atE (s : List Nat) (i : Int) : Int := match atO s i with | some _ => 0 | none => 6

theorem at_some {s : List Nat} {i : Int} {r o : Nat} (h : atO s i = some (r, o)) : atR s i = (r : Int) ∧ atOf s i = (o : Int) ∧ atE s i = 0 := by
  unfold atR atOf atE; rw [h]; exact ⟨rfl, rfl, rfl⟩

theorem at_none {s : List Nat} {i : Int} (h : atO s i = none) : atR s i = 0 ∧ atOf s i = 0 ∧ atE s i = 6 := by
  unfold atR atOf atE; rw [h]; exact ⟨rfl, rfl, rfl⟩

theorem atO_neg {s : List Nat} {i : Int} (h : i < 0) : atO s i = none := by unfold atO; rw [if_neg (by omega)]
theorem atO_nat (s : List Nat) (n : Nat) : atO s (n : Int) = atF 0 s n := by unfold atO; rw [if_pos (by omega), Int.toNat_natCast]

set_option maxHeartbeats 1000000 in
theorem ref02_At (a : Option Addr) (s : List Nat) (cap : Nat) (i : Int) (w : World) (hi0 : -9223372036854775808 ≤ i) (hi : i ≤ 9223372036854775807) (hs : Sz s) (ha : NatsAt .i64 w a s) :
    Calls Try.prog 29 #[.slice a s.length cap, .int .i64 i] w fun e w' => e = .returned (.tuple #[.agg #[.int .i64 (atR s i), .int .i64 (atOf s i)], .int .i64 (atE s i)]) ∧ Below w.heap.size w w' := by
  have hB := Below.alloc (Below.refl w.heap.size w) (Nat.le_refl _) (.cells #[.int .i64 0, .int .i64 0] 39)
  have ha1 := ha.later hB
  have HS := Lib.hid hs
  have hl4 := hs.2.1
  clear hs ha
  by_cases h0 : i < 0
  · obtain ⟨e1, e2, e3⟩ := at_none (s := s) (atO_neg h0)
    rw [e1, e2, e3]
    clear e1 e2 e3
    go_enter Try.func29, Try.ntmps29
    go_wp2
    go_loop [1, 6, 7, 10] (fun l _ _ c => ∃ (k : Nat) (z : Int), k ≤ s.length ∧ c = .int .i64 k ∧ l = .int .i64 z ∧ -9223372036854775808 ≤ z ∧ z ≤ 9223372036854775807 ∧ (z < 0 ∨ 9223372036854775807 - 32 * (k : Int) ≤ z)) (fun _ _ _ c => s.length - (intOf c).toNat)
    case atStart => exact ⟨0, i, by omega, rfl, rfl, hi0, hi, .inl h0⟩
    case round =>
      obtain ⟨k, z, hk, rfl, rfl, hz0, hz1, hz⟩ := hrel
      by_cases hlt : k < s.length
      · obtain ⟨b, off, rfl, hc⟩ := ha1.some hlt
        have c1 := hc k hlt
        clear hc
        have i1 : (k : Int) < (s.length : Int) := by omega
        have hx := HS.out.2.2 _ (List.getElem_mem hlt)
        generalize s[k] = x at *
        by_cases hzn : z < 0
        · by_cases hzw : -9223372036854775808 ≤ z - (x : Int)
          · clear hz
            go_wp2
            go_round
            case rel => exact ⟨k + 1, z - (x : Int), by omega, by go_num, by go_num, by omega, by omega, .inl (by omega)⟩
            case measure => simp [intOf]; omega
          · have hw : IntKind.i64.wrap (z - (x : Int)) = z - (x : Int) + 18446744073709551616 := by rw [IntKind.wrap_i64]; omega
            clear hz
            go_wp2
            go_round
            case rel => exact ⟨k + 1, z - (x : Int) + 18446744073709551616, by omega, by go_num, by go_num, by omega, by omega, .inr (by omega)⟩
            case measure => simp [intOf]; omega
        · have hz3 : 9223372036854775807 - 32 * (k : Int) ≤ z := by omega
          clear hz
          go_wp2
          go_round
          case rel => exact ⟨k + 1, z - (x : Int), by omega, by go_num, by go_num, by omega, by omega, .inr (by omega)⟩
          case measure => simp [intOf]; omega
      · go_wp2
        refine bodyPost_ret (v := .tuple #[.agg #[.int .i64 0, .int .i64 0], .int .i64 6]) (by simp [results, Try.results29, go_sem]) rfl ⟨rfl, ?_⟩
        exact Below.alloc (Below.refl w.heap.size w) (Nat.le_refl _) _
  · obtain ⟨n, rfl⟩ : ∃ n : Nat, i = (n : Int) := ⟨i.toNat, by omega⟩
    go_enter Try.func29, Try.ntmps29
    go_wp2
    go_loop [1, 6, 7, 10] (fun l _ _ c => ∃ k m : Nat, k ≤ s.length ∧ m ≤ n ∧ c = .int .i64 k ∧ l = .int .i64 (m : Int) ∧ atF 0 s n = atF k (s.drop k) m) (fun _ _ _ c => s.length - (intOf c).toNat)
    case atStart => exact ⟨0, n, by omega, by omega, rfl, rfl, rfl⟩
    case round =>
      obtain ⟨k, m, hk, hm, rfl, rfl, heq⟩ := hrel
      have HE := Lib.hid heq
      clear heq
      by_cases hlt : k < s.length
      · obtain ⟨b, off, rfl, hc⟩ := ha1.some hlt
        have c1 := hc k hlt
        clear hc
        have i1 : (k : Int) < (s.length : Int) := by omega
        have i2 : 0 ≤ (m : Int) := by omega
        have hx := HS.out.2.2 _ (List.getElem_mem hlt)
        have hH := Lib.hid (fun hj : m < s[k] => HE.out.trans (atF_here s k m hlt hj))
        have hN := Lib.hid (fun hj : ¬ m < s[k] => HE.out.trans (atF_next s k m hlt hj))
        generalize s[k] = x at *
        by_cases hj : m < x
        · have HO : Hid (atO s (n : Int) = some (k, m)) := Lib.hid (by rw [atO_nat]; exact hH.out hj)
          go_wp2
          obtain ⟨e1, e2, e3⟩ := at_some HO.out
          refine bodyPost_ret (v := .tuple #[.agg #[.int .i64 (k : Int), .int .i64 (m : Int)], .int .i64 0]) (by simp [results, Try.results29, go_sem]) rfl ⟨by rw [e1, e2, e3], ?_⟩
          exact Below.alloc (Below.refl w.heap.size w) (Nat.le_refl _) _
        · have hn := Lib.hid (hN.out hj)
          go_wp2
          go_round
          case rel => exact ⟨k + 1, m - x, by omega, by omega, by go_num, by go_num, hn.out⟩
          case measure => simp [intOf]; omega
      · have HO : Hid (atO s (n : Int) = none) := Lib.hid (by rw [atO_nat, HE.out]; exact atF_end s k m (by omega))
        go_wp2
        obtain ⟨e1, e2, e3⟩ := at_none HO.out
        refine bodyPost_ret (v := .tuple #[.agg #[.int .i64 0, .int .i64 0], .int .i64 6]) (by simp [results, Try.results29, go_sem]) rfl ⟨by rw [e1, e2, e3], ?_⟩
        exact Below.alloc (Below.refl w.heap.size w) (Nat.le_refl _) _
end Go.Proofs.Ytpjaflcljnfjmaa
