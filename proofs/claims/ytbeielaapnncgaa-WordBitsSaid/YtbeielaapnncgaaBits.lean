/-
  WordBits: for every cell, every word and every int the law returns true.
-/
import Derived.Test.YtbeielaapnncgaaCells
import Derived.ProofKit
import Derived.OpenShut
import Derived.Lib.SmallJoins
namespace Go.Proofs.Ytbeielaapnncgaa.wordBitsLaw
open Go.RowKit Go.ChangeShapes Go.WideShapes Go.ChangeAt Go.Joins

set_option maxHeartbeats 1000000 in
theorem core (t u v : Nat) (b : Int) (w : World) (ht : t < 256) (hv : v < 65536) (h1 : -9223372036854775808 ≤ b) (h2 : b ≤ 9223372036854775807) :
    Calls Try.prog 3 #[.agg #[.int .u8 (t : Int), .int .u16 (u : Int)], .int .u16 (v : Int), .int .i64 b] w fun e w' => e = .returned (.bool true) ∧ Below w.heap.size w w' := by
  have hm := Lib.hid (fun W => dmod_any b 20 W (by omega) (by omega) h1 h2)
  obtain ⟨m, hm1, hm2⟩ : ∃ m : Int, 0 ≤ m ∧ m < 20 ∧ b % 20 = m := ⟨b % 20, by omega, by omega, rfl⟩
  obtain ⟨hm2, hm3⟩ := hm2
  rw [hm3] at hm
  clear hm3
  go_enter Try.func3, Try.ntmps3
  go_wp2_with (first
      | (go_at_call 9; (with_reducible refine (hm.out _).mono ?_); rintro e w' ⟨rfl, rfl⟩))
  go_loop [8, 15] (fun _ i => ∃ k : Nat, k ≤ 2 ∧ i = .int .i64 k) (fun _ i => 2 - (intOf i).toNat)
  case atStart => exact ⟨0, by omega, rfl⟩
  case round =>
    obtain ⟨k, hk, rfl⟩ := hrel
    by_cases hlt : k < 2
    · have hv2 : ∃ x : Int, (-9223372036854775808 ≤ x ∧ x ≤ 9223372036854775807) ∧ ((w.alloc (.cells #[.int .u8 (t : Int), .int .u16 (u : Int)] 24)).alloc (.cells #[.int .i64 b, .int .i64 (m - 2)] 3)).cell? ⟨w.heap.size + 1, k, none⟩ = some (.int .i64 x) := by
        rw [World.cell?_alloc_at _ _ _ _ (by simp)]
        have : k = 0 ∨ k = 1 := by omega
        rcases this with rfl | rfl
        · exact ⟨b, ⟨h1, h2⟩, rfl⟩
        · exact ⟨m - 2, by omega, rfl⟩
      obtain ⟨x, ⟨hx1, hx2⟩, hc⟩ := hv2
      have hk2 : (k : Int) < 2 := by omega
      go_wp2_with (first
        | (go_at_call 10; (with_reducible refine (flip_any v x _ hv).mono ?_); rintro e w' ⟨rfl, rfl⟩)
        | (go_at_call 11; (with_reducible refine (rflip_any v x _ hv hx1 hx2).mono ?_); rintro e w' ⟨rfl, rfl⟩))
      go_round
      case rel => exact ⟨k + 1, by omega, by go_num⟩
      case measure => simp [intOf]; omega
    · obtain rfl : k = 2 := by omega
      have c1 : ((w.alloc (.cells #[.int .u8 (t : Int), .int .u16 (u : Int)] 24)).alloc (.cells #[.int .i64 b, .int .i64 (m - 2)] 3)).cell? ⟨w.heap.size, 0, none⟩ = some (.int .u8 (t : Int)) := by
        rw [World.cell?_alloc_past _ _ _ (by simp), World.cell?_alloc_at _ _ _ _ rfl]; rfl
      have c2 : ((w.alloc (.cells #[.int .u8 (t : Int), .int .u16 (u : Int)] 24)).alloc (.cells #[.int .i64 b, .int .i64 (m - 2)] 3)).cell? ⟨w.heap.size, 1, none⟩ = some (.int .u16 (u : Int)) := by
        rw [World.cell?_alloc_past _ _ _ (by simp), World.cell?_alloc_at _ _ _ _ rfl]; rfl
      have hB : Below w.heap.size w ((w.alloc (.cells #[.int .u8 (t : Int), .int .u16 (u : Int)] 24)).alloc (.cells #[.int .i64 b, .int .i64 (m - 2)] 3)) := ((Below.refl _ _).alloc (Nat.le_refl _) _).alloc (by simp) _
      generalize ((w.alloc (.cells #[.int .u8 (t : Int), .int .u16 (u : Int)] 24)).alloc (.cells #[.int .i64 b, .int .i64 (m - 2)] 3)) = W at *
      have t0 : 0 ≤ (t : Int) := by omega
      have t1 : (t : Int) ≤ 255 := by omega
      have g0 : 0 ≤ (t : Int).tmod 4 := Int.tmod_nonneg 4 t0
      have g1 : (t : Int).tmod 4 ≤ 255 := by have := Int.tmod_lt_of_pos (t : Int) (b := 4) (by omega); omega
      go_wp2
      go_region_held3 (fun w' => w'.cell? ⟨w.heap.size, 0, none⟩ = some (.int .u8 (t : Int)) ∧ w'.cell? ⟨w.heap.size, 1, none⟩ = some (.int .u16 (u : Int)) ∧ Below w.heap.size w w')
        (first | exact ⟨c1, c2, hB.drew⟩ | assumption | (go_split_ands; exact ⟨by assumption, by assumption, by assumption⟩) | (go_split_ands; exact ⟨cell_later hb5 (by assumption), cell_later hb5 (by assumption), Below.trans (by assumption) (hb5.mono (Below.size (by assumption)))⟩))
        (first
          | (go_at_call 12; (with_reducible refine (valid_any (t : Int) _ _ t0 t1).mono ?_); rintro e w' ⟨rfl, hb5⟩)
          | (go_at_call 12; (with_reducible refine (valid_any ((t : Int).tmod 4) _ _ g0 g1).mono ?_); rintro e w' ⟨rfl, hb5⟩)
          | (go_at_call 13; (with_reducible refine (rvalid_any (t : Int) _ _ t0 t1).mono ?_); rintro e w' ⟨rfl, hb5⟩)
          | (go_at_call 13; (with_reducible refine (rvalid_any ((t : Int).tmod 4) _ _ g0 g1).mono ?_); rintro e w' ⟨rfl, hb5⟩)
          | (go_at_call 14; (with_reducible refine (ones_any v _ hv).mono ?_); rintro e w' ⟨rfl, rfl⟩)
          | (go_at_call 15; (with_reducible refine (rones_any v _ hv).mono ?_); rintro e w' ⟨rfl, rfl⟩)
          | (go_at_call 16; (with_reducible refine (awake_any _).mono ?_); rintro e w' ⟨rfl, hb5⟩))
      go_wp2
      go_ret
      go_split_ands
      exact ⟨rfl, by assumption⟩

theorem walk {H : Type} (enc : TypeId × Value → H) (W : World) (base : Nat) (v0 : Value) (d0 : DataW H) (p0 : List MemPlace) (o0 : Value.okWide Try.prog W .any base 24 v0) (h0 : DataW.Trod enc Try.prog W 0 (fun _ => true) true 24 v0 d0 p0)
    (v1 : Value) (d1 : DataW H) (p1 : List MemPlace) (o1 : Value.okWide Try.prog W .any base 22 v1) (h1 : DataW.Trod enc Try.prog W 0 (fun _ => true) true 22 v1 d1 p1)
    (v2 : Value) (d2 : DataW H) (p2 : List MemPlace) (o2 : Value.okWide Try.prog W .any base 3 v2) (h2 : DataW.Trod enc Try.prog W 0 (fun _ => true) true 3 v2 d2 p2) :
    Calls Try.prog 3 #[v0, v1, v2] W fun e w' => e = .returned (.bool true) ∧ Below W.heap.size W w' := by
  obtain ⟨c0, c1, y0, y1, m, rfl, rfl, rfl, hy0, hy1⟩ := open_agg2 Try.underlying24 (by kernel_rfl) (by kernel_rfl) o0 h0
  obtain ⟨a, e0, _, wa⟩ := DataW.trod_int Try.underlying5 hy0
  obtain ⟨b, e1, _, wb⟩ := DataW.trod_int Try.underlying22 hy1
  simp at e0 e1
  subst e0 e1
  obtain ⟨a1, rfl, rfl, rfl, w1⟩ := open_int Try.underlying22 o1 h1
  obtain ⟨a2, rfl, rfl, rfl, w2⟩ := open_int Try.underlying3 o2 h2
  obtain ⟨t, ht, rfl⟩ := byte_of wa
  obtain ⟨u, hu, rfl⟩ := word_of wb
  obtain ⟨v, hv, rfl⟩ := word_of w1
  exact core t u v a2 W ht hv (int_of w2).1 (int_of w2).2
end Go.Proofs.Ytbeielaapnncgaa.wordBitsLaw
