/-
  Contracts: which layouts are valid (apart, Valid), and the document's own Valid.
-/
import Derived.Test.YtaigkplalcnelaaReg1
import Derived.Test.YtaigkplalcnelaaReg2
import Derived.Test.YtaigkplalcnelaaLayMath
namespace Go.Proofs.Ytaigkplalcnelaa
open Go.RowKit

theorem IntsAt.later {k : IntKind} {w w' : World} {a : Option Addr} {xs : List Int} (h : IntsAt k w a xs) (hb : Below w.heap.size w w') : IntsAt k w' a xs := by
  rcases h with h | ⟨b, off, ha, h⟩
  · exact .inl h
  · exact .inr ⟨b, off, ha, fun i hi => cell_later hb (h i hi)⟩

set_option maxHeartbeats 1000000 in
theorem layout_apart (a : Option Addr) (bs : List Int) (ca : Nat) (key : Int) (b : Option Addr) (s : List Nat) (cb : Nat) (i j : Nat) (w : World) (hs : Sz s) (hl : bs.length = s.length) (hi : i < bs.length) (hj : j < bs.length)
    (ri : InR bs s i) (rj : InR bs s j) (ha : IntsAt .i64 w a bs) (hb : NatsAt .i64 w b s) :
    Calls Try.prog 32 #[.agg #[.slice a bs.length ca, .int .u16 key], .slice b s.length cb, .int .i64 (i : Int), .int .i64 (j : Int)] w fun e w' => e = .returned (.bool (decide (Ap bs s i j))) ∧ Below w.heap.size w w' := by
  have hB := Below.alloc (Below.refl w.heap.size w) (Nat.le_refl _) (.cells #[.slice a bs.length ca, .int .u16 key] 32)
  have hl4 := hs.2.1
  have hsi : i < s.length := by omega
  have hsj : j < s.length := by omega
  have ra := (inr_at hi hsi).1 ri
  have rb := (inr_at hj hsj).1 rj
  have xi := (hs.2.2 _ (List.getElem_mem hsi)).2
  have xj := (hs.2.2 _ (List.getElem_mem hsj)).2
  have HA := Lib.hid (ap_at hi hsi hj hsj)
  obtain ⟨b1, o1, rfl, hc⟩ := ha.some hi
  obtain ⟨b2, o2, rfl, hd⟩ := hb.some hsi
  have c1 := cell_later hB (hc i hi)
  have c2 := cell_later hB (hc j hj)
  have c3 := cell_later hB (hd i hsi)
  have c4 := cell_later hB (hd j hsj)
  clear hc hd ri rj ha hb hs
  generalize bs[i] = x at *
  generalize bs[j] = y at *
  generalize s[i] = m at *
  generalize s[j] = n at *
  have i1 : (i : Int) < (bs.length : Int) := by omega
  have i2 : (j : Int) < (bs.length : Int) := by omega
  have i3 : (i : Int) < (s.length : Int) := by omega
  have i4 : (j : Int) < (s.length : Int) := by omega
  have i5 : 0 ≤ (i : Int) := by omega
  have i6 : 0 ≤ (j : Int) := by omega
  clear hl hsi hsj
  have w1 : IntKind.i64.wrap (x + (m : Int)) = x + (m : Int) := IntWalk.i64_in _ (by omega)
  have w2 : IntKind.i64.wrap (y + (n : Int)) = y + (n : Int) := IntWalk.i64_in _ (by omega)
  by_cases h1 : x + (m : Int) < y
  · have hv : Hid (decide (Ap bs s i j) = true) := Lib.hid (decide_eq_true (HA.out.2 (.inl h1)))
    go_enter Try.func32, Try.ntmps32
    go_wp2
    go_quiet (fail)
    go_wp2
    go_ret
    exact ⟨ret_bool hv.out.symm, below_drewN hB _⟩
  · by_cases h2 : y + (n : Int) < x
    · have hv : Hid (decide (Ap bs s i j) = true) := Lib.hid (decide_eq_true (HA.out.2 (.inr h2)))
      go_enter Try.func32, Try.ntmps32
      go_wp2
      go_quiet (fail)
      go_wp2
      go_ret
      exact ⟨ret_bool hv.out.symm, below_drewN hB _⟩
    · have hv : Hid (decide (Ap bs s i j) = false) := Lib.hid (decide_eq_false (fun h => by rcases HA.out.1 h with h | h <;> omega))
      go_enter Try.func32, Try.ntmps32
      go_wp2
      go_quiet (fail)
      go_wp2
      go_ret
      exact ⟨ret_bool (by rw [hv.out]; simp; omega), below_drewN hB _⟩
end Go.Proofs.Ytaigkplalcnelaa
