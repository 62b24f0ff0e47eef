/-
  Contracts: the document's Same on layouts; Address.
-/
import Derived.Test.YtpjaflcljnfjmaaLay1
namespace Go.Proofs.Ytpjaflcljnfjmaa
open Go.RowKit

/-- Two layouts with the same bases and the same key. -/
theorem ref03_Same (a b : Option Addr) (l : List Nat) (ca cb : Nat) (key : Nat) (w : World) (ll : l.length ≤ 1000000) (ha : NatsAt .i64 w a l) (hb : NatsAt .i64 w b l) :
    Calls Try.prog 14 #[.agg #[.slice a l.length ca, .int .u16 (key : Int)], .agg #[.slice b l.length cb, .int .u16 (key : Int)]] w fun e w' => e = .returned (.bool true) ∧ Below w.heap.size w w' := by
  have hB := Below.alloc (Below.alloc (Below.refl w.heap.size w) (Nat.le_refl _) (.cells #[.slice a l.length ca, .int .u16 (key : Int)] 25)) (by simp) (.cells #[.slice b l.length cb, .int .u16 (key : Int)] 25)
  have ha1 := ha.later hB
  have hb1 := hb.later hB
  clear ha hb
  go_enter Try.func14, Try.ntmps14
  go_wp2
  go_loopw [4, 5, 23] (fun _ _ c wr => ∃ k : Nat, k ≤ l.length ∧ c = .int .i64 k ∧ Below (w.heap.size + 2) ((w.alloc (.cells #[.slice a l.length ca, .int .u16 (key : Int)] 25)).alloc (.cells #[.slice b l.length cb, .int .u16 (key : Int)] 25)) wr) (fun _ _ c _ => l.length - (intOf c).toNat)
  case atStart => exact ⟨0, by omega, rfl, Below.refl _ _⟩
  case round =>
    obtain ⟨k, hk, rfl, hw⟩ := hrel
    have p0 : wr.cell? ⟨w.heap.size, 0, none⟩ = some (.slice a l.length ca) := (hw.cell (p := ⟨w.heap.size, 0, none⟩) (by simp)).trans (by go_simp)
    have p1 : wr.cell? ⟨w.heap.size + 1, 0, none⟩ = some (.slice b l.length cb) := (hw.cell (p := ⟨w.heap.size + 1, 0, none⟩) (by simp)).trans (by go_simp)
    by_cases hlt : k < l.length
    · obtain ⟨b1, o1, rfl, hc⟩ := ha1.some hlt
      obtain ⟨b2, o2, rfl, hd⟩ := hb1.some hlt
      have c1 := cell_later (by simpa using hw) (hc k hlt)
      have c2 := cell_later (by simpa using hw) (hd k hlt)
      clear hc hd
      have i1 : (k : Int) < (l.length : Int) := by omega
      have i2 : 0 ≤ (k : Int) := by omega
      generalize l[k] = x at *
      have hx : (((x : Int) != (x : Int))) = false := by simp
      go_wp2
      go_quiet (fail)
      go_wp2
      go_roundw
      case rel => exact ⟨k + 1, by omega, by go_num, below_drewN hw _⟩
      case measure => simp [intOf]; omega
    · obtain rfl : k = l.length := by omega
      have hb2 := hB.trans (hw.mono (by omega))
      go_wp2
      go_ret
      exact ⟨rfl, hb2⟩
end Go.Proofs.Ytpjaflcljnfjmaa
