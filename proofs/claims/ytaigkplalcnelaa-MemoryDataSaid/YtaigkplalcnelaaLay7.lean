/-
  Contracts: Resolve and Address.
-/
import Derived.Test.YtaigkplalcnelaaLay2
import Derived.Test.YtaigkplalcnelaaLayRes
import Derived.Test.YtaigkplalcnelaaReg4
namespace Go.Proofs.Ytaigkplalcnelaa
open Go.RowKit

theorem layB_true {bs : List Int} {s : List Nat} (hs : Sz s) (h : LV bs s) : layB bs (s.map fun x : Nat => (x : Int)) = true := by
  rw [layB_nat bs hs]; exact decide_eq_true h

/-- Valid of a valid layout. -/
theorem layout_Valid_true (a : Option Addr) (bs : List Int) (ca : Nat) (key : Int) (b : Option Addr) (s : List Nat) (cb : Nat) (w : World) (hs : Sz s) (hv : LV bs s) (ha : IntsAt .i64 w a bs) (hb : NatsAt .i64 w b s) :
    Calls Try.prog 21 #[.agg #[.slice a bs.length ca, .int .u16 key], .slice b s.length cb] w fun e w' => e = .returned (.bool true) ∧ Below w.heap.size w w' := by
  have h4 := hs.2.1
  have h1 := hv.1
  have := layout_Valid a bs ca key b (s.map fun x : Nat => (x : Int)) cb w (by omega) (by rw [List.length_map]; omega) ha hb.ints
  rw [layB_true hs hv, List.length_map] at this
  exact this

end Go.Proofs.Ytaigkplalcnelaa
