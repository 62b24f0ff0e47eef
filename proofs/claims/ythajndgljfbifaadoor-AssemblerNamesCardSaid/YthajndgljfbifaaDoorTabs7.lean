/-
  From what a law's row lists to the tables that the walks read.
-/
import Derived.Test.YthajndgljfbifaaDoorName7
import Derived.Shelf.Vars
namespace Go.Proofs.YthajndgljfbifaaDoor
open Go.RowKit
set_option maxRecDepth 100000

theorem pow_datum : (Rows.laid_internal_strconv_uint64pow10 : DataW Unit) = Lib.tabData .u64 Lib.pow10Tab := rfl

theorem max_cell {W : World} (h : W.ShapedOpen Tryd.prog) : ∃ m, W.cell? ⟨1, 0, none⟩ = some (.int .i64 m) :=
  Go.Proofs.cell_of_shapedOpen_int (zero := #[.int .i64 0]) (t := 3) h (of_decide_eq_true (by kernel_rfl)) (by kernel_rfl) rfl (by kernel_rfl) (by kernel_rfl) Tryd.underlying3

theorem tabs_of {W : World} {rest : List (String × DataW Unit)} (hsh : W.ShapedOpen Tryd.prog) (h : laidMet Tryd.prog (("internal/strconv.uint64pow10", Rows.laid_internal_strconv_uint64pow10) :: rest) W) : Tabs W := by
  rw [pow_datum] at h
  exact ⟨Lib.tabIs_of_head (t := 137) (e := 126) (n := 20) gPow (by kernel_rfl) (by kernel_rfl) (by kernel_rfl) (by kernel_rfl) (by kernel_rfl) h, max_cell hsh⟩
end Go.Proofs.YthajndgljfbifaaDoor
