/-
  A program that the deck draws, as the assembler's laws ask for it; the listed tables, wherever they stand.
-/
import Derived.Test.YthajndgljfbifaaDoorAw7
import Derived.Test.YthajndgljfbifaaDoorPgD
import Derived.Test.YthajndgljfbifaaDoorSame7
namespace Go.Proofs.YthajndgljfbifaaDoor
open Go.RowKit
set_option maxRecDepth 100000

theorem tabs_reads {W : World} (hsh : W.ShapedOpen Tryd.prog) (h : Lib.VarReads Tryd.prog W "internal/strconv.uint64pow10" Rows.laid_internal_strconv_uint64pow10) : Tabs W := by
  rw [pow_datum] at h
  obtain ⟨g, t, cs, fuel, p, hg, ht, hvar, hd⟩ := h
  obtain rfl := Option.some.inj (hg.symm.trans gPow)
  obtain rfl : t = 137 := by
    have h2 : (Tryd.prog.globals[2]?).map (·.type) = some 137 := by kernel_rfl
    exact Option.some.inj (ht.symm.trans h2)
  refine ⟨?_, max_cell hsh⟩
  unfold Lib.TabIs
  have e := Lib.cells_of_tab (n := 20) (e := 126) (by kernel_rfl) (by kernel_rfl) (by kernel_rfl) (by kernel_rfl) hd
  rw [hvar, ← e]
end Go.Proofs.YthajndgljfbifaaDoor
