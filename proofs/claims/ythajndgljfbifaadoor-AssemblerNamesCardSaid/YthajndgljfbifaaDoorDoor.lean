/-
  What the laws about texts take from the library: the shelf's contracts, as the walks ask for them.
-/
import Derived.Test.YthajndgljfbifaaDoorRows
import Derived.Test.YthajndgljfbifaaDoorShelf
import Derived.Test.YthajndgljfbifaaDoorDeckNext
import Derived.Lib.LaidTab
import Derived.Stop.LaidErr
import Derived.WalkSmall
namespace Go.Proofs.YthajndgljfbifaaDoor
open Go.RowKit
set_option maxRecDepth 100000

/-- The library's tables that the walks read. -/
structure Tabs (W : World) : Prop where
  tab : Lib.TabIs Tryd.prog W "internal/strconv.uint64pow10" .u64 Lib.pow10Tab
  max : ∃ m, W.cell? ⟨1, 0, none⟩ = some (.int .i64 m)

theorem gPow : Tryd.prog.globalNamed "internal/strconv.uint64pow10" = some 2 := by kernel_rfl

theorem Tabs.lt {W : World} (h : Tabs W) : 2 < W.heap.size := by
  have h1 := h.tab
  unfold Lib.TabIs World.var? at h1
  rw [gPow] at h1
  rcases Nat.lt_or_ge 2 W.heap.size with h2 | h2
  · exact h2
  · simp [Array.getElem?_eq_none h2] at h1

theorem Tabs.later {W W' : World} (h : Tabs W) (hb : Below W.heap.size W W') : Tabs W' := by
  obtain ⟨m, hm⟩ := h.max
  exact ⟨var?_below hb gPow h.lt h.tab, m, (hb.cell (World.block_lt_of_cell? _ _ hm)).trans hm⟩

theorem Tabs.kept {W W' : World} {D : Nat} (h : Tabs W) (hg : W.grownBy W' (some D)) (h1 : D ≠ 2) (h2 : D ≠ 1) : Tabs W' := by
  obtain ⟨m, hm⟩ := h.max
  refine ⟨?_, m, hg.cell hm (fun e => h2 (Option.some.inj e).symm)⟩
  have ht := h.tab
  have hl := h.lt
  unfold Lib.TabIs World.var? at ht ⊢
  rw [gPow] at ht ⊢
  rw [Option.bind_some] at ht ⊢
  rw [hg.block _ hl (fun e => h1 (Option.some.inj e).symm)]
  exact ht

/-- A decimal number. -/
def itoaB (n : Nat) : ByteArray := ⟨(Lib.itoa (n : Int)).toArray⟩

theorem below_grow (w : World) (k : Nat) (os : Array Obj) : Below w.heap.size w (Sort.grow (w.drewN k) os) :=
  ⟨rfl, rfl, rfl, by simp [Sort.grow, World.drewN], fun j hj => by simp [Sort.grow, World.drewN, Array.getElem?_append, hj]⟩

theorem lib_Itoa (n : Nat) (w : World) (h : Tabs w) (hn : n ≤ 1000000) :
    Calls Tryd.prog 26 #[.int .i64 (n : Int)] w fun e w' => e = .returned (.string (itoaB n)) ∧ Below w.heap.size w w' :=
  (Tryd.strconv_Itoa (n : Int) (by omega) (by omega) w h.tab).mono fun _ _ ⟨he, k, os, hw⟩ => ⟨he, hw ▸ below_grow w k os⟩

/-- The call returns a list of strings in a new block. -/
def GivesStrs (l : List ByteArray) (w : World) (e : Ending) (w' : World) : Prop :=
  e = .returned (.slice (some ⟨w.heap.size, 0, none⟩) l.length l.length) ∧ w' = w.alloc (.cells (l.map Value.string).toArray 9)

theorem lib_Split (s sep : ByteArray) (w : World) (h : Tabs w) (hs : s.size < 4294967281) (h1 : 1 ≤ sep.size) (hl : (Lib.splitB sep 0 (Lib.countB s sep) s).length = Lib.countB s sep + 1) :
    Calls Tryd.prog 8 #[.string s, .string sep] w (GivesStrs (Lib.splitB sep 0 (Lib.countB s sep) s) w) := by
  obtain ⟨m, hm⟩ := h.max
  exact (Tryd.strings_Split s sep m w hs hm h1).mono fun _ _ ⟨he, hw⟩ => ⟨by rw [hl]; exact he, hw⟩
end Go.Proofs.YthajndgljfbifaaDoor
