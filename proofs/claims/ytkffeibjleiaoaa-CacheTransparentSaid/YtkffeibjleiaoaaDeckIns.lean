/-
  Contract of the deck: Instr.
-/
import Derived.Test.YtkffeibjleiaoaaIns
import Derived.Test.YtkffeibjleiaoaaDeck
import Derived.Test.YtkffeibjleiaoaaReg4
import Derived.Deep.DeepCutAuto
import Derived.Deep.CutBlock
namespace Go.Proofs.Ytkffeibjleiaoaa
open Go.RowKit

/-- The cells of a block. -/
def Blk (W : World) (B : Nat) (l : List Value) : Prop := ∀ j (h : j < l.length), W.cell? ⟨B, j, none⟩ = some l[j] ∧ W.frozen? ⟨B, j, none⟩ = false

theorem Blk.kept {W W' : World} {B : Nat} {l : List Value} {r : Option Nat} (h : Blk W B l) (hg : W.grownBy W' r) (hne : some B ≠ r) : Blk W' B l := by
  intro j hj
  obtain ⟨h0, h2⟩ := h j hj
  have hB := World.block_lt_of_cell? _ _ h0
  exact ⟨hg.cell h0 hne, by rw [World.frozen?_of_block (w := W) (hg.block B hB hne)]; exact h2⟩

theorem Blk.later {W W' : World} {B : Nat} {l : List Value} (h : Blk W B l) (hb : Below W.heap.size W W') : Blk W' B l := h.kept (grownBy_below hb rfl none) (by simp)

theorem Blk.put {W : World} {B : Nat} {l : List Value} (h : Blk W B l) (i : Nat) (v : Value) : Blk (W.setCell ⟨B, i, none⟩ v) B (l.set i v) := by
  intro j hj
  rw [List.length_set] at hj
  obtain ⟨h0, h2⟩ := h j hj
  refine ⟨?_, by go_simp⟩
  by_cases e : i = j
  · subst e
    rw [List.getElem_set_self]
    exact World.cell?_setCell_same _ _ _ h0
  · have hne : (⟨B, i, none⟩ : Addr) ≠ ⟨B, j, none⟩ := fun h => e (by injection h)
    rw [List.getElem_set_ne e, World.cell?_setCell_other (h := hne)]
    exact h0

theorem Blk.new {W : World} (l : Array Value) (T : TypeId) : Blk (W.alloc (.cells l T)) W.heap.size l.toList := by
  intro j hj
  refine ⟨?_, by go_simp⟩
  rw [World.cell?_alloc_at _ _ _ _ rfl]
  simp at hj ⊢

/-- While Instr goes on: the deck, the result's block, the instruction and the array. -/
structure InsS (D : Nat) (w : World) (Bi Bu : Nat) (op : Int) (x : Ins) (wx : World) : Prop where
  deck : Deck wx D
  grown : w.grownBy wx (some D)
  res : Blk wx w.heap.size (insRow ⟨0, 0, 0, 0, 0⟩)
  ins : Blk wx Bi (insRow x)
  us : Blk wx Bu [.bool (usA op), .bool (usB op), .bool (usC op), .bool (usI op)]
  hD : D < w.heap.size
  hi : w.heap.size < Bi
  hu : Bi < Bu

variable {D Bi Bu : Nat} {w wx w' : World} {op : Int} {x : Ins}

theorem InsS.draw (h : InsS D w Bi Bu op x wx) (hg : wx.grownBy w' (some D)) (hd : Deck w' D) : InsS D w Bi Bu op x w' := by
  have h1 := h.hD
  have h2 := h.hi
  have h3 := h.hu
  exact ⟨hd, grownBy_trans h.grown hg, h.res.kept hg (by simp; omega), h.ins.kept hg (by simp; omega), h.us.kept hg (by simp; omega), h1, h2, h3⟩

theorem InsS.put (h : InsS D w Bi Bu op x wx) (i : Nat) (v : Int) {x' : Ins} (hx : insRow x' = (insRow x).set i (.int .i64 v)) : InsS D w Bi Bu op x' (wx.setCell ⟨Bi, i, none⟩ (.int .i64 v)) := by
  have h1 := h.hD
  have h2 := h.hi
  have h3 := h.hu
  have hg := grownBy_cell wx Bi i (.int .i64 v)
  refine ⟨h.deck.kept hg (fun k hk => by cases hk; omega), grownBy_new h.grown (by omega) i _, h.res.kept hg (by simp; omega), ?_, h.us.kept hg (by simp; omega), h1, h2, h3⟩
  rw [hx]
  exact h.ins.put i _

/-- The call gives some valid instruction and writes to the deck alone. -/
def GivesIns (n most D : Nat) (w : World) (e : Ending) (w' : World) : Prop :=
  ∃ x : Ins, e = .returned (insV x) ∧ InsIn n most x ∧ Deck w' D ∧ w.grownBy w' (some D)

theorem ins_cells {W : World} {B : Nat} {x : Ins} (h : Blk W B (insRow x)) :
    W.cell? ⟨B, 0, none⟩ = some (.int .i64 x.op) ∧ W.cell? ⟨B, 1, none⟩ = some (.int .i64 x.a) ∧ W.cell? ⟨B, 2, none⟩ = some (.int .i64 x.b) ∧ W.cell? ⟨B, 3, none⟩ = some (.int .i64 x.c) ∧ W.cell? ⟨B, 4, none⟩ = some (.int .i64 x.imm) ∧
    W.frozen? ⟨B, 0, none⟩ = false ∧ W.frozen? ⟨B, 1, none⟩ = false ∧ W.frozen? ⟨B, 2, none⟩ = false ∧ W.frozen? ⟨B, 3, none⟩ = false ∧ W.frozen? ⟨B, 4, none⟩ = false :=
  ⟨(h 0 (by simp [insRow])).1, (h 1 (by simp [insRow])).1, (h 2 (by simp [insRow])).1, (h 3 (by simp [insRow])).1, (h 4 (by simp [insRow])).1, (h 0 (by simp [insRow])).2, (h 1 (by simp [insRow])).2, (h 2 (by simp [insRow])).2, (h 3 (by simp [insRow])).2, (h 4 (by simp [insRow])).2⟩

theorem us_cells {W : World} {B : Nat} {a b c d : Bool} (h : Blk W B [.bool a, .bool b, .bool c, .bool d]) :
    W.cell? ⟨B, 0, none⟩ = some (.bool a) ∧ W.cell? ⟨B, 1, none⟩ = some (.bool b) ∧ W.cell? ⟨B, 2, none⟩ = some (.bool c) ∧ W.cell? ⟨B, 3, none⟩ = some (.bool d) :=
  ⟨(h 0 (by simp)).1, (h 1 (by simp)).1, (h 2 (by simp)).1, (h 3 (by simp)).1⟩

end Go.Proofs.Ytkffeibjleiaoaa
