/-
  The product's table of operations: what a law's row lists, as the walks read it.
-/
import Derived.Test.YthajndgljfbifaaDoorTabs7
import Derived.Test.YthajndgljfbifaaDoorAsm1
import Derived.Lib.LaidU8
namespace Go.Proofs.YthajndgljfbifaaDoor
open Go.RowKit
set_option maxRecDepth 100000

/-- The table of operations. -/
def OpsTab (W : World) : Prop := ∀ k : Nat, k < 25 → W.cell? ⟨0, k * 2, none⟩ = some (.string (nameB (k : Int))) ∧ W.cell? ⟨0, k * 2 + 1, none⟩ = some (.string ⟨(opdL (k : Int)).toArray⟩)

theorem OpsTab.later {W W' : World} (h : OpsTab W) (hb : Below W.heap.size W W') : OpsTab W' := fun k hk => ⟨cell_later hb (h k hk).1, cell_later hb (h k hk).2⟩

theorem OpsTab.kept {W W' : World} {D : Nat} (h : OpsTab W) (hg : W.grownBy W' (some D)) (h1 : D ≠ 0) : OpsTab W' := fun k hk =>
  ⟨hg.cell (h k hk).1 (fun e => h1 (Option.some.inj e).symm), hg.cell (h k hk).2 (fun e => h1 (Option.some.inj e).symm)⟩

theorem gOps : Tryd.prog.globalNamed "redundancy/assembler.operations" = some 0 := by kernel_rfl

def opsData : DataW Unit := .agg ((List.range 25).map fun k : Nat => .agg [.lit (.string (nameB (k : Int)).data.toList), .lit (.string (opdL (k : Int)))])

theorem ops_datum : (Rows.laid_redundancy_assembler_operations : DataW Unit) = opsData := by kernel_rfl

theorem opsTab_of {W : World} (h : Lib.VarReads Tryd.prog W "redundancy/assembler.operations" Rows.laid_redundancy_assembler_operations) : OpsTab W := by
  rw [ops_datum] at h
  obtain ⟨g, t, cs, fuel, p, hg, ht, hvar, hd⟩ := h
  obtain rfl := Option.some.inj (hg.symm.trans gOps)
  obtain rfl : t = 88 := by
    have h2 : (Tryd.prog.globals[0]?).map (·.type) = some 88 := by kernel_rfl
    exact Option.some.inj (ht.symm.trans h2)
  intro k hk
  obtain ⟨fuel2, d, q, hdk, hel⟩ := Lib.array_elem (n := 25) (e := 87) (by kernel_rfl) hd k hk
  have hce : Tryd.prog.cellsOf 87 = 2 := by kernel_rfl
  rw [hce] at hel
  have hdk2 : d = .agg [.lit (.string (nameB (k : Int)).data.toList), .lit (.string (opdL (k : Int)))] := by
    have : ((List.range 25).map fun k : Nat => (DataW.agg [.lit (.string (nameB (k : Int)).data.toList), .lit (.string (opdL (k : Int)))] : DataW Unit))[k]? = some d := hdk
    simp [hk] at this
    exact this.symm
  subst hdk2
  obtain ⟨fs, hfs, hf0, hf1⟩ : ∃ fs : Array Field, Tryd.prog.underlying 87 = some (.struct fs) ∧ (fs[0]?.map fun f => (f.type, f.offset, Tryd.prog.cellsOf f.type, Tryd.prog.underlying f.type)) = some (9, 0, 1, some .string) ∧ (fs[1]?.map fun f => (f.type, f.offset, Tryd.prog.cellsOf f.type, Tryd.prog.underlying f.type)) = some (9, 1, 1, some .string) := ⟨_, Tryd.underlying87, by kernel_rfl, by kernel_rfl⟩
  obtain ⟨xs, n, rfl, hx, hl, hxl, hall⟩ := DataW.trod_struct hfs hel
  obtain ⟨f0, hf0', e0⟩ := Option.map_eq_some_iff.1 hf0
  obtain ⟨f1, hf1', e1⟩ := Option.map_eq_some_iff.1 hf1
  simp only [Prod.mk.injEq] at e0 e1
  obtain ⟨_, o0, c0, u0⟩ := e0
  obtain ⟨_, o1, c1, u1⟩ := e1
  have hx1 := congrArg Prod.fst hx
  simp only [DataW.agg.injEq] at hx1
  have h0 := hall 0 f0 hf0'
  have h1 := hall 1 f1 hf1'
  obtain ⟨x0, x1, rfl⟩ : ∃ x0 x1, xs = [x0, x1] := by
    have hl2 := congrArg List.length hx1
    simp only [List.length_cons, List.length_nil, List.length_map] at hl2
    match xs, hl2 with
    | [x0, x1], _ => exact ⟨x0, x1, rfl⟩
  simp only [List.map_cons, List.map_nil, List.cons.injEq, and_true] at hx1
  obtain ⟨hx0, hx1⟩ := hx1
  rw [o0, c0] at h0
  rw [o1, c1] at h1
  obtain ⟨s0, hc0, hs0, _⟩ := DataW.trod_string u0 (h0.trans rfl)
  obtain ⟨s1, hc1, hs1, _⟩ := DataW.trod_string u1 (h1.trans rfl)
  rw [hs0] at hx0
  rw [hs1] at hx1
  simp only [DataW.lit.injEq, Lit.string.injEq] at hx0 hx1
  have q0 : nameB (k : Int) = s0 := bytes_ext hx0
  have q1 : (⟨(opdL (k : Int)).toArray⟩ : ByteArray) = s1 := bytes_ext hx1
  rw [q0, q1]
  have hv := World.var?_cell gOps hvar
  constructor
  · rw [hv]
    have := congrArg (·[0]?) hc0
    simpa [List.getElem?_take, List.getElem?_drop] using this
  · rw [hv]
    have := congrArg (·[0]?) hc1
    simpa [List.getElem?_take, List.getElem?_drop] using this
end Go.Proofs.YthajndgljfbifaaDoor
