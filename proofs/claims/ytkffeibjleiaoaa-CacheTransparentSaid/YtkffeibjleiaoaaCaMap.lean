/-
  A map of the call's own from addresses to cells.
-/
import Derived.Test.YtkffeibjleiaoaaCaAwake
import Derived.Maps.Own
import Derived.Maps.Views
import Derived.Maps.OwnSet
namespace Go.Proofs.Ytkffeibjleiaoaa
open Go.RowKit Go.Maps

/-- How a cell reads. -/
def encC (t v : Int) : DataW Unit := .agg [.lit (.int .u8 t), .lit (.int .u16 v)]

def rdC : Value → Option (DataW Unit × List MemPlace)
  | .agg cs => match cs.toList with
    | [.int .u8 t, .int .u16 v] => some (encC t v, [])
    | _ => none
  | _ => none

theorem rdC_mk (t v : Int) : rdC (.agg #[.int .u8 t, .int .u16 v]) = some (encC t v, []) := rfl

theorem rdC_inv {x : Value} {t v : Int} {ps : List MemPlace} (h : rdC x = some (encC t v, ps)) : x = .agg #[.int .u8 t, .int .u16 v] := by
  unfold rdC at h
  split at h
  · rename_i cs
    split at h
    · rename_i t' v' he
      simp only [Option.some.injEq, Prod.mk.injEq, encC, DataW.agg.injEq, List.cons.injEq, DataW.lit.injEq, Lit.int.injEq, and_true, true_and] at h
      obtain ⟨⟨rfl, rfl⟩, _⟩ := h
      rw [← Array.toArray_toList (xs := cs), he]
    · cases h
  · cases h

/-- The map has these cells; zero cells elsewhere. -/
def MapF (w : World) (b n : Nat) (f : Nat → Nat × Nat) : Prop :=
  ∃ D, w.ownsMap Try.prog 3 rdC b n D ∧ ∀ k : Nat, D.atKey (.int .i64 (k : Int)) (encC 0 0) = encC ((f k).1 : Int) ((f k).2 : Int)

theorem MapF.made (w : World) : MapF (w.alloc (.map #[] 0)) w.heap.size 0 (fun _ => (0, 0)) :=
  ⟨_, World.ownsMap_made w Try.prog 3 rdC, fun _ => rfl⟩

theorem MapF.kept {w w' : World} {b n : Nat} {f : Nat → Nat × Nat} {r : Option Nat} (h : MapF w b n f) (hg : w.grownBy w' r) (hne : some b ≠ r) : MapF w' b n f := by
  obtain ⟨D, h1, h2⟩ := h
  exact ⟨D, h1.kept hg hne, h2⟩

theorem MapF.later {w w' : World} {b n : Nat} {f : Nat → Nat × Nat} (h : MapF w b n f) (hb : Below w.heap.size w w') : MapF w' b n f := h.kept (grownBy_below hb rfl none) (by simp)

theorem MapF.mono {w : World} {b n n' : Nat} {f : Nat → Nat × Nat} (h : MapF w b n f) (hn : n ≤ n') : MapF w b n' f := by
  obtain ⟨D, h1, h2⟩ := h
  exact ⟨D, h1.mono hn, h2⟩

theorem MapF.lt {w : World} {b n : Nat} {f : Nat → Nat × Nat} (h : MapF w b n f) : b < w.heap.size := by
  obtain ⟨D, h1, _⟩ := h
  exact h1.lt

theorem zero_cell (w : World) : (zeroValue 25).run Try.prog w = .ok (.agg #[.int .u8 0, .int .u16 0]) w := by
  obtain ⟨i0, hi, hz0, _, _⟩ := info_parts info_cell4
  simp [zeroValue, typeInfo, hi, hz0]

theorem key_int (k : Nat) (hk : k < 1000) : Go.keyOf Try.prog 3 (.int .i64 (k : Int)) = some (.int .i64 (k : Int)) :=
  Maps.keyOf_int_mk Try.underlying3 (by simp [Lit.wf, IntKind.min, IntKind.max, IntKind.signed, IntKind.bits]; omega)

theorem MapF.look {w : World} {b n : Nat} {f : Nat → Nat × Nat} (h : MapF w b n f) (k : Nat) (hk : k < 1000) :
    (Instr.lookup 48 (.map (some b)) (.int .i64 (k : Int)) false).run Try.prog w = .ok (.agg #[.int .u8 ((f k).1 : Int), .int .u16 ((f k).2 : Int)]) w := by
  obtain ⟨D, h1, h2⟩ := h
  obtain ⟨v, ps, hrun, hv⟩ := h1.lookup (Maps.int_keyed Try.underlying3) Try.underlying48 (zero_cell w) (rdC_mk 0 0) (key_int k hk)
  rw [h2 k] at hv
  rw [rdC_inv hv] at hrun
  exact hrun

/-- One cell more. -/
def updF (f : Nat → Nat × Nat) (k : Nat) (c : Nat × Nat) : Nat → Nat × Nat := fun q => if q = k then c else f q

theorem updF_same (f : Nat → Nat × Nat) (k : Nat) (c : Nat × Nat) : updF f k c k = c := if_pos rfl
theorem updF_other (f : Nat → Nat × Nat) {k q : Nat} (c : Nat × Nat) (h : ¬ q = k) : updF f k c q = f q := if_neg h

theorem MapF.put {w : World} {b n : Nat} {f : Nat → Nat × Nat} (h : MapF w b n f) (hn : n < 1000) (k : Nat) (hk : k < 1000) (c : Nat × Nat) :
    ∃ w', (Instr.mapUpdate 48 (.map (some b)) (.int .i64 (k : Int)) (.agg #[.int .u8 (c.1 : Int), .int .u16 (c.2 : Int)])).run Try.prog w = .ok () w' ∧ MapF w' b (n + 1) (updF f k c) ∧ w.grownBy w' (some b) := by
  obtain ⟨D, h1, h2⟩ := h
  obtain ⟨w', hrun, h3, hg⟩ := h1.update (Maps.int_keyed Try.underlying3) Try.underlying48 (by unfold maxLen; omega) (key_int k hk) (rdC_mk (c.1 : Int) (c.2 : Int))
  refine ⟨w', hrun, ⟨_, h3, fun q => ?_⟩, hg⟩
  by_cases e : q = k
  · subst e
    rw [updF_same]
    exact Maps.atKey_put_same h1.isMap (by trivial) _ _
  · rw [updF_other f c e, Maps.atKey_put_other (by simp; omega)]
    exact h2 q
end Go.Proofs.Ytkffeibjleiaoaa
