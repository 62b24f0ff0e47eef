/-
  Contract: Make.
-/
import Derived.Test.YtaigkplalcnelaaLay1
import Derived.Test.YtaigkplalcnelaaReg4
namespace Go.Proofs.Ytaigkplalcnelaa
open Go.RowKit

/-- A seed that Make takes, with valid sizes. -/
def okMk (xs : List Int) (seed : Int) : Bool := validB xs && decide (0 ≤ seed ∧ seed ≤ 1073741824)

/-- What Make answers: the bases, the key, the error. -/
def mkL (xs : List Int) (seed : Int) : List Nat := if okMk xs seed then mkB (xs.map Int.toNat) seed.toNat else []
def mkK (xs : List Int) (seed : Int) : Nat := if okMk xs seed then keyOf seed.toNat else 0
def mkE (xs : List Int) (seed : Int) : Int := if okMk xs seed then 0 else 1

/-- The call returns the layout of a seed in new memory. -/
def GivesLayout (xs : List Int) (seed : Int) (w : World) (e : Ending) (w' : World) : Prop :=
  ∃ a cap, e = .returned (.tuple #[.agg #[.slice a (mkL xs seed).length cap, .int .u16 ((mkK xs seed : Nat) : Int)], .int .i64 (mkE xs seed)]) ∧ NatsFrom w.heap.size .i64 w' a (mkL xs seed) ∧ (mkL xs seed).length ≤ cap ∧ Below w.heap.size w w'

theorem mk_bad {xs : List Int} {seed : Int} (h : okMk xs seed = false) : mkL xs seed = [] ∧ mkK xs seed = 0 ∧ mkE xs seed = 1 := by
  unfold mkL mkK mkE; rw [h]; exact ⟨rfl, rfl, rfl⟩

theorem mk_ok {s : List Nat} {seed : Nat} (hs : Sz s) (h : seed ≤ 1073741824) :
    mkL (s.map fun x : Nat => (x : Int)) (seed : Int) = mkB s seed ∧ mkK (s.map fun x : Nat => (x : Int)) (seed : Int) = keyOf seed ∧ mkE (s.map fun x : Nat => (x : Int)) (seed : Int) = 0 := by
  have e : okMk (s.map fun x : Nat => (x : Int)) (seed : Int) = true := by
    unfold okMk; rw [(validB_nat s).2 hs, Bool.true_and]; exact decide_eq_true ⟨by omega, by omega⟩
  unfold mkL mkK mkE
  rw [e, toNat_map, Int.toNat_natCast]
  exact ⟨rfl, rfl, rfl⟩

theorem gives_bad {xs : List Int} {seed : Int} (h : okMk xs seed = false) {w w' : World} (hb : Below w.heap.size w w') :
    GivesLayout xs seed w (.returned (.tuple #[.agg #[.slice none 0 0, .int .u16 0], .int .i64 1])) w' := by
  obtain ⟨e1, e2, e3⟩ := mk_bad h
  refine ⟨none, 0, ?_, ?_, ?_, hb⟩
  · rw [e1, e2, e3]; rfl
  · rw [e1]; exact .inl rfl
  · rw [e1]; simp

theorem gives_ok {s : List Nat} {seed : Nat} (hs : Sz s) (h : seed ≤ 1073741824) {w w' : World} {a : Option Addr} {cap : Nat} (ha : NatsFrom w.heap.size .i64 w' a (mkB s seed)) (hc : s.length ≤ cap) (hb : Below w.heap.size w w') :
    GivesLayout (s.map fun x : Nat => (x : Int)) (seed : Int) w (.returned (.tuple #[.agg #[.slice a s.length cap, .int .u16 ((keyOf seed : Nat) : Int)], .int .i64 0])) w' := by
  obtain ⟨e1, e2, e3⟩ := mk_ok hs h
  refine ⟨a, cap, ?_, ?_, ?_, hb⟩
  · rw [e1, e2, e3, length_mkB]
  · rw [e1]; exact ha
  · rw [e1, length_mkB]; exact hc

/-- The numbers of an ints' row. -/
def nrow (l : List Nat) : List Value := l.map fun x : Nat => Value.int .i64 (x : Int)

theorem nrow_set (l : List Nat) (i x : Nat) : (nrow l).set i (.int .i64 (x : Int)) = nrow (l.set i x) := by unfold nrow; rw [List.map_set]
theorem nrow_at (l : List Nat) (i : Nat) (h : i < l.length) : (nrow l)[i]? = some (.int .i64 ((l[i] : Nat) : Int)) := by unfold nrow; rw [List.getElem?_map, List.getElem?_eq_getElem h]; rfl

theorem key_wrap (q : Nat) : IntKind.u16.wrap (40503 * IntKind.u16.wrap (q : Int)) = ((keyOf q : Nat) : Int) ∧ IntKind.u16.wrap (40503 * (q : Int)) = ((keyOf q : Nat) : Int) := by
  unfold keyOf
  rw [IntKind.wrap_u16, IntKind.wrap_u16, IntKind.wrap_u16]
  omega

theorem nat_tdiv (a b : Nat) : (a : Int).tdiv (b : Int) = ((a / b : Nat) : Int) := by rw [Int.tdiv_eq_ediv_of_nonneg (by omega)]; exact (Int.natCast_ediv a b).symm
theorem nat_tmod (a b : Nat) : (a : Int).tmod (b : Int) = ((a % b : Nat) : Int) := by rw [Int.tmod_eq_emod_of_nonneg (by omega)]; exact (Int.natCast_emod a b).symm

end Go.Proofs.Ytaigkplalcnelaa
