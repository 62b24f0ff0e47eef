/-
  Corollaries: Make with valid sizes and a seed in range gives some valid layout.
-/
import Derived.Test.YtaigkplalcnelaaLay5
import Derived.Test.YtaigkplalcnelaaLay8
namespace Go.Proofs.Ytaigkplalcnelaa
open Go.RowKit

/-- Ints that lie in a block from B on. -/
def IntsFrom (B : Nat) (k : IntKind) (w : World) (a : Option Addr) (xs : List Int) : Prop :=
  xs = [] ∨ ∃ b off, a = some ⟨b, off, none⟩ ∧ B ≤ b ∧ ∀ i (h : i < xs.length), w.cell? ⟨b, off + i, none⟩ = some (.int k xs[i])

theorem IntsFrom.at {B : Nat} {k : IntKind} {w : World} {a : Option Addr} {xs : List Int} (h : IntsFrom B k w a xs) : IntsAt k w a xs := by
  rcases h with h | ⟨b, off, ha, _, h⟩
  · exact .inl h
  · exact .inr ⟨b, off, ha, h⟩

theorem IntsFrom.kept {B : Nat} {k : IntKind} {w w' : World} {a : Option Addr} {xs : List Int} {r : Option Nat} (h : IntsFrom B k w a xs) (hg : w.grownBy w' r) (hr : ∀ d, r = some d → d < B) : IntsFrom B k w' a xs := by
  rcases h with h | ⟨b, off, ha, hb, h⟩
  · exact .inl h
  · exact .inr ⟨b, off, ha, hb, fun i hi => hg.cell (h i hi) (fun e => by have := hr b e.symm; omega)⟩

theorem IntsFrom.later {B : Nat} {k : IntKind} {w w' : World} {a : Option Addr} {xs : List Int} (h : IntsFrom B k w a xs) (hb : Below w.heap.size w w') : IntsFrom B k w' a xs := by
  rcases h with h | ⟨b, off, ha, hB, h⟩
  · exact .inl h
  · exact .inr ⟨b, off, ha, hB, fun i hi => cell_later hb (h i hi)⟩

theorem IntsFrom.mono {B B' : Nat} {k : IntKind} {w : World} {a : Option Addr} {xs : List Int} (h : IntsFrom B k w a xs) (hB : B' ≤ B) : IntsFrom B' k w a xs := by
  rcases h with h | ⟨b, off, ha, hb, h⟩
  · exact .inl h
  · exact .inr ⟨b, off, ha, by omega, h⟩

theorem NatsFrom.ints {B : Nat} {k : IntKind} {w : World} {a : Option Addr} {xs : List Nat} (h : NatsFrom B k w a xs) : IntsFrom B k w a (xs.map fun x : Nat => (x : Int)) := by
  rcases h with rfl | ⟨b, off, ha, hb, h⟩
  · exact .inl rfl
  · exact .inr ⟨b, off, ha, hb, fun i hi => by rw [h i (by simpa using hi)]; simp⟩

/-- The call returns some valid layout in new memory. -/
def GivesValid (s : List Nat) (w : World) (e : Ending) (w' : World) : Prop :=
  ∃ (a : Option Addr) (cap : Nat) (bs : List Int) (key : Nat), e = .returned (.tuple #[.agg #[.slice a bs.length cap, .int .u16 (key : Int)], .int .i64 0]) ∧ LV bs s ∧ key < 65536 ∧ IntsFrom w.heap.size .i64 w' a bs ∧ bs.length ≤ cap ∧ Below w.heap.size w w'

theorem valid_of {s : List Nat} (hs : Sz s) {q : Nat} (hq : q ≤ 1073741824) {w w' : World} {e : Ending} (h : GivesLayout (s.map fun x : Nat => (x : Int)) (q : Int) w e w') : GivesValid s w e w' := by
  obtain ⟨e1, e2, e3⟩ := mk_ok hs hq
  obtain ⟨a, cap, he, ha, hc, hb⟩ := h
  rw [e1, e2, e3] at he
  rw [e1] at ha hc
  refine ⟨a, cap, (mkB s q).map fun x : Nat => (x : Int), keyOf q, ?_, mkB_valid hs q, Nat.mod_lt _ (by omega), ha.ints, by rw [List.length_map]; exact hc, hb⟩
  rw [List.length_map]; exact he

theorem ref03_Make_valid (b : Option Addr) (s : List Nat) (cb : Nat) (q : Nat) (w : World) (hs : Sz s) (hq : q ≤ 1073741824) (hb : NatsAt .i64 w b s) :
    Calls Try.prog 6 #[.slice b s.length cb, .int .i64 (q : Int)] w (GivesValid s w) := by
  have h := ref03_Make b (s.map fun x : Nat => (x : Int)) cb (q : Int) w (by rw [List.length_map]; have := hs.2.1; omega) hb.ints
  rw [List.length_map] at h
  exact h.mono fun e w' h => valid_of hs hq h
end Go.Proofs.Ytaigkplalcnelaa
