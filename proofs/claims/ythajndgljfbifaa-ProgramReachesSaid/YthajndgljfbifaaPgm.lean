/-
  A program in memory (any ints, any words); which are good: the document's Good.
-/
import Derived.Test.YthajndgljfbifaaIns2
import Derived.Test.YthajndgljfbifaaReg1
namespace Go.Proofs.Ythajndgljfbifaa
open Go.RowKit
set_option maxRecDepth 100000

/-- Lists of words in memory: the table's cells are slices. -/
def DatAt (w : World) (ad : Option Addr) (L : List (List Nat)) : Prop :=
  L = [] ∨ ∃ b off, ad = some ⟨b, off, none⟩ ∧ ∀ i (h : i < L.length), ∃ a c, w.cell? ⟨b, off + i, none⟩ = some (.slice a L[i].length c) ∧ NatsAt .u16 w a L[i]

/-- Instructions in memory. -/
def CodeAt (w : World) (ac : Option Addr) (C : List Ins) : Prop :=
  C = [] ∨ ∃ b off, ac = some ⟨b, off, none⟩ ∧ ∀ i (h : i < C.length), w.cell? ⟨b, off + i * 5, none⟩ = some (.int .i64 C[i].op) ∧ w.cell? ⟨b, off + i * 5 + 1, none⟩ = some (.int .i64 C[i].a) ∧
    w.cell? ⟨b, off + i * 5 + 2, none⟩ = some (.int .i64 C[i].b) ∧ w.cell? ⟨b, off + i * 5 + 3, none⟩ = some (.int .i64 C[i].c) ∧ w.cell? ⟨b, off + i * 5 + 4, none⟩ = some (.int .i64 C[i].imm)

theorem ints_later7 {k : IntKind} {w w' : World} {a : Option Addr} {xs : List Int} (h : IntsAt k w a xs) (hb : Below w.heap.size w w') : IntsAt k w' a xs := by
  rcases h with h | ⟨b, off, ha, hc⟩
  · exact .inl h
  · exact .inr ⟨b, off, ha, fun j hj => cell_later hb (hc j hj)⟩

theorem DatAt.later {w w' : World} {ad : Option Addr} {L : List (List Nat)} (h : DatAt w ad L) (hb : Below w.heap.size w w') : DatAt w' ad L := by
  rcases h with h | ⟨b, off, ha, hc⟩
  · exact .inl h
  · refine .inr ⟨b, off, ha, fun i hi => ?_⟩
    obtain ⟨a, c, h1, h2⟩ := hc i hi
    exact ⟨a, c, cell_later hb h1, h2.later hb⟩

theorem CodeAt.later {w w' : World} {ac : Option Addr} {C : List Ins} (h : CodeAt w ac C) (hb : Below w.heap.size w w') : CodeAt w' ac C := by
  rcases h with h | ⟨b, off, ha, hc⟩
  · exact .inl h
  · refine .inr ⟨b, off, ha, fun i hi => ?_⟩
    obtain ⟨h0, h1, h2, h3, h4⟩ := hc i hi
    exact ⟨cell_later hb h0, cell_later hb h1, cell_later hb h2, cell_later hb h3, cell_later hb h4⟩

theorem DatAt.some {w : World} {ad : Option Addr} {L : List (List Nat)} (h : DatAt w ad L) {j : Nat} (hj : j < L.length) :
    ∃ b off, ad = Option.some ⟨b, off, none⟩ ∧ ∀ i (h : i < L.length), ∃ a c, w.cell? ⟨b, off + i, none⟩ = Option.some (.slice a L[i].length c) ∧ NatsAt .u16 w a L[i] := by
  rcases h with rfl | h
  · simp at hj
  · exact h

theorem CodeAt.some {w : World} {ac : Option Addr} {C : List Ins} (h : CodeAt w ac C) {j : Nat} (hj : j < C.length) :
    ∃ b off, ac = Option.some ⟨b, off, none⟩ ∧ ∀ i (h : i < C.length), w.cell? ⟨b, off + i * 5, none⟩ = Option.some (.int .i64 C[i].op) ∧ w.cell? ⟨b, off + i * 5 + 1, none⟩ = Option.some (.int .i64 C[i].a) ∧
    w.cell? ⟨b, off + i * 5 + 2, none⟩ = Option.some (.int .i64 C[i].b) ∧ w.cell? ⟨b, off + i * 5 + 3, none⟩ = Option.some (.int .i64 C[i].c) ∧ w.cell? ⟨b, off + i * 5 + 4, none⟩ = Option.some (.int .i64 C[i].imm) := by
  rcases h with rfl | h
  · simp at hj
  · exact h

/-- An instruction of a program of n regions and m instructions. -/
def goodIns (n m : Nat) (x : Ins) : Prop := vinB x = true ∧ (jumpB x.op = true → x.imm < (m : Int)) ∧ (x.op = 15 → x.imm < (n : Int))

/-- Which programs are good. -/
def GoodPg (C : List Ins) (s : List Int) (L : List (List Nat)) : Prop :=
  validB s = true ∧ L.length = s.length ∧ 1 ≤ C.length ∧ C.length ≤ 64 ∧ (∀ i (h : i < L.length) (h2 : i < s.length), (L[i].length : Int) ≤ s[i]) ∧ ∀ i (h : i < C.length), goodIns s.length C.length C[i]

/-- The call says whether it is so. -/
def Says (p : Prop) (w : World) (e : Ending) (w' : World) : Prop := ∃ g : Bool, e = .returned (.bool g) ∧ (g = true ↔ p) ∧ Below w.heap.size w w'

theorem says_no {p : Prop} {w w' : World} (hb : Below w.heap.size w w') (h : ¬ p) : Says p w (.returned (.bool false)) w' := ⟨false, rfl, by simp [h], hb⟩
theorem says_yes {p : Prop} {w w' : World} (hb : Below w.heap.size w w') (h : p) : Says p w (.returned (.bool true)) w' := ⟨true, rfl, by simp [h], hb⟩

end Go.Proofs.Ythajndgljfbifaa
