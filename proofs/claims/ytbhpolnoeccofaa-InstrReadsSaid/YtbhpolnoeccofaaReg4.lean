/-
  Contracts: awake of the law; the deck's Sizes and Place.
-/
import Derived.Test.YtbhpolnoeccofaaReg3
import Derived.Test.YtbhpolnoeccofaaDeckNext
namespace Go.Proofs.Ytbhpolnoeccofaa
open Go.RowKit
/-- Numbers that lie in a block from B on. -/
def NatsFrom (B : Nat) (k : IntKind) (w : World) (a : Option Addr) (xs : List Nat) : Prop :=
  xs = [] ∨ ∃ b off, a = some ⟨b, off, none⟩ ∧ B ≤ b ∧ ∀ i (h : i < xs.length), w.cell? ⟨b, off + i, none⟩ = some (.int k (xs[i] : Int))

theorem NatsFrom.at {B : Nat} {k : IntKind} {w : World} {a : Option Addr} {xs : List Nat} (h : NatsFrom B k w a xs) : NatsAt k w a xs := by
  rcases h with h | ⟨b, off, ha, _, h⟩
  · exact .inl h
  · exact .inr ⟨b, off, ha, h⟩

theorem NatsFrom.mono {B B' : Nat} {k : IntKind} {w : World} {a : Option Addr} {xs : List Nat} (h : NatsFrom B k w a xs) (hB : B' ≤ B) : NatsFrom B' k w a xs := by
  rcases h with h | ⟨b, off, ha, hb, h⟩
  · exact .inl h
  · exact .inr ⟨b, off, ha, by omega, h⟩

theorem NatsFrom.kept {B : Nat} {k : IntKind} {w w' : World} {a : Option Addr} {xs : List Nat} {r : Option Nat} (h : NatsFrom B k w a xs) (hg : w.grownBy w' r) (hr : ∀ d, r = some d → d < B) : NatsFrom B k w' a xs := by
  rcases h with h | ⟨b, off, ha, hb, h⟩
  · exact .inl h
  · exact .inr ⟨b, off, ha, hb, fun i hi => hg.cell (h i hi) (fun e => by have := hr b e.symm; omega)⟩

theorem NatsFrom.later {B : Nat} {k : IntKind} {w w' : World} {a : Option Addr} {xs : List Nat} (h : NatsFrom B k w a xs) (hb : Below w.heap.size w w') : NatsFrom B k w' a xs := by
  rcases h with h | ⟨b, off, ha, hB, h⟩
  · exact .inl h
  · exact .inr ⟨b, off, ha, hB, fun i hi => cell_later hb (h i hi)⟩

theorem NatsFrom.of_row {k : IntKind} {w : World} {base : Nat} {e : TypeId} {v : Value} {n : Nat} {xs : List Nat} (h : w.ownsRow base e 1 v n (xs.map fun x : Nat => Value.int k (x : Int))) :
    ∃ a cap, v = .slice a xs.length cap ∧ NatsFrom base k w a xs ∧ xs.length ≤ cap ∧ (a = none → cap = 0) := by
  have hn : n = xs.length := by have := h.1; simp at this; omega
  subst hn
  rcases h.2 with ⟨hv, h0⟩ | ⟨g, cap, cur, hv, hb, hg, hnc, hrest⟩
  · have hx : xs = [] := by cases xs with | nil => rfl | cons x r => simp at h0
    subst hx
    exact ⟨none, 0, hv, Or.inl rfl, by simp, fun _ => rfl⟩
  · refine ⟨Option.some ⟨g, 0, none⟩, cap, hv, Or.inr ⟨g, 0, rfl, hb, fun i hi => ?_⟩, hnc, fun e => by cases e⟩
    subst hv
    have := h.cellAt i (by omega)
    rw [Nat.zero_add, this, List.getElem?_map, List.getElem?_eq_getElem hi]
    rfl

/-- The call gives some valid sizes in new memory and writes to the deck alone. -/
def GivesSizes (D : Nat) (w : World) (e : Ending) (w' : World) : Prop :=
  ∃ a cap s, e = .returned (.slice a s.length cap) ∧ NatsFrom w.heap.size .i64 w' a s ∧ s.length ≤ cap ∧ Sz s ∧ Deck w' D ∧ w.grownBy w' (some D)

theorem lim_of (r : Nat) (hr : (r : Int) < 3) : ∃ m : Nat, 1 ≤ m ∧ m ≤ 32 ∧ ∀ w : World, (w.alloc (.cells #[.int .i64 6, .int .i64 12, .int .i64 32] 3)).cell? ⟨w.heap.size, r, none⟩ = some (.int .i64 (m : Int)) := by
  have hr3 : r = 0 ∨ r = 1 ∨ r = 2 := by omega
  rcases hr3 with rfl | rfl | rfl
  · exact ⟨6, by omega, by omega, fun w => by rw [World.cell?_alloc_at _ _ _ _ rfl]; rfl⟩
  · exact ⟨12, by omega, by omega, fun w => by rw [World.cell?_alloc_at _ _ _ _ rfl]; rfl⟩
  · exact ⟨32, by omega, by omega, fun w => by rw [World.cell?_alloc_at _ _ _ _ rfl]; rfl⟩

theorem info_int : (Try.prog.info? 3).map (fun i => (i.zero, i.size, i.bytes)) = some (some (.int .i64 0), 1, 8) := by kernel_rfl

theorem nmap_snoc (k : IntKind) (l : List Nat) (x : Nat) : l.map (fun y : Nat => Value.int k (y : Int)) ++ [.int k (x : Int)] = (l ++ [x]).map (fun y : Nat => Value.int k (y : Int)) := by simp

/-- The call gives some place and writes to the deck alone. -/
def GivesPlace (D : Nat) (w : World) (e : Ending) (w' : World) : Prop :=
  ∃ r o : Int, e = .returned (.agg #[.int .i64 r, .int .i64 o]) ∧ Deck w' D ∧ w.grownBy w' (some D)

theorem grownBy_two {w w' : World} {D B : Nat} (h : w.grownBy w' (some D)) (hB : w.heap.size ≤ B) (x y : Value) : w.grownBy ((w'.setCell ⟨B, 0, none⟩ x).setCell ⟨B, 1, none⟩ y) (some D) :=
  grownBy_new (grownBy_new h hB 0 x) hB 1 y

theorem Deck.two {w : World} {D B : Nat} (h : Deck w D) (hB : D < B) (x y : Value) : Deck ((w.setCell ⟨B, 0, none⟩ x).setCell ⟨B, 1, none⟩ y) D :=
  (h.kept (grownBy_cell w B 0 x) (fun k hk => by cases hk; exact hB)).kept (grownBy_cell _ B 1 y) (fun k hk => by cases hk; exact hB)

end Go.Proofs.Ytbhpolnoeccofaa
