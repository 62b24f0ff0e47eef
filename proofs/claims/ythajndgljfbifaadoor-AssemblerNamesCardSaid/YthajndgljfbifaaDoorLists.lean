/-
  Contracts of the functions on lists of words and bytes: Words, Bytes, SameWords, Numbers and the document's own.
-/
import Derived.Test.YthajndgljfbifaaDoorWords
import Derived.Test.YthajndgljfbifaaDoorNats
import Derived.Test.YthajndgljfbifaaDoorListMath
import Derived.WalkKit
import Derived.WalkSpells
import Derived.Lib.Hide
import Derived.Outline
import Derived.StillTailTactics
import Derived.BigRegion
import Derived.Deep.QuietTactic
import Derived.BigQuiet
import Derived.Deep.RegionHeld3
import Derived.Deep.AppendLies
namespace Go.Proofs.YthajndgljfbifaaDoor
open Go.RowKit
set_option maxRecDepth 100000

/-- The call returns a new list of numbers. -/
def GivesNats (k : IntKind) (xs : List Nat) (w : World) (e : Ending) (w' : World) : Prop :=
  ∃ a cap, e = .returned (.slice a xs.length cap) ∧ NatsAt k w' a xs ∧ Below w.heap.size w w'

/-- The call returns a new list of words and no error. -/
def GivesWords (xs : List Nat) (w : World) (e : Ending) (w' : World) : Prop :=
  ∃ a cap, e = .returned (.tuple #[.slice a xs.length cap, .int .i64 0]) ∧ NatsAt .u16 w' a xs ∧ Below w.heap.size w w'

theorem info_u16 : (Tryd.prog.info? 81).map (fun i => (i.zero, i.size, i.bytes)) = some (some (.int .u16 0), 1, 2) := by kernel_rfl
theorem info_u8 : (Tryd.prog.info? 5).map (fun i => (i.zero, i.size, i.bytes)) = some (some (.int .u8 0), 1, 1) := by kernel_rfl

/-- Two bytes as a word. -/
theorem word_join (x y : Nat) (hx : x < 256) (hy : y < 256) : bits .or .u16 ((x : Int) * 256) (y : Int) = ((x * 256 + y : Nat) : Int) := by
  have e : (x : Int) * 256 = ((x * 256 : Nat) : Int) := by simp
  rw [e, u16_or_nat _ _ (by omega) (by omega), nat_join 8 (x * 256) y (by omega) (by omega)]

/-- The cells of the words that are there, behind them zeros. -/
def rowTo (ws : List Nat) (n : Nat) : List Value := ws.map (fun x : Nat => Value.int .u16 (x : Int)) ++ List.replicate (n - ws.length) (.int .u16 0)

theorem rowTo_set (ws : List Nat) (n x : Nat) (h : ws.length < n) : (rowTo ws n).set ws.length (.int .u16 (x : Int)) = rowTo (ws ++ [x]) n := by
  unfold rowTo
  rw [List.set_append_right _ _ (by simp), List.length_map, Nat.sub_self, List.length_append, show n - ws.length = n - (ws.length + [x].length) + 1 by simp; omega, List.replicate_succ]
  simp

theorem rowTo_at (ws : List Nat) (n : Nat) (h : ws.length < n) : (rowTo ws n)[ws.length]? = some (.int .u16 0) := by
  unfold rowTo
  rw [List.getElem?_append_right (by simp), List.length_map, Nat.sub_self, List.getElem?_replicate, if_pos (by omega)]

theorem rowTo_full (ws : List Nat) : rowTo ws ws.length = ws.map (fun x : Nat => Value.int .u16 (x : Int)) := by simp [rowTo]

theorem wraps_word (x : Nat) (h : x < 256) : IntKind.u16.wrap (x : Int) = (x : Int) ∧ IntKind.u16.wrap ((x : Int) * 256) = (x : Int) * 256 := by
  rw [IntKind.wrap_u16, IntKind.wrap_u16]
  omega

/-- What lies below the call's own blocks is not the block that it owns. -/
theorem far_of {wr : World} {base e size n : Nat} {v : Value} {xs : List Value} (h : wr.ownsRow base e size v n xs) {b : Nat} (hb : b < base) : Option.some b ≠ v.ownBlock := by
  intro he
  have := (h.lt b he.symm).1
  omega

theorem map_snoc (k : IntKind) (l : List Nat) (x : Nat) : (l ++ [x]).map (fun y : Nat => Value.int k (y : Int)) = l.map (fun y : Nat => Value.int k (y : Int)) ++ [.int k (x : Int)] := by simp

end Go.Proofs.YthajndgljfbifaaDoor
