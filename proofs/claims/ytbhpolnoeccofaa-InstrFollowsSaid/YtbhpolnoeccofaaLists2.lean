/-
  Contracts of Bytes (both) and SameWords.
-/
import Derived.Test.YtbhpolnoeccofaaLists
namespace Go.Proofs.Ytbhpolnoeccofaa
open Go.RowKit

theorem bytes_word (v : Nat) (h : v < 65536) : IntKind.u8.wrap ((v : Int) / 256) = (v : Int) / 256 ∧ IntKind.u8.wrap (v : Int) = (v : Int) % 256 := by
  rw [IntKind.wrap_u8', IntKind.wrap_u8']
  omega

theorem map_two (l : List Nat) (v : Nat) : l.map (fun y : Nat => Value.int .u8 (y : Int)) ++ [.int .u8 ((v : Int) / 256), .int .u8 ((v : Int) % 256)] = (l ++ [v / 256, v % 256]).map (fun y : Nat => Value.int .u8 (y : Int)) := by
  simp

end Go.Proofs.Ytbhpolnoeccofaa
