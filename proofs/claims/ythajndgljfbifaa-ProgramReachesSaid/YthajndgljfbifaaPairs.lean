/-
  WordPairs: for every list of bytes the law returns true.
-/
import Derived.Test.YthajndgljfbifaaLists2
import Derived.Test.YthajndgljfbifaaOpen
import Derived.ProofKit
import Derived.OpenShut
import Derived.Laws.IdiomStrings
import Derived.Laws.BytesArg
namespace Go.Proofs.Ythajndgljfbifaa
open Go.RowKit Go.ChangeShapes Go.WideShapes Go.ChangeAt

/-- Bytes as a string. -/
def strOf (xs : List Nat) : ByteArray := ⟨(xs.map UInt8.ofNat).toArray⟩

theorem conv_of {w : World} {a : Option Addr} {xs : List Nat} (h : NatsAt .u8 w a xs) (hx : ∀ x ∈ xs, x < 256) (n cap : Nat) (hn : n = xs.length) :
    (convert 52 9 (.slice a n cap)).run Try.prog w = .ok (.string (strOf xs)) w := by
  subst hn
  cases a with
  | none =>
    have hx : xs = [] := by
      rcases h with h | ⟨b, off, ha, _⟩
      · exact h
      · cases ha
    subst hx
    exact run_convert_bytes_nil w 52 5 Try.underlying52 Try.underlying5 _ _ _ Try.underlying9
  | some ad =>
    have hlen : (xs.map UInt8.ofNat).length = xs.length := by simp
    have := run_convert_bytes_back (P := Try.prog) w 52 9 5 ad cap (xs.map UInt8.ofNat) Try.underlying52 Try.underlying5 Try.underlying9 (by
      intro j hj
      have hj2 : j < xs.length := by simpa using hj
      obtain ⟨b, off, he, hc⟩ := h.some hj2
      cases he
      have := hc j hj2
      have hlt := hx _ (List.getElem_mem hj2)
      rw [show (⟨b, off, none⟩ : Addr).add j = ⟨b, off + j, none⟩ by unfold Addr.add; split <;> simp_all, this]
      simp
      omega)
    rw [hlen] at this
    exact this

/-- The call returns new bytes that are the string s. -/
def GivesStr (s : ByteArray) (w : World) (e : Ending) (w' : World) : Prop :=
  ∃ a n cap, e = .returned (.slice a n cap) ∧ (convert 52 9 (.slice a n cap)).run Try.prog w' = .ok (.string s) w' ∧ Below w.heap.size w w'

theorem bytes_str (a : Option Addr) (ws : List Nat) (cap : Nat) (w : World) (hl : ws.length ≤ 1000000) (ha : NatsAt .u16 w a ws) (hx : ∀ x ∈ ws, x < 65536) :
    Calls Try.prog 58 #[.slice a ws.length cap] w (GivesStr (strOf (bytesOf ws)) w) :=
  (word_Bytes a ws cap w hl ha hx).mono fun _ _ ⟨a2, c2, he, hn, hb⟩ => ⟨a2, _, c2, he, conv_of hn (bytesOf_lt ws hx) _ _ rfl, hb⟩

theorem rbytes_str (a : Option Addr) (ws : List Nat) (cap : Nat) (w : World) (hl : ws.length ≤ 1000000) (ha : NatsAt .u16 w a ws) (hx : ∀ x ∈ ws, x < 65536) :
    Calls Try.prog 60 #[.slice a ws.length cap] w (GivesStr (strOf (bytesOf ws)) w) :=
  (ref01_Bytes a ws cap w hl ha hx).mono fun _ _ ⟨a2, c2, he, hn, hb⟩ => ⟨a2, _, c2, he, conv_of hn (bytesOf_lt ws hx) _ _ rfl, hb⟩

namespace wordPairsLaw
end wordPairsLaw
end Go.Proofs.Ythajndgljfbifaa
