/-
  Arguments that are slices of words, bytes or ints, opened to lists; slices of cells.
-/
import Derived.Test.YthajndgljfbifaaOpenInts
import Derived.Test.YthajndgljfbifaaLists
import Derived.Test.YthajndgljfbifaaCells
import Derived.ProofKit
import Derived.OpenShut
import Derived.Deep.Slices
import Derived.Deep.Fields
import Derived.ChangeSame
namespace Go.Proofs.Ythajndgljfbifaa
open Go.RowKit Go.ChangeShapes Go.WideShapes Go.ChangeAt Go.Deep
set_option maxRecDepth 100000

theorem open_bytes {H : Type} {enc : TypeId × Value → H} {W : World} {base : Nat} {v : Value} {d : DataW H} {p : List MemPlace}
    (o : Value.okWide Try.prog W .any base 52 v) (h : DataW.Trod enc Try.prog W 0 (fun _ => true) true 52 v d p) :
    ∃ a xs cap, v = .slice a xs.length cap ∧ NatsAt .u8 W a xs ∧ (∀ x ∈ xs, x < 256) ∧ xs.length ≤ maxLen := by
  obtain ⟨a, xs, cap, hv, hi, hw, hl⟩ := open_nums Try.underlying52 Try.underlying5 (by kernel_rfl) o h
  have hb : ∀ x ∈ xs, 0 ≤ x ∧ x ≤ 255 := fun x hx => by simpa [Lit.wf, IntKind.min, IntKind.max, IntKind.signed, IntKind.bits] using hw x hx
  refine ⟨a, xs.map Int.toNat, cap, by rw [List.length_map]; exact hv, nats_of hi (fun x hx => (hb x hx).1), ?_, by rw [List.length_map]; exact hl⟩
  intro y hy
  obtain ⟨x, hx, rfl⟩ := List.mem_map.1 hy
  have := hb x hx
  omega

theorem open_words {H : Type} {enc : TypeId × Value → H} {W : World} {base : Nat} {v : Value} {d : DataW H} {p : List MemPlace}
    (o : Value.okWide Try.prog W .any base 84 v) (h : DataW.Trod enc Try.prog W 0 (fun _ => true) true 84 v d p) :
    ∃ a xs cap, v = .slice a xs.length cap ∧ NatsAt .u16 W a xs ∧ (∀ x ∈ xs, x < 65536) ∧ xs.length ≤ maxLen := by
  obtain ⟨a, xs, cap, hv, hi, hw, hl⟩ := open_nums Try.underlying84 Try.underlying27 (by kernel_rfl) o h
  have hb : ∀ x ∈ xs, 0 ≤ x ∧ x ≤ 65535 := fun x hx => by simpa [Lit.wf, IntKind.min, IntKind.max, IntKind.signed, IntKind.bits] using hw x hx
  refine ⟨a, xs.map Int.toNat, cap, by rw [List.length_map]; exact hv, nats_of hi (fun x hx => (hb x hx).1), ?_, by rw [List.length_map]; exact hl⟩
  intro y hy
  obtain ⟨x, hx, rfl⟩ := List.mem_map.1 hy
  have := hb x hx
  omega

end Go.Proofs.Ythajndgljfbifaa
