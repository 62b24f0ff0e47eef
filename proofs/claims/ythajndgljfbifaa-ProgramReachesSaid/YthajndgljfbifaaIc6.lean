/-
  Branch of the program; the law's example; bytes as strings.
-/
import Derived.Test.YthajndgljfbifaaIc5
import Derived.Test.YthajndgljfbifaaPairs
namespace Go.Proofs.Ythajndgljfbifaa
open Go.RowKit
set_option maxRecDepth 100000
/-- A block of bytes as a list of numbers. -/
theorem nats_blk {w : World} {B : Nat} {l : List Nat} (h : Blk w B (u8s l)) : NatsAt .u8 w (some ⟨B, 0, none⟩) l :=
  .inr ⟨B, 0, rfl, fun i hi => by
    have := (h i (by rw [length_u8s]; exact hi)).1
    simpa [u8s] using this⟩

theorem encB_lt (x : Ins) (hv : vinB x = true) : ∀ n ∈ encB x, n < 256 := by
  obtain ⟨h1, h2, h3, h4, h5, h6, h7, h8, h9, h10, _⟩ := (vinB_iff x).1 hv
  intro n hn
  simp [encB] at hn
  omega

/-- What is encoded is decoded. -/
theorem dec_enc (x : Ins) (hv : vinB x = true) : decX (encB x) = x ∧ decE (encB x) = 0 := by
  have hd : decI (encB x) = x := by
    obtain ⟨h1, h2, h3, h4, h5, h6, h7, h8, h9, h10, _⟩ := (vinB_iff x).1 hv
    obtain ⟨op, a, b, c, imm⟩ := x
    simp [decI, encB] at *
    omega
  have := dec_good (xs := encB x) rfl (by rw [hd]; exact hv)
  rw [hd] at this
  exact this

theorem enc_inj (x y : Ins) (hx : vinB x = true) (hy : vinB y = true) (h : encB x = encB y) : x = y := by
  rw [← (dec_enc x hx).1, h, (dec_enc y hy).1]

theorem strOf_inj {l m : List Nat} (hl : ∀ n ∈ l, n < 256) (hm : ∀ n ∈ m, n < 256) (h : strOf l = strOf m) : l = m := by
  have h2 : (strOf l).data.toList = (strOf m).data.toList := by rw [h]
  simp [strOf] at h2
  have h3 : (l.map UInt8.ofNat).map UInt8.toNat = (m.map UInt8.ofNat).map UInt8.toNat := by rw [h2]
  rw [List.map_map, List.map_map] at h3
  have e : ∀ k : List Nat, (∀ n ∈ k, n < 256) → k.map (UInt8.toNat ∘ UInt8.ofNat) = k := fun k hk => by
    conv => rhs; rw [← List.map_id k]
    apply List.map_congr_left
    intro n hn
    have := hk n hn
    simp
    omega
  rw [e l hl, e m hm] at h3
  exact h3

theorem vin_li : vinB ⟨1, 1, 0, 0, 258⟩ = true := by
  rw [vinB_iff]
  simp [InsIn, usA, usB, usC, usI, jumpB]

end Go.Proofs.Ythajndgljfbifaa
