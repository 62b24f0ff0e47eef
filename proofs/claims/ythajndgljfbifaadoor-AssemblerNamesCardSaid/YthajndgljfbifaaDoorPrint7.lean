/-
  The text of a program: the document's Print.
-/
import Derived.Test.YthajndgljfbifaaDoorName7
import Derived.Test.YthajndgljfbifaaDoorPgm
import Derived.Lib.ItoaLen
namespace Go.Proofs.YthajndgljfbifaaDoor
open Go.RowKit
set_option maxRecDepth 100000

theorem itoaB_size {n : Nat} (h : n ≤ 1000000) : (itoaB n).size ≤ 21 := by
  have := Lib.itoa_length_le (n : Int) (by omega) (by omega)
  unfold itoaB ByteArray.size
  simpa using this

theorem add_size (a b : ByteArray) : (a ++ b).size = a.size + b.size := ByteArray.size_append

/-- A line of words. -/
def rowT (t : ByteArray) (l : List Nat) : ByteArray := l.foldl (fun t v => t ++ (⟨#[32]⟩ ++ itoaB v)) t
/-- A region's line. -/
def regT (t : ByteArray) (n : Nat) (l : List Nat) : ByteArray := rowT (t ++ (⟨#[114, 101, 103, 105, 111, 110, 32]⟩ ++ itoaB n)) l ++ ⟨#[10]⟩
/-- The first k regions' lines. -/
def regsT (s : List Int) (L : List (List Nat)) : Nat → ByteArray
  | 0 => ⟨#[]⟩
  | k + 1 => regT (regsT s L k) (s.getD k 0).toNat (L.getD k [])

theorem rowT_next (t : ByteArray) (l : List Nat) {j : Nat} (h : j < l.length) : rowT t (l.take (j + 1)) = rowT t (l.take j) ++ (⟨#[32]⟩ ++ itoaB l[j]) := by
  unfold rowT
  rw [List.take_succ_eq_append_getElem h, List.foldl_append]
  rfl

theorem info_bool : (Tryd.prog.info? 4).map (fun i => (i.zero, i.size, i.bytes)) = some (some (.bool false), 1, 1) := by kernel_rfl

/-- Whether one of the first j instructions jumps to i. -/
def tgtB (C : List Ins) (j i : Nat) : Bool := (C.take j).any fun x => jumpB x.op && x.imm == (i : Int)
def tgts (C : List Ins) (j : Nat) : List Value := (List.range C.length).map fun i => .bool (tgtB C j i)

theorem tgtB_next (C : List Ins) {j : Nat} (h : j < C.length) (i : Nat) : tgtB C (j + 1) i = (tgtB C j i || (jumpB C[j].op && C[j].imm == (i : Int))) := by
  unfold tgtB
  rw [List.take_succ_eq_append_getElem h, List.any_append]
  simp

theorem tgts_zero (C : List Ins) : (madeCells #[Value.bool false] (C.length * 1)).toList = tgts C 0 := by
  rw [show (madeCells #[Value.bool false] (C.length * 1)).toList = _ from made_rows [.bool false] C.length]
  unfold tgts tgtB
  apply List.ext_getElem?
  intro i
  simp [List.flatten_replicate_singleton, List.getElem?_replicate]
  split <;> simp_all

theorem tgts_skip (C : List Ins) {j : Nat} (h : j < C.length) (hj : jumpB C[j].op = false) : tgts C (j + 1) = tgts C j := by
  unfold tgts
  simp only [tgtB_next C h, hj, Bool.false_and, Bool.or_false]

theorem tgts_set (C : List Ins) {j m : Nat} (h : j < C.length) (hj : jumpB C[j].op = true) (hm : C[j].imm = (m : Int)) : (tgts C j).set m (.bool true) = tgts C (j + 1) := by
  apply List.ext_getElem
  · simp [tgts]
  · intro i h1 h2
    simp only [tgts, List.length_set, List.length_map, List.length_range] at h1 h2
    rw [List.getElem_set]
    by_cases e : m = i
    · subst e
      simp [tgts, tgtB_next C h, hj, hm]
    · rw [if_neg e]
      have : ((m : Int) == (i : Int)) = false := by rw [beq_eq_false_iff_ne]; omega
      simp [tgts, tgtB_next C h, hj, hm, this]

/-- A register behind an operation. -/
def argT (t : ByteArray) (u : Bool) (v : Nat) : ByteArray := if u then t ++ (⟨#[32, 114]⟩ ++ itoaB v) else t
def us3 (x : Ins) (f : Nat) : Bool := [usA x.op, usB x.op, usC x.op].getD f false
def va3 (x : Ins) (f : Nat) : Nat := [x.a.toNat, x.b.toNat, x.c.toNat].getD f 0
def argsT (t : ByteArray) (x : Ins) : Nat → ByteArray
  | 0 => t
  | f + 1 => argT (argsT t x f) (us3 x f) (va3 x f)
def headT (C : List Ins) (t : ByteArray) (k : Nat) : ByteArray := if tgtB C C.length k then t ++ ((⟨#[108]⟩ ++ itoaB k) ++ ⟨#[58, 10]⟩) else t
def immT (t : ByteArray) (x : Ins) : ByteArray := if jumpB x.op then t ++ (⟨#[32, 108]⟩ ++ itoaB x.imm.toNat) else if usI x.op then t ++ (⟨#[32]⟩ ++ itoaB x.imm.toNat) else t
/-- An instruction's lines. -/
def insT (C : List Ins) (t : ByteArray) (k : Nat) (x : Ins) : ByteArray := immT (argsT (headT C t k ++ nameB x.op) x 3) x ++ ⟨#[10]⟩
def codeT (C : List Ins) (t : ByteArray) : Nat → ByteArray
  | 0 => t
  | k + 1 => insT C (codeT C t k) k (C.getD k ⟨0, 0, 0, 0, 0⟩)
/-- A program's text. -/
def printB (C : List Ins) (s : List Int) (L : List (List Nat)) : ByteArray := codeT C (regsT s L s.length) C.length

theorem nameL_size : ∀ k < 25, (nameL.getD k ⟨#[]⟩).size ≤ 3 := by decide
theorem nameB_size (op : Int) : (nameB op).size ≤ 3 := by
  unfold nameB
  split
  · exact nameL_size _ (by omega)
  · decide

end Go.Proofs.YthajndgljfbifaaDoor
