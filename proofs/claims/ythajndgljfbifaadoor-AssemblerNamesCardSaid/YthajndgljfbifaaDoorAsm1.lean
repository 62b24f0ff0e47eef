/-
  The text of a program, line by line, as lists of words.
-/
import Derived.Test.YthajndgljfbifaaDoorPrint7
import Derived.Lib.Join
namespace Go.Proofs.YthajndgljfbifaaDoor
open Go.RowKit
set_option maxRecDepth 100000

/-- A region's words. -/
def regW (n : Nat) (l : List Nat) : List ByteArray := ⟨#[114, 101, 103, 105, 111, 110]⟩ :: itoaB n :: l.map itoaB

/-- The operands of an operation. -/
def opdL (op : Int) : List UInt8 := (if usA op then [65] else []) ++ ((if usB op then [66] else []) ++ ((if usC op then [67] else []) ++ (if jumpB op then [76] else if usI op then [73] else [])))

/-- What an operand is in front of. -/
def preC (c : UInt8) : ByteArray := if c = 73 then ⟨#[]⟩ else if c = 76 then ⟨#[108]⟩ else ⟨#[114]⟩
def fldC (x : Ins) (c : UInt8) : Int := if c = 65 then x.a else if c = 66 then x.b else if c = 67 then x.c else x.imm
def wordC (x : Ins) (c : UInt8) : ByteArray := preC c ++ itoaB (fldC x c).toNat
/-- An instruction's words. -/
def insW (x : Ins) : List ByteArray := nameB x.op :: (opdL x.op).map (wordC x)

/-- Words joined by single spaces. -/
def joinB (l : List ByteArray) : ByteArray := ⟨(Lib.join (l.map (·.data.toList)) [32]).toArray⟩

theorem bytes_ext {a b : ByteArray} (h : a.data.toList = b.data.toList) : a = b := by
  cases a; cases b; simp only [Array.toList_inj] at h; rw [h]

theorem bytes_add (a b : ByteArray) : (a ++ b).data.toList = a.data.toList ++ b.data.toList := by
  rw [ByteArray.data_append, Array.toList_append]

/-- .. one after the other. -/
def addW (t : ByteArray) (l : List ByteArray) : ByteArray := l.foldl (fun t v => t ++ (⟨#[32]⟩ ++ v)) t

theorem addW_app (a b : ByteArray) : ∀ l, addW (a ++ b) l = a ++ addW b l := by
  intro l
  induction l generalizing b with
  | nil => rfl
  | cons x r ih =>
    show addW (a ++ b ++ (⟨#[32]⟩ ++ x)) r = a ++ addW (b ++ (⟨#[32]⟩ ++ x)) r
    rw [ByteArray.append_assoc, ih]

theorem joinB_cons (x : ByteArray) (l : List ByteArray) : joinB (x :: l) = addW x l := by
  apply bytes_ext
  show ((Lib.join ((x :: l).map (·.data.toList)) [32]).toArray).toList = _
  rw [List.map_cons, Lib.join_cons]
  induction l generalizing x with
  | nil => simp [Lib.joinTail, addW]
  | cons y r ih =>
    have h := ih (x ++ (⟨#[32]⟩ ++ y))
    show _ = (addW (x ++ (⟨#[32]⟩ ++ y)) r).data.toList
    rw [← h]
    simp [Lib.joinTail]

/-- A region's line. -/
def regLine (n : Nat) (l : List Nat) : ByteArray := joinB (regW n l)
/-- An instruction's line. -/
def insLine (x : Ins) : ByteArray := joinB (insW x)
/-- A label's line. -/
def labLine (k : Nat) : ByteArray := (⟨#[108]⟩ ++ itoaB k) ++ ⟨#[58]⟩

theorem empty_add (t : ByteArray) : (⟨#[]⟩ : ByteArray) ++ t = t := bytes_ext (by rw [bytes_add]; rfl)

theorem regT_line (t : ByteArray) (n : Nat) (l : List Nat) : regT t n l = t ++ regLine n l ++ ⟨#[10]⟩ := by
  have h1 : ∀ (l : List Nat) (t : ByteArray), rowT t l = addW t (l.map itoaB) := by
    intro l
    induction l with
    | nil => intro t; rfl
    | cons x r ih => intro t; exact ih _
  have h2 : (⟨#[114, 101, 103, 105, 111, 110, 32]⟩ : ByteArray) = ⟨#[114, 101, 103, 105, 111, 110]⟩ ++ ⟨#[32]⟩ := rfl
  unfold regT regLine regW
  rw [h1, joinB_cons, addW_app]
  congr 2

theorem immT_app (a b : ByteArray) (x : Ins) : immT (a ++ b) x = a ++ immT b x := by
  unfold immT
  split
  · rw [ByteArray.append_assoc]
  · split
    · rw [ByteArray.append_assoc]
    · rfl

theorem argT_app (a b : ByteArray) (u : Bool) (v : Nat) : argT (a ++ b) u v = a ++ argT b u v := by
  unfold argT
  split
  · rw [ByteArray.append_assoc]
  · rfl

theorem insLine_eq (x : Ins) : insLine x = immT (argsT (nameB x.op) x 3) x := by
  unfold insLine insW
  rw [joinB_cons]
  generalize nameB x.op = t
  have e1 : wordC x 65 = ⟨#[114]⟩ ++ itoaB x.a.toNat := rfl
  have e2 : wordC x 66 = ⟨#[114]⟩ ++ itoaB x.b.toNat := rfl
  have e3 : wordC x 67 = ⟨#[114]⟩ ++ itoaB x.c.toNat := rfl
  have e4 : wordC x 76 = ⟨#[108]⟩ ++ itoaB x.imm.toNat := rfl
  have e5 : wordC x 73 = itoaB x.imm.toNat := empty_add _
  have k1 : ∀ v : ByteArray, (⟨#[32]⟩ : ByteArray) ++ (⟨#[114]⟩ ++ v) = ⟨#[32, 114]⟩ ++ v := fun v => by rw [← ByteArray.append_assoc]; rfl
  have k2 : ∀ v : ByteArray, (⟨#[32]⟩ : ByteArray) ++ (⟨#[108]⟩ ++ v) = ⟨#[32, 108]⟩ ++ v := fun v => by rw [← ByteArray.append_assoc]; rfl
  unfold opdL immT argsT argsT argsT argsT argT
  show _ = if jumpB x.op then _ else _
  simp only [us3, va3, List.getD_cons_zero, List.getD_cons_succ]
  cases usA x.op <;> cases usB x.op <;> cases usC x.op <;> cases jumpB x.op <;> cases usI x.op <;> simp [addW, e1, e2, e3, e4, e5, k1, k2]

theorem insT_line (C : List Ins) (t : ByteArray) (k : Nat) (x : Ins) : insT C t k x = headT C t k ++ insLine x ++ ⟨#[10]⟩ := by
  unfold insT
  rw [insLine_eq]
  unfold argsT argsT argsT argsT
  rw [argT_app, argT_app, argT_app, immT_app]

theorem headT_line (C : List Ins) (t : ByteArray) (k : Nat) : headT C t k = if tgtB C C.length k then t ++ (labLine k ++ ⟨#[10]⟩) else t := by
  unfold headT labLine
  split
  · congr 1
    rw [ByteArray.append_assoc (a := ⟨#[108]⟩ ++ itoaB k)]
    rfl
  · rfl
end Go.Proofs.YthajndgljfbifaaDoor
