/-
  AssemblerNames: what its walk needs of texts and of a block of strings.
-/
import Derived.Test.YthajndgljfbifaaDoorRen
namespace Go.Proofs.YthajndgljfbifaaDoor
open Go.RowKit
set_option maxRecDepth 100000

/-- Lines, joined. -/
def joinL (ls : List ByteArray) : ByteArray := ⟨(Lib.join (ls.map (·.data.toList)) [10]).toArray⟩

theorem inter_cons (sep a b : List UInt8) (r : List (List UInt8)) : Lib.join (a :: b :: r) sep = a ++ sep ++ Lib.join (b :: r) sep := by
  unfold Lib.join
  simp [List.intercalate]

theorem joinL_data : ∀ ls : List ByteArray, Lib.join ((lsE ls).map (·.data.toList)) [10] = ls.flatMap fun l => l.data.toList ++ [10]
  | [] => by simp [lsE, Lib.join, List.intercalate]
  | l :: r => by
    have ih := joinL_data r
    have e : (lsE (l :: r)).map (·.data.toList) = l.data.toList :: (lsE r).map (·.data.toList) := by simp [lsE]
    rw [e]
    obtain ⟨y, t, hy⟩ : ∃ y t, (lsE r).map (·.data.toList) = y :: t := by
      cases h : (lsE r).map (·.data.toList) with
      | nil => have := congrArg List.length h; simp [lsE] at this
      | cons y t => exact ⟨y, t, rfl⟩
    rw [hy] at ih ⊢
    rw [inter_cons, ih, List.flatMap_cons]

/-- The lines of a text with the empty one behind them, joined: the text. -/
theorem joinL_text (ls : List ByteArray) : joinL (lsE ls) = textFrom ⟨#[]⟩ ls := by
  apply bytes_ext
  rw [textFrom_data]
  unfold joinL
  rw [joinL_data]
  simp

/-- The condition under which a line's last word is renamed. -/
def renB (ws : List ByteArray) : Bool := (decide (1 < ws.length) && jmpW (ws.headD ⟨#[]⟩)) || Lib.hasSuffix (ws.getLastD ⟨#[]⟩).data.toList [58]

/-- The last word, renamed. -/
def lastN (nm : ByteArray) (w : ByteArray) : ByteArray := nm ++ ⟨(w.data.toList.drop 1).toArray⟩

theorem renW_yes (nm : ByteArray) (ws : List ByteArray) (h : renB ws = true) (h0 : 0 < ws.length) : renW nm ws = ws.set (ws.length - 1) (lastN nm (ws.getLastD ⟨#[]⟩)) := by
  unfold renW
  rw [if_pos (by unfold renB at h; exact h)]
  obtain ⟨a, l, rfl⟩ : ∃ a l, ws = a ++ [l] := ⟨ws.dropLast, ws.getLast (by intro e; rw [e] at h0; simp at h0), (List.dropLast_concat_getLast _).symm⟩
  simp [lastN]

theorem renW_no (nm : ByteArray) (ws : List ByteArray) (h : renB ws = false) : renW nm ws = ws := by
  unfold renW
  rw [if_neg (by unfold renB at h; simpa using h)]

theorem size_pos_of {w : ByteArray} {b : UInt8} {l : List UInt8} (h : w.data.toList = b :: l) : 1 ≤ w.size := by
  have h1 := congrArg List.length h
  have e : w.data.toList.length = w.size := Array.length_toList
  rw [List.length_cons] at h1
  omega

theorem suffix_pos (w : ByteArray) (h : Lib.hasSuffix w.data.toList [58] = true) : 1 ≤ w.size := by
  unfold Lib.hasSuffix at h
  have h1 := (List.isSuffixOf_iff_suffix.1 h).length_le
  have e : w.data.toList.length = w.size := Array.length_toList
  rw [List.length_singleton] at h1
  omega

/-- Where a line is renamed its last word is not empty. -/
def JumpOk (l : ByteArray) : Prop := 1 < (splitW l).length → jmpW ((splitW l).headD ⟨#[]⟩) = true → 1 ≤ ((splitW l).getLastD ⟨#[]⟩).size

theorem jumpOk_one {l w : ByteArray} (h : splitW l = [w]) : JumpOk l := fun h1 => by rw [h] at h1; simp at h1

theorem jumpOk_nil : JumpOk ⟨#[]⟩ := by
  refine jumpOk_one (w := ⟨#[]⟩) ?_
  have := splitW_join [] ⟨#[]⟩ (by intro x hx; rw [List.mem_singleton.1 hx]; decide)
  rwa [join_one7] at this

theorem jumpOk_reg (n : Nat) (l : List Nat) : JumpOk (regLine n l) := by
  have h : splitW (regLine n l) = regW n l := splitW_join _ _ (fun y hy => fun h32 => (regW_clean n l y hy 32 h32).2.1 rfl)
  intro _ hj
  rw [h] at hj
  have e : (regW n l).headD ⟨#[]⟩ = ⟨#[114, 101, 103, 105, 111, 110]⟩ := rfl
  rw [e] at hj
  exact absurd hj (by decide)

theorem jumpOk_lab (k : Nat) (hk : k < 64) : JumpOk (labl k ++ ⟨#[58]⟩) := by
  refine jumpOk_one (w := labl k ++ ⟨#[58]⟩) ?_
  have h : ∀ x ∈ [labl k ++ ⟨#[58]⟩], (32 : UInt8) ∉ x.data.toList := by
    intro x hx h32
    rw [List.mem_singleton.1 hx, bytes_add, List.mem_append] at h32
    rcases h32 with h32 | h32
    · exact ((lab_clean (labl_ok.ok k hk)).1 32 h32).2.1 rfl
    · revert h32; decide
  have := splitW_join [] (labl k ++ ⟨#[58]⟩) h
  rwa [join_one7] at this

theorem labl_pos (k : Nat) : 1 ≤ (labl k).size := size_pos_of (b := 108) (l := (itoaB k).data.toList) (by unfold labl; rw [bytes_add]; rfl)

theorem jumpOk_ins (x : Ins) (hv : vinB x = true) (hi : jumpB x.op = true → x.imm < 64) : JumpOk (lineX labl x) := by
  have hc := insX_clean labl labl_ok x hv hi
  have h : splitW (lineX labl x) = insX labl x := by
    unfold lineX
    unfold insX at hc ⊢
    exact splitW_join _ _ (fun y hy => fun h32 => (hc y hy 32 h32).2.1 rfl)
  intro _ hj
  rw [h] at hj ⊢
  have h0 := (vinB_iff _).1 hv
  obtain ⟨o, ho⟩ := Int.eq_ofNat_of_zero_le h0.1
  have ho25 : o < 25 := by have := h0.2.1; omega
  have hjw := jmp_names o ho25
  rw [← ho] at hjw
  have hjb : jumpB x.op = true := by rw [← hjw]; exact hj
  have hop : x.op = 18 ∨ x.op = 19 ∨ x.op = 20 ∨ x.op = 21 := of_decide_eq_true hjb
  have hopd : ∃ l, opdL x.op = l ++ [76] := by
    rcases hop with e | e | e | e <;> rw [e]
    · exact ⟨[], by decide⟩
    · exact ⟨[65], by decide⟩
    · exact ⟨[65], by decide⟩
    · exact ⟨[65], by decide⟩
  obtain ⟨l, e⟩ := hopd
  have e2 : (insX labl x).getLastD ⟨#[]⟩ = labl x.imm.toNat := by
    unfold insX
    rw [e, List.map_append, List.map_singleton, ← List.cons_append, List.getLastD_concat]
    rfl
  rw [e2]
  exact labl_pos _

theorem jumpOk_lines (C : List Ins) (s : List Int) (L : List (List Nat)) (hC : CodePg s.length C) : ∀ l ∈ lsE (linesX labl C s L), JumpOk l := by
  obtain ⟨h1, h64, hg⟩ := hC
  intro l hl
  unfold lsE linesX at hl
  rcases List.mem_append.1 hl with hl | hl
  · rcases List.mem_append.1 hl with hl | hl
    · unfold regLs at hl
      obtain ⟨k, _, rfl⟩ := List.mem_map.1 hl
      exact jumpOk_reg _ _
    · unfold codeLs at hl
      obtain ⟨k, hk, hl⟩ := List.mem_flatMap.1 hl
      have hk2 : k < C.length := List.mem_range.1 hk
      unfold codeX at hl
      have hx : C.getD k insNil = C[k] := by rw [List.getD_eq_getElem?_getD, List.getElem?_eq_getElem hk2]; rfl
      rcases List.mem_append.1 hl with hl | hl
      · cases ht : tgtB C C.length k with
        | true =>
          rw [ht] at hl
          simp only [if_true, List.mem_singleton] at hl
          rw [hl]
          exact jumpOk_lab k (by omega)
        | false => rw [ht] at hl; simp at hl
      · rw [List.mem_singleton.1 hl, hx]
        have hv := hg k hk2
        exact jumpOk_ins _ hv.1 (fun hj => by have := hv.2.1 hj; omega)
  · rw [List.mem_singleton.1 hl]
    exact jumpOk_nil

/-- One string of a block is set. -/
theorem StrsAt.put {w : World} {b : Nat} {ws : List ByteArray} (h : StrsAt w b 0 ws) (k : Nat) (x : ByteArray) : StrsAt (w.setCell ⟨b, k, none⟩ (.string x)) b 0 (ws.set k x) := by
  intro j hj
  rw [List.length_set] at hj
  have h0 := h j hj
  rw [Nat.zero_add] at h0 ⊢
  by_cases e : j = k
  · subst e
    rw [World.cell?_setCell_same' _ _ _ (by rw [h0]; rfl)]
    simp
  · rw [World.cell?_setCell_other _ _ _ _ (by intro e2; injection e2 with _ e3; exact e e3.symm), h0, List.getElem_set_ne (by omega)]

theorem renW_length (nm : ByteArray) (ws : List ByteArray) (h0 : 0 < ws.length) : (renW nm ws).length = ws.length := by
  cases h : renB ws with
  | true => rw [renW_yes nm ws h h0, List.length_set]
  | false => rw [renW_no nm ws h]

theorem renW_size (nm : ByteArray) (ws : List ByteArray) (h0 : 0 < ws.length) (h6 : nm.size ≤ 6) (hz : ∀ y ∈ ws, y.size ≤ 4096) : ∀ y ∈ renW nm ws, y.size ≤ 4102 := by
  intro y hy
  cases h : renB ws with
  | true =>
    rw [renW_yes nm ws h h0] at hy
    rcases List.mem_or_eq_of_mem_set hy with hy | rfl
    · have := hz y hy; omega
    · have hl : ws.getLastD ⟨#[]⟩ ∈ ws := by
        obtain ⟨a, l, rfl⟩ : ∃ a l, ws = a ++ [l] := ⟨ws.dropLast, ws.getLast (by rintro rfl; simp at h0), (List.dropLast_concat_getLast _).symm⟩
        simp
      have h1 := hz _ hl
      unfold lastN
      rw [add_size]
      have h2 : (⟨((ws.getLastD ⟨#[]⟩).data.toList.drop 1).toArray⟩ : ByteArray).size = (ws.getLastD ⟨#[]⟩).size - 1 := by
        show (((ws.getLastD ⟨#[]⟩).data.toList.drop 1).toArray).size = _
        rw [List.size_toArray, List.length_drop, Array.length_toList]
        rfl
      omega
  | false =>
    rw [renW_no nm ws h] at hy
    have := hz y hy
    omega

theorem last_at (ws : List ByteArray) (m : Nat) (hm : ws.length = m + 1) (h : m < ws.length) : ws[m]'h = ws.getLastD ⟨#[]⟩ := by
  obtain ⟨a, l, rfl⟩ : ∃ a l, ws = a ++ [l] := ⟨ws.dropLast, ws.getLast (by rintro rfl; simp at hm), (List.dropLast_concat_getLast _).symm⟩
  obtain rfl : m = a.length := by simp at hm; omega
  simp

theorem str_eq {w : ByteArray} {l : List UInt8} (h : w = ⟨l.toArray⟩) : (w.toList == l) = true := by
  subst h; rw [ByteArray.toList_eq]; simp
theorem str_ne {w : ByteArray} {l : List UInt8} (h : w ≠ ⟨l.toArray⟩) : (w.toList == l) = false := by
  rw [beq_eq_false_iff_ne]
  intro e
  rw [ByteArray.toList_eq] at e
  exact h (bytes_ext (by rw [e]))

theorem drop1_string (w : ByteArray) (h : 1 ≤ w.size) : w.extract 1 w.size = ⟨(w.data.toList.drop 1).toArray⟩ := by
  apply bytes_ext
  rw [ByteArray.data_extract, Array.toList_extract, List.extract_eq_take_drop]
  have e : w.data.toList.length = w.size := Array.length_toList
  show List.take (w.size - 1) (List.drop 1 w.data.toList) = List.drop 1 w.data.toList
  rw [List.take_of_length_le (by rw [List.length_drop]; omega)]

theorem joinB_size_le (ws : List ByteArray) (m : Nat) (h : ∀ x ∈ ws, x.size ≤ m) : (joinB ws).size ≤ ws.length * (m + 1) := by
  have e : (joinB ws).size = (Lib.join (ws.map (·.data.toList)) [32]).length := rfl
  rw [e]
  clear e
  induction ws with
  | nil => simp [Lib.join, List.intercalate]
  | cons x r ih =>
    have h1 := ih (fun y hy => h y (by simp [hy]))
    have h2 : x.data.toList.length ≤ m := by have := h x (by simp); rw [Array.length_toList]; exact this
    cases r with
    | nil => simp only [List.map_cons, List.map_nil, List.length_cons, List.length_nil]; unfold Lib.join; simp [List.intercalate] at h2 ⊢; omega
    | cons y r =>
      rw [List.map_cons, List.map_cons, inter_cons] 
      rw [List.map_cons] at h1
      have e1 : (r.length + 1 + 1) * (m + 1) = (r.length + 1) * (m + 1) + (m + 1) := Nat.succ_mul _ _
      simp only [List.length_append, List.length_cons, List.length_nil] at h1 ⊢
      omega
end Go.Proofs.YthajndgljfbifaaDoor
