/-
  AssemblerNames' renaming of a line's words, as a function of lists.
-/
import Derived.Test.YthajndgljfbifaaDoorNm
namespace Go.Proofs.YthajndgljfbifaaDoor
open Go.RowKit
set_option maxRecDepth 100000

/-- The first word is one of jmp, jz, jnz, jal. -/
def jmpW (w0 : ByteArray) : Bool := decide (w0 = ⟨#[106, 109, 112]⟩ ∨ w0 = ⟨#[106, 122]⟩ ∨ w0 = ⟨#[106, 110, 122]⟩ ∨ w0 = ⟨#[106, 97, 108]⟩)

/-- A line's words with its label renamed. -/
def renW (nm : ByteArray) (ws : List ByteArray) : List ByteArray :=
  if (decide (1 < ws.length) && jmpW (ws.headD ⟨#[]⟩)) || Lib.hasSuffix (ws.getLastD ⟨#[]⟩).data.toList [58] then ws.dropLast ++ [nm ++ ⟨((ws.getLastD ⟨#[]⟩).data.toList.drop 1).toArray⟩] else ws

theorem jmp_names : ∀ k < 25, jmpW (nameB ((k : Nat) : Int)) = jumpB ((k : Nat) : Int) := by decide +kernel

theorem labl_drop (k : Nat) : (⟨((labl k).data.toList.drop 1).toArray⟩ : ByteArray) = itoaB k := by
  apply bytes_ext
  unfold labl
  rw [bytes_add]
  simp

theorem labl_drop2 (k : Nat) : (⟨((labl k ++ ⟨#[58]⟩).data.toList.drop 1).toArray⟩ : ByteArray) = itoaB k ++ ⟨#[58]⟩ := by
  apply bytes_ext
  unfold labl
  rw [bytes_add, bytes_add, bytes_add]
  simp

/-- A label's line. -/
theorem ren_lab (nm : ByteArray) (k : Nat) : renW nm [labl k ++ ⟨#[58]⟩] = [labN nm k ++ ⟨#[58]⟩] := by
  unfold renW
  have h : Lib.hasSuffix (labl k ++ ⟨#[58]⟩).data.toList [58] = true := suffix_colon (labl k)
  simp only [List.getLastD_cons, List.getLastD_nil, h, Bool.or_true, if_true, List.dropLast_singleton, List.nil_append]
  rw [labl_drop2]
  unfold labN
  congr 1
  exact bytes_ext (by rw [bytes_add, bytes_add, bytes_add, bytes_add, List.append_assoc])

/-- The empty line at the end. -/
theorem ren_nil (nm : ByteArray) : renW nm [⟨#[]⟩] = [⟨#[]⟩] := by
  unfold renW
  rw [if_neg (by decide)]

/-- Words that are no jump and have no colon stay. -/
theorem ren_same (nm : ByteArray) (w0 : ByteArray) (ws : List ByteArray) (hj : jmpW w0 = false) (hc : ∀ x ∈ w0 :: ws, (58 : UInt8) ∉ x.data.toList) : renW nm (w0 :: ws) = w0 :: ws := by
  unfold renW
  have hl : (w0 :: ws).getLastD ⟨#[]⟩ ∈ w0 :: ws := by
    have := List.getLast_mem (l := w0 :: ws) (by simp)
    rw [List.getLast_eq_getLastD] at this
    rw [List.getLastD_cons]
    exact this
  have hs := no_suffix _ (hc _ hl)
  rw [hs, List.headD_cons, hj]
  simp

theorem ren_jump (nm w0 l : ByteArray) (k : Nat) (ws : List ByteArray) (hj : jmpW w0 = true) (hl : l = labl k) : renW nm (w0 :: (ws ++ [l])) = w0 :: (ws ++ [labN nm k]) := by
  subst hl
  unfold renW
  have e1 : (w0 :: (ws ++ [labl k])).getLastD ⟨#[]⟩ = labl k := by rw [show w0 :: (ws ++ [labl k]) = (w0 :: ws) ++ [labl k] by rfl, List.getLastD_concat]
  have e2 : decide (1 < (w0 :: (ws ++ [labl k])).length) = true := decide_eq_true (by simp)
  have e3 : (w0 :: (ws ++ [labl k])).dropLast = w0 :: ws := by
    rw [show w0 :: (ws ++ [labl k]) = (w0 :: ws) ++ [labl k] by rfl, List.dropLast_concat]
  rw [List.headD_cons, hj, e1, e2, e3, labl_drop]
  simp [labN]

/-- An instruction's line. -/
theorem ren_ins (nm : ByteArray) (x : Ins) (hv : vinB x = true) (hi : jumpB x.op = true → x.imm < 64) : renW nm (insX labl x) = insX (labN nm) x := by
  have h0 := (vinB_iff _).1 hv
  obtain ⟨o, ho⟩ := Int.eq_ofNat_of_zero_le h0.1
  have ho25 : o < 25 := by have := h0.2.1; omega
  have hjw := jmp_names o ho25
  rw [← ho] at hjw
  cases hj : jumpB x.op with
  | true =>
    rw [hj] at hjw
    have hop : x.op = 18 ∨ x.op = 19 ∨ x.op = 20 ∨ x.op = 21 := of_decide_eq_true hj
    have hopd : ∃ l, opdL x.op = l ++ [76] ∧ ∀ c ∈ l, c ≠ 76 := by
      rcases hop with e | e | e | e <;> rw [e]
      · exact ⟨[], by decide, by decide⟩
      · exact ⟨[65], by decide, by decide⟩
      · exact ⟨[65], by decide, by decide⟩
      · exact ⟨[65], by decide, by decide⟩
    obtain ⟨l, e, hl⟩ := hopd
    unfold insX
    rw [e, List.map_append, List.map_append, List.map_singleton, List.map_singleton]
    rw [ren_jump nm (nameB x.op) (wordX labl x 76) x.imm.toNat (l.map (wordX labl x)) hjw rfl]
    have e2 : l.map (wordX labl x) = l.map (wordX (labN nm) x) := List.map_congr_left (fun c hc => by unfold wordX; rw [if_neg (hl c hc), if_neg (hl c hc)])
    rw [e2]
    rfl
  | false =>
    rw [hj] at hjw
    have hno : ∀ c ∈ opdL x.op, c ≠ 76 := by
      intro c hc
      rcases (show c = 65 ∨ c = 66 ∨ c = 67 ∨ c = 73 ∨ c = 76 by rw [ho] at hc; exact opd_fields o ho25 c hc) with rfl | rfl | rfl | rfl | rfl
      · decide
      · decide
      · decide
      · decide
      · exfalso
        unfold opdL at hc
        rw [hj] at hc
        revert hc
        cases usA x.op <;> cases usB x.op <;> cases usC x.op <;> cases usI x.op <;> simp
    have e2 : insX labl x = insX (labN nm) x := by
      have e3 : (opdL x.op).map (wordX labl x) = (opdL x.op).map (wordX (labN nm) x) := List.map_congr_left (fun c hc => by unfold wordX; rw [if_neg (hno c hc), if_neg (hno c hc)])
      unfold insX
      rw [e3]
    rw [← e2]
    exact ren_same nm _ _ hjw (fun y hy => fun h58 => (insX_clean labl labl_ok x hv hi y hy 58 h58).2.2 rfl)

/-- A region's line. -/
theorem ren_reg (nm : ByteArray) (n : Nat) (l : List Nat) : renW nm (regW n l) = regW n l :=
  ren_same nm _ _ (by decide) (fun y hy => fun h58 => (regW_clean n l y hy 58 h58).2.2 rfl)

theorem join_one7 (w : ByteArray) : joinB [w] = w := bytes_ext (by simp [joinB, Lib.join])

/-- A line, renamed. -/
def renL (nm : ByteArray) (l : ByteArray) : ByteArray := joinB (renW nm (splitW l))

theorem renL_of (nm w0 : ByteArray) (ws : List ByteArray) (h : ∀ x ∈ w0 :: ws, (32 : UInt8) ∉ x.data.toList) : renL nm (joinB (w0 :: ws)) = joinB (renW nm (w0 :: ws)) := by
  unfold renL
  rw [splitW_join ws w0 h]

theorem renL_reg (nm : ByteArray) (n : Nat) (l : List Nat) : renL nm (regLine n l) = regLine n l := by
  have h := ren_reg nm n l
  unfold regLine
  unfold regW at h ⊢
  rw [renL_of nm _ _ (fun y hy => fun h32 => (regW_clean n l y hy 32 h32).2.1 rfl), h]

theorem renL_lab (nm : ByteArray) (k : Nat) (hk : k < 64) : renL nm (labl k ++ ⟨#[58]⟩) = labN nm k ++ ⟨#[58]⟩ := by
  have h : ∀ x ∈ [labl k ++ ⟨#[58]⟩], (32 : UInt8) ∉ x.data.toList := by
    intro x hx h32
    rw [List.mem_singleton.1 hx, bytes_add, List.mem_append] at h32
    rcases h32 with h32 | h32
    · exact ((lab_clean (labl_ok.ok k hk)).1 32 h32).2.1 rfl
    · revert h32; decide
  rw [← join_one7 (labl k ++ ⟨#[58]⟩), renL_of nm _ [] h, ren_lab, join_one7]

theorem renL_ins (nm : ByteArray) (x : Ins) (hv : vinB x = true) (hi : jumpB x.op = true → x.imm < 64) : renL nm (lineX labl x) = lineX (labN nm) x := by
  have h := ren_ins nm x hv hi
  have hc := insX_clean labl labl_ok x hv hi
  unfold lineX
  unfold insX at h hc ⊢
  rw [renL_of nm _ _ (fun y hy => fun h32 => (hc y hy 32 h32).2.1 rfl), h]

theorem renL_nil (nm : ByteArray) : renL nm ⟨#[]⟩ = ⟨#[]⟩ := by
  rw [← join_one7 ⟨#[]⟩, renL_of nm _ [] (by intro x hx; rw [List.mem_singleton.1 hx]; decide), ren_nil]

/-- All lines, renamed. -/
theorem ren_lines (nm : ByteArray) (C : List Ins) (s : List Int) (L : List (List Nat)) (hC : CodePg s.length C) : (lsE (linesX labl C s L)).map (renL nm) = lsE (linesX (labN nm) C s L) := by
  obtain ⟨h1, h64, hg⟩ := hC
  have hreg : ∀ m, (regLs s L m).map (renL nm) = regLs s L m := fun m => by
    unfold regLs
    rw [List.map_map]
    exact List.map_congr_left (fun k _ => renL_reg nm _ _)
  have hcode : ∀ m, m ≤ C.length → (codeLs labl C m).map (renL nm) = codeLs (labN nm) C m := by
    intro m
    induction m with
    | zero => intro _; rfl
    | succ m ih =>
      intro hm
      have hx : C.getD m insNil = C[m]'(by omega) := by rw [List.getD_eq_getElem?_getD, List.getElem?_eq_getElem (by omega)]; rfl
      have hv := hg m (by omega)
      have e1 : ∀ lab, codeLs lab C (m + 1) = codeLs lab C m ++ codeX lab C m := fun lab => by
        unfold codeLs
        rw [List.range_succ, List.flatMap_append]
        simp
      rw [e1, e1, List.map_append, ih (by omega)]
      congr 1
      unfold codeX
      rw [List.map_append, List.map_singleton, hx, renL_ins nm _ hv.1 (fun hj => by have := hv.2.1 hj; omega)]
      congr 1
      cases tgtB C C.length m with
      | true => simp only [if_true, List.map_singleton]; rw [renL_lab nm m (by omega)]
      | false => rfl
  unfold lsE linesX
  rw [List.map_append, List.map_append, hreg, hcode _ (Nat.le_refl _), List.map_singleton, renL_nil]
end Go.Proofs.YthajndgljfbifaaDoor
