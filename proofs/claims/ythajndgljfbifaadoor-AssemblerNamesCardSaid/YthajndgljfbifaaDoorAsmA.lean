/-
  The assembler's small functions: Name, takesLabel, prefix, field, isLetter, isDigit, operationNamed.
-/
import Derived.Test.YthajndgljfbifaaDoorTabs8
import Derived.Test.YthajndgljfbifaaDoorNum
import Derived.PlainAid
namespace Go.Proofs.YthajndgljfbifaaDoor
open Go.RowKit Go.PlainAid
set_option maxRecDepth 100000

theorem asm_Name (op : Int) (w : World) (ho : OpsTab w) :
    Calls Tryd.prog 37 #[.int .i64 op] w fun e w' => e = .returned (.string (nameB op)) ∧ w' = w := by
  by_cases h1 : op < 0
  · have hv : Hid (nameB op = ⟨#[]⟩) := Lib.hid (by unfold nameB; rw [if_neg (by omega)])
    go_enter Tryd.func37, Tryd.ntmps37
    go_wp2
    go_ret
    exact ⟨by rw [hv.out]; rfl, rfl⟩
  · by_cases h2 : op < 25
    · obtain ⟨k, rfl⟩ := Int.eq_ofNat_of_zero_le (by omega : 0 ≤ op)
      have c0 := (ho k (by omega)).1
      have h3 : 0 ≤ (k : Int) := by omega
      have h4 : ¬ 25 ≤ (k : Int) := by omega
      generalize nameB (k : Int) = v at *
      clear ho
      go_enter Tryd.func37, Tryd.ntmps37
      go_wp2
      go_ret
      exact ⟨rfl, rfl⟩
    · have hv : Hid (nameB op = ⟨#[]⟩) := Lib.hid (by unfold nameB; rw [if_neg (by omega)])
      have h4 : 25 ≤ op := by omega
      go_enter Tryd.func37, Tryd.ntmps37
      go_wp2
      go_ret
      exact ⟨by rw [hv.out]; rfl, rfl⟩

theorem jump_opd : ∀ k < 25, decide (0 ≤ Lib.indexByte (opdL ((k : Nat) : Int)) 76) = jumpB (k : Int) := by decide

theorem asm_takesLabel (k : Nat) (w : World) (ho : OpsTab w) (hk : k < 25) :
    Calls Tryd.prog 43 #[.int .i64 (k : Int)] w fun e w' => e = .returned (.bool (jumpB (k : Int))) ∧ w' = w := by
  have c1 := (ho k hk).2
  have h3 : 0 ≤ (k : Int) := by omega
  have h4 : (k : Int) < 25 := by omega
  have HC := Lib.hid (Tryd.strings_ContainsRune_ascii ⟨(opdL (k : Int)).toArray⟩ 76 w (by decide) (by decide))
  have he : Hid (decide (0 ≤ Lib.indexByte (⟨(opdL (k : Int)).toArray⟩ : ByteArray).data.toList (76 : Int).toNat.toUInt8) = jumpB (k : Int)) := Lib.hid (jump_opd k hk)
  rw [he.out] at HC
  generalize jumpB (k : Int) = r at *
  generalize (⟨(opdL (k : Int)).toArray⟩ : ByteArray) = t at *
  clear ho he
  go_enter Tryd.func43, Tryd.ntmps43
  go_wp2_with (go_at_call 59; (with_reducible refine HC.out.mono ?_); rintro e w' ⟨rfl, rfl⟩)
  go_ret
  exact ⟨rfl, rfl⟩

theorem asm_prefix (c : UInt8) (w : World) :
    Calls Tryd.prog 45 #[.int .i32 (c.toNat : Int)] w fun e w' => e = .returned (.string (preC c)) ∧ w' = w := by
  by_cases h1 : c = 73
  · subst h1
    have hv : Hid (preC 73 = ⟨#[]⟩) := Lib.hid rfl
    have e1 : (((73 : UInt8).toNat : Int)) = 73 := rfl
    rw [e1]
    go_enter Tryd.func45, Tryd.ntmps45
    go_wp2
    go_ret
    exact ⟨by rw [hv.out]; rfl, rfl⟩
  · by_cases h2 : c = 76
    · subst h2
      have hv : Hid (preC 76 = ⟨#[108]⟩) := Lib.hid rfl
      have e1 : (((76 : UInt8).toNat : Int)) = 76 := rfl
      rw [e1]
      go_enter Tryd.func45, Tryd.ntmps45
      go_wp2
      go_ret
      exact ⟨by rw [hv.out]; rfl, rfl⟩
    · have hv : Hid (preC c = ⟨#[114]⟩) := Lib.hid (by unfold preC; rw [if_neg h1, if_neg h2])
      have n1 : ((c.toNat : Int) == 73) = false := by rw [beq_eq_false_iff_ne]; intro h; exact h1 (UInt8.toNat_inj.1 (by have : (73 : UInt8).toNat = 73 := rfl; omega))
      have n2 : ((c.toNat : Int) == 76) = false := by rw [beq_eq_false_iff_ne]; intro h; exact h2 (UInt8.toNat_inj.1 (by have : (76 : UInt8).toNat = 76 := rfl; omega))
      generalize (c.toNat : Int) = x at *
      go_enter Tryd.func45, Tryd.ntmps45
      go_wp2
      go_ret
      exact ⟨by rw [hv.out]; rfl, rfl⟩

/-- Where an instruction has an operand. -/
def offC (c : UInt8) : Nat := if c = 65 then 1 else if c = 66 then 2 else if c = 67 then 3 else 4

theorem asm_field (b : Nat) (c : UInt8) (w : World) :
    Calls Tryd.prog 46 #[.pointer (some ⟨b, 0, none⟩), .int .i32 (c.toNat : Int)] w fun e w' => e = .returned (.pointer (some ⟨b, offC c, none⟩)) ∧ w' = w := by
  by_cases h1 : c = 65
  · subst h1
    have hv : Hid (offC 65 = 1) := Lib.hid rfl
    have e1 : (((65 : UInt8).toNat : Int)) = 65 := rfl
    rw [e1, hv.out]
    go_enter Tryd.func46, Tryd.ntmps46
    go_wp2
    go_ret
    exact ⟨rfl, rfl⟩
  · by_cases h2 : c = 66
    · subst h2
      have hv : Hid (offC 66 = 2) := Lib.hid rfl
      have e1 : (((66 : UInt8).toNat : Int)) = 66 := rfl
      rw [e1, hv.out]
      go_enter Tryd.func46, Tryd.ntmps46
      go_wp2
      go_ret
      exact ⟨rfl, rfl⟩
    · by_cases h3 : c = 67
      · subst h3
        have hv : Hid (offC 67 = 3) := Lib.hid rfl
        have e1 : (((67 : UInt8).toNat : Int)) = 67 := rfl
        rw [e1, hv.out]
        go_enter Tryd.func46, Tryd.ntmps46
        go_wp2
        go_ret
        exact ⟨rfl, rfl⟩
      · have hv : offC c = 4 := by unfold offC; rw [if_neg h1, if_neg h2, if_neg h3]
        rw [hv]
        clear hv
        have n1 : ((c.toNat : Int) == 65) = false := by rw [beq_eq_false_iff_ne]; intro h; exact h1 (UInt8.toNat_inj.1 (by have : (65 : UInt8).toNat = 65 := rfl; omega))
        have n2 : ((c.toNat : Int) == 66) = false := by rw [beq_eq_false_iff_ne]; intro h; exact h2 (UInt8.toNat_inj.1 (by have : (66 : UInt8).toNat = 66 := rfl; omega))
        have n3 : ((c.toNat : Int) == 67) = false := by rw [beq_eq_false_iff_ne]; intro h; exact h3 (UInt8.toNat_inj.1 (by have : (67 : UInt8).toNat = 67 := rfl; omega))
        generalize (c.toNat : Int) = x at *
        go_enter Tryd.func46, Tryd.ntmps46
        go_wp2
        go_ret
        exact ⟨rfl, rfl⟩

theorem asm_isLetter (v : Int) (w : World) :
    Calls Tryd.prog 81 #[.int .u8 v] w fun e w' => e = .returned (.bool (decide (97 ≤ v ∧ v ≤ 122))) ∧ w' = w := by
  have H1 := Lib.hid (fun (h : 97 ≤ v ∧ v ≤ 122) => decide_eq_true h)
  have H2 := Lib.hid (fun (h : ¬ (97 ≤ v ∧ v ≤ 122)) => decide_eq_false h)
  generalize decide (97 ≤ v ∧ v ≤ 122) = r at *
  by_cases h1 : 97 ≤ v
  · by_cases h2 : v ≤ 122
    · have HR := Lib.hid (H1.out ⟨h1, h2⟩)
      clear H1 H2
      go_enter Tryd.func81, Tryd.ntmps81
      go_wp2
      go_ret
      exact ⟨by rw [HR.out]; rfl, rfl⟩
    · have HR := Lib.hid (H2.out (fun h => h2 h.2))
      clear H1 H2
      go_enter Tryd.func81, Tryd.ntmps81
      go_wp2
      go_ret
      exact ⟨by rw [HR.out]; rfl, rfl⟩
  · have HR := Lib.hid (H2.out (fun h => h1 h.1))
    clear H1 H2
    go_enter Tryd.func81, Tryd.ntmps81
    go_wp2
    go_ret
    exact ⟨by rw [HR.out]; rfl, rfl⟩

theorem asm_isDigit (v : Int) (w : World) :
    Calls Tryd.prog 82 #[.int .u8 v] w fun e w' => e = .returned (.bool (decide (48 ≤ v ∧ v ≤ 57))) ∧ w' = w := by
  have H1 := Lib.hid (fun (h : 48 ≤ v ∧ v ≤ 57) => decide_eq_true h)
  have H2 := Lib.hid (fun (h : ¬ (48 ≤ v ∧ v ≤ 57)) => decide_eq_false h)
  generalize decide (48 ≤ v ∧ v ≤ 57) = r at *
  by_cases h1 : 48 ≤ v
  · by_cases h2 : v ≤ 57
    · have HR := Lib.hid (H1.out ⟨h1, h2⟩)
      clear H1 H2
      go_enter Tryd.func82, Tryd.ntmps82
      go_wp2
      go_ret
      exact ⟨by rw [HR.out]; rfl, rfl⟩
    · have HR := Lib.hid (H2.out (fun h => h2 h.2))
      clear H1 H2
      go_enter Tryd.func82, Tryd.ntmps82
      go_wp2
      go_ret
      exact ⟨by rw [HR.out]; rfl, rfl⟩
  · have HR := Lib.hid (H2.out (fun h => h1 h.1))
    clear H1 H2
    go_enter Tryd.func82, Tryd.ntmps82
    go_wp2
    go_ret
    exact ⟨by rw [HR.out]; rfl, rfl⟩

theorem toList_inj {a b : ByteArray} (h : a.toList = b.toList) : a = b := by
  rw [ByteArray.toList_eq, ByteArray.toList_eq] at h
  exact bytes_ext h

theorem names_apart : ∀ i < 25, ∀ j < i, nameB ((j : Nat) : Int) ≠ nameB ((i : Nat) : Int) := by decide

theorem asm_operationNamed (op : Nat) (w : World) (ho : OpsTab w) (hk : op < 25) :
    Calls Tryd.prog 84 #[.string (nameB (op : Int))] w fun e w' => e = .returned (.tuple #[.int .i64 (op : Int), .bool true]) ∧ w' = w := by
  have HA := Lib.hid (names_apart op hk)
  go_enter Tryd.func84, Tryd.ntmps84
  go_wp2_with fail
  go_loopw [5] (fun c wr => ∃ k : Nat, k ≤ op ∧ c = .int .i64 k ∧ wr = w) (fun c _ => op - (intOf c).toNat)
  case atStart => exact ⟨0, by omega, rfl, rfl⟩
  obtain ⟨k, hk2, rfl, rfl⟩ := hrel
  have c0 := (ho k (by omega)).1
  have h3 : 0 ≤ (k : Int) := by omega
  have h4 : (k : Int) < 25 := by omega
  by_cases e : k = op
  · subst e
    have q : ((nameB (k : Int)).toList == (nameB (k : Int)).toList) = true := beq_self_eq_true _
    generalize nameB (k : Int) = v at *
    clear ho HA
    go_wp2
    refine bodyPost_ret (v := .tuple #[.int .i64 (k : Int), .bool true]) (by simp [results, Tryd.results84, go_sem]) rfl ⟨rfl, rfl⟩
  · have q : ((nameB (k : Int)).toList == (nameB (op : Int)).toList) = false := by rw [beq_eq_false_iff_ne]; exact fun h => HA.out k (by omega) (toList_inj h)
    generalize nameB (k : Int) = v at *
    generalize nameB (op : Int) = u at *
    have hlt : k < op := by omega
    clear ho HA e
    go_wp2_with fail
    refine ⟨⟨k + 1, by omega, by go_num, trivial⟩, ?_⟩
    simp [intOf]
    omega
end Go.Proofs.YthajndgljfbifaaDoor
