/-
  Texts' numbers and labels: the document's number and label.
-/
import Derived.Test.YtejbmidgnagcdaaGreatDoorDoor
import Derived.PlainAid
namespace Go.Proofs.YtejbmidgnagcdaaGreatDoor
open Go.RowKit Go.PlainAid
set_option maxRecDepth 100000

/-- A decimal digit. -/
def digB (v : Int) : Prop := 48 ≤ v ∧ v ≤ 57
instance (v : Int) : Decidable (digB v) := by unfold digB; infer_instance

/-- The value of the first k digits, at most 65536. -/
def numTo (s : ByteArray) : Nat → Int
  | 0 => 0
  | k + 1 => min (numTo s k * 10 + (bt s k - 48)) 65536

theorem numTo_le (s : ByteArray) : ∀ k, (∀ j < k, digB (bt s j)) → 0 ≤ numTo s k ∧ numTo s k ≤ 65536
  | 0, _ => by simp [numTo]
  | k + 1, h => by
    have h1 := numTo_le s k (fun j hj => h j (by omega))
    have h2 := h k (by omega)
    unfold digB at h2
    unfold numTo
    omega

/-- The number that a text is; -1: none; 65536: too large. -/
def numB (s : ByteArray) : Int := if s.size = 0 ∨ (1 < s.size ∧ bt s 0 = 48) then -1 else if ∀ k < s.size, digB (bt s k) then numTo s s.size else -1

theorem ref07_number (s : ByteArray) (w : World) (hs : s.size ≤ 1000000) :
    Calls Tryz.prog 82 #[.string s] w fun e w' => e = .returned (.int .i64 (numB s)) ∧ w' = w := by
  have hb := get_bt s
  have hb0 := bt_nonneg s
  have hb1 := bt_le s
  by_cases h0 : s.size = 0
  · have hr : numB s = -1 := if_pos (.inl h0)
    rw [hr]
    have hse : s = ⟨#[]⟩ := by cases s with | mk d => congr; exact Array.eq_empty_of_size_eq_zero h0
    subst hse
    go_enter Tryz.func82, Tryz.ntmps82
    go_wp2
    go_ret
    exact ⟨rfl, rfl⟩
  · have t1 : ¬ s.toList = [] := by
      intro h
      have h2 : s.data.toList.length = s.size := Array.length_toList
      rw [← ByteArray.toList_eq, h] at h2
      exact h0 h2.symm
    have t2 : s.toList.isEmpty = false := by
      cases h : s.toList with
      | nil => exact absurd h t1
      | cons _ _ => rfl
    by_cases h1 : 1 < s.size ∧ bt s 0 = 48
    · have hr : numB s = -1 := if_pos (.inr h1)
      rw [hr]
      obtain ⟨h1, h2⟩ := h1
      go_enter Tryz.func82, Tryz.ntmps82
      go_wp2
      go_ret
      exact ⟨rfl, rfl⟩
    · have hr : numB s = if ∀ k < s.size, digB (bt s k) then numTo s s.size else -1 := if_neg (by rintro (h | h); exact h0 h; exact h1 h)
      rw [hr]
      have HNo := Lib.hid (fun (k : Nat) (h : k < s.size) (hd : ¬ digB (bt s k)) => (if_neg (fun hh => hd (hh k h)) : (if ∀ k < s.size, digB (bt s k) then numTo s s.size else -1) = -1))
      have HYes := Lib.hid (fun (h : ∀ k < s.size, digB (bt s k)) => (if_pos h : (if ∀ k < s.size, digB (bt s k) then numTo s s.size else -1) = numTo s s.size))
      generalize (if ∀ k < s.size, digB (bt s k) then numTo s s.size else -1) = res at *
      have g1 : ¬ (1 < (s.size : Int)) ∨ ((1 < (s.size : Int)) ∧ (bt s 0 == 48) = false) := by
        by_cases h : 1 < s.size
        · exact .inr ⟨by omega, by rw [beq_eq_false_iff_ne]; exact fun hh => h1 ⟨h, hh⟩⟩
        · exact .inl (by omega)
      clear hr h1
      go_enter Tryz.func82, Tryz.ntmps82
      rcases g1 with g1 | ⟨g1, g2⟩
      all_goals go_wp2_with fail
      all_goals go_loopw [3, 19] (fun n c wr => ∃ k : Nat, k ≤ s.size ∧ c = .int .i64 k ∧ n = .int .i64 (numTo s k) ∧ (∀ j < k, digB (bt s j)) ∧ wr = w) (fun _ c _ => s.size - (intOf c).toNat)
      all_goals try (case atStart => exact ⟨0, by omega, rfl, rfl, fun j hj => by omega, rfl⟩)
      all_goals
        obtain ⟨k, hk, rfl, rfl, hd, rfl⟩ := hrel
        have hn := numTo_le s k hd
        by_cases hlt : k < s.size
        · have hlt2 : (k : Int) < (s.size : Int) := by omega
          have hk0 : 0 ≤ (k : Int) := by omega
          have c0 := hb0 k
          have c1 := hb1 k
          have hz : Hid (numTo s (k + 1) = min (numTo s k * 10 + (bt s k - 48)) 65536) := Lib.hid rfl
          have HN2 := Lib.hid (HNo.out k hlt)
          have HD : Hid (digB (bt s k) → ∀ j < k + 1, digB (bt s j)) := Lib.hid (fun h j hj => by
            by_cases e : j = k
            · subst e; exact h
            · exact hd j (by omega))
          clear hd
          by_cases d1 : bt s k < 48
          · have HR := Lib.hid (HN2.out (fun h => by unfold digB at h; omega))
            clear hz HN2 HNo HYes HD
            go_wp2
            go_ret
            exact ⟨by rw [HR.out]; rfl, rfl⟩
          · by_cases d2 : 57 < bt s k
            · have HR := Lib.hid (HN2.out (fun h => by unfold digB at h; omega))
              clear hz HN2 HNo HYes HD
              go_wp2
              go_ret
              exact ⟨by rw [HR.out]; rfl, rfl⟩
            · have HD2 := Lib.hid (HD.out (by unfold digB; omega))
              clear HN2 HNo HYes HD
              go_wp2_with fail
              refine ⟨⟨k + 1, by omega, by go_num, by rw [hz.out], HD2.out, trivial⟩, ?_⟩
              simp [intOf]
              omega
        · obtain rfl : k = s.size := by omega
          have HY := Lib.hid (HYes.out hd)
          clear hd HYes HNo
          go_wp2
          go_ret
          exact ⟨by rw [HY.out]; rfl, rfl⟩

/-- A byte that a label may have at k. -/
def labC (k : Nat) (v : Int) : Prop := (97 ≤ v ∧ v ≤ 122) ∨ (k ≠ 0 ∧ digB v)
instance (k : Nat) (v : Int) : Decidable (labC k v) := by unfold labC; infer_instance

/-- Whether a text is a label. -/
def labB (s : ByteArray) : Bool := decide ((1 ≤ s.size ∧ s.size ≤ 8) ∧ ∀ k < s.size, labC k (bt s k))

theorem ref07_label (s : ByteArray) (w : World) (hs : s.size ≤ 1000000) :
    Calls Tryz.prog 65 #[.string s] w fun e w' => e = .returned (.bool (labB s)) ∧ w' = w := by
  have hb := get_bt s
  have hb0 := bt_nonneg s
  have hb1 := bt_le s
  have HNo : Hid (∀ k < s.size, ¬ labC k (bt s k) → labB s = false) := Lib.hid (fun k h hd => decide_eq_false (fun hh => hd (hh.2 k h)))
  have HYes : Hid ((1 ≤ s.size ∧ s.size ≤ 8) → (∀ k < s.size, labC k (bt s k)) → labB s = true) := Lib.hid (fun h1 h => decide_eq_true ⟨h1, h⟩)
  have HLen : Hid (¬ (1 ≤ s.size ∧ s.size ≤ 8) → labB s = false) := Lib.hid (fun h1 => decide_eq_false (fun hh => h1 hh.1))
  generalize labB s = res at *
  go_enter Tryz.func65, Tryz.ntmps65
  go_wp2_with fail
  go_loopw [6] (fun c wr => ∃ k : Nat, k ≤ s.size ∧ c = .int .i64 k ∧ (∀ j < k, labC j (bt s j)) ∧ wr = w) (fun c _ => s.size - (intOf c).toNat)
  case atStart => exact ⟨0, by omega, rfl, fun j hj => by omega, rfl⟩
  obtain ⟨k, hk, rfl, hd, rfl⟩ := hrel
  by_cases hlt : k < s.size
  · have hlt2 : (k : Int) < (s.size : Int) := by omega
    have hk0 : 0 ≤ (k : Int) := by omega
    have c0 := hb0 k
    have c1 := hb1 k
    have HN2 := Lib.hid (HNo.out k hlt)
    have HD : Hid (labC k (bt s k) → ∀ j < k + 1, labC j (bt s j)) := Lib.hid (fun h j hj => by
      by_cases e : j = k
      · subst e; exact h
      · exact hd j (by omega))
    clear hd HLen HYes HNo
    by_cases d1 : bt s k < 97
    · by_cases kz : k = 0
      · subst kz
        have HR := Lib.hid (HN2.out (fun h => by unfold labC digB at h; omega))
        clear HN2 HD
        go_wp2
        go_ret
        exact ⟨by rw [HR.out]; rfl, rfl⟩
      · have kz2 : ((k : Int) == 0) = false := by rw [beq_eq_false_iff_ne]; omega
        by_cases d2 : bt s k < 48
        · have HR := Lib.hid (HN2.out (fun h => by unfold labC digB at h; omega))
          clear HN2 HD
          go_wp2
          go_ret
          exact ⟨by rw [HR.out]; rfl, rfl⟩
        · by_cases d3 : 57 < bt s k
          · have HR := Lib.hid (HN2.out (fun h => by unfold labC digB at h; omega))
            clear HN2 HD
            go_wp2
            go_ret
            exact ⟨by rw [HR.out]; rfl, rfl⟩
          · have HD2 := Lib.hid (HD.out (by unfold labC digB; omega))
            clear HN2 HD
            go_wp2_with fail
            refine ⟨⟨k + 1, by omega, by go_num, HD2.out, trivial⟩, ?_⟩
            simp [intOf]
            omega
    · by_cases d2 : 122 < bt s k
      · have d4 : ¬ bt s k < 48 := by omega
        have d5 : 57 < bt s k := by omega
        have HR := Lib.hid (HN2.out (fun h => by unfold labC digB at h; omega))
        clear HN2 HD
        by_cases kz : k = 0
        · subst kz
          go_wp2
          go_ret
          exact ⟨by rw [HR.out]; rfl, rfl⟩
        · have kz2 : ((k : Int) == 0) = false := by rw [beq_eq_false_iff_ne]; omega
          go_wp2
          go_ret
          exact ⟨by rw [HR.out]; rfl, rfl⟩
      · have HD2 := Lib.hid (HD.out (by unfold labC digB; omega))
        clear HN2 HD
        go_wp2_with fail
        refine ⟨⟨k + 1, by omega, by go_num, HD2.out, trivial⟩, ?_⟩
        simp [intOf]
        omega
  · obtain rfl : k = s.size := by omega
    have HY := Lib.hid (fun h => HYes.out h hd)
    clear hd HYes HNo hlt
    by_cases h1 : 1 ≤ s.size
    · by_cases h2 : s.size ≤ 8
      · have HR := Lib.hid (HY.out ⟨h1, h2⟩)
        have i1 : 1 ≤ (s.size : Int) := by omega
        have i2 : (s.size : Int) ≤ 8 := by omega
        clear HY HLen h1 h2
        go_wp2
        go_ret
        exact ⟨by rw [HR.out]; rfl, rfl⟩
      · have HR := Lib.hid (HLen.out (fun h => h2 h.2))
        have i1 : 1 ≤ (s.size : Int) := by omega
        have i2 : ¬ (s.size : Int) ≤ 8 := by omega
        clear HY HLen h1 h2
        go_wp2
        go_ret
        exact ⟨by rw [HR.out]; rfl, rfl⟩
    · have HR := Lib.hid (HLen.out (fun h => h1 h.1))
      have i1 : ¬ 1 ≤ (s.size : Int) := by omega
      clear HY HLen h1
      go_wp2
      go_ret
      exact ⟨by rw [HR.out]; rfl, rfl⟩
end Go.Proofs.YtejbmidgnagcdaaGreatDoor
