/-
  Layouts: what lies at an address.
-/
import Derived.Test.YthajndgljfbifaaLayMath
import Derived.Test.YthajndgljfbifaaReg2
namespace Go.Proofs.Ythajndgljfbifaa

/-- The place at an address: the first region that holds it, where regions are counted from r on. -/
def resF : Nat → List Int → List Nat → Int → Option (Nat × Nat)
  | r, b :: bt, n :: t, a => if b ≤ a ∧ a < b + (n : Int) then some (r, (a - b).toNat) else resF (r + 1) bt t a
  | _, _, _, _ => none

/-- The place at an address. -/
def resO (bs : List Int) (s : List Nat) (a : Int) : Option (Nat × Nat) := resF 0 bs s a

/-- What Resolve answers. -/
def resR (bs : List Int) (s : List Nat) (a : Int) : Int := match resO bs s a with | some p => (p.1 : Int) | none => 0
def resOf (bs : List Int) (s : List Nat) (a : Int) : Int := match resO bs s a with | some p => (p.2 : Int) | none => 0
def resB (bs : List Int) (s : List Nat) (a : Int) : Bool := match resO bs s a with | some _ => true | none => false

theorem res_some {bs : List Int} {s : List Nat} {a : Int} {r o : Nat} (h : resO bs s a = some (r, o)) : resR bs s a = (r : Int) ∧ resOf bs s a = (o : Int) ∧ resB bs s a = true := by
  unfold resR resOf resB; rw [h]; exact ⟨rfl, rfl, rfl⟩

theorem res_none {bs : List Int} {s : List Nat} {a : Int} (h : resO bs s a = none) : resR bs s a = 0 ∧ resOf bs s a = 0 ∧ resB bs s a = false := by
  unfold resR resOf resB; rw [h]; exact ⟨rfl, rfl, rfl⟩

theorem idrop_cons (l : List Int) (k : Nat) (h : k < l.length) : l.drop k = l[k] :: l.drop (k + 1) := List.drop_eq_getElem_cons h

theorem resF_here (bs : List Int) (s : List Nat) (k : Nat) (a : Int) (h : k < bs.length) (h2 : k < s.length) (h3 : bs[k] ≤ a ∧ a < bs[k] + ((s[k] : Nat) : Int)) :
    resF k (bs.drop k) (s.drop k) a = some (k, (a - bs[k]).toNat) := by
  rw [idrop_cons bs k h, drop_cons s k h2]; unfold resF; rw [if_pos h3]

theorem resF_next (bs : List Int) (s : List Nat) (k : Nat) (a : Int) (h : k < bs.length) (h2 : k < s.length) (h3 : ¬ (bs[k] ≤ a ∧ a < bs[k] + ((s[k] : Nat) : Int))) :
    resF k (bs.drop k) (s.drop k) a = resF (k + 1) (bs.drop (k + 1)) (s.drop (k + 1)) a := by
  rw [idrop_cons bs k h, drop_cons s k h2]; conv => lhs; unfold resF
  rw [if_neg h3]

theorem resF_end (bs : List Int) (s : List Nat) (k : Nat) (a : Int) (h : bs.length ≤ k) : resF k (bs.drop k) (s.drop k) a = none := by
  rw [List.drop_eq_nil_of_le h]; unfold resF; rfl

/-- Region i holds address a. -/
def Holds (bs : List Int) (s : List Nat) (i : Nat) (a : Int) : Prop := i < bs.length ∧ bs.getD i 0 ≤ a ∧ a < bs.getD i 0 + ((s.getD i 0 : Nat) : Int)

theorem resF_holds {bs : List Int} {s : List Nat} (hl : bs.length = s.length) (a : Int) : ∀ (m k : Nat) (r o : Nat), k + m = bs.length → resF k (bs.drop k) (s.drop k) a = some (r, o) → Holds bs s r a ∧ bs.getD r 0 + (o : Int) = a
  | 0, k, r, o, hk, h => by rw [resF_end bs s k a (by omega)] at h; cases h
  | m + 1, k, r, o, hk, h => by
    have h1 : k < bs.length := by omega
    have h2 : k < s.length := by omega
    by_cases h3 : bs[k] ≤ a ∧ a < bs[k] + ((s[k] : Nat) : Int)
    · rw [resF_here bs s k a h1 h2 h3] at h
      simp only [Option.some.injEq, Prod.mk.injEq] at h
      obtain ⟨rfl, rfl⟩ := h
      unfold Holds
      rw [getD_at bs 0 h1, getD_at s 0 h2]
      exact ⟨⟨h1, h3.1, h3.2⟩, by omega⟩
    · rw [resF_next bs s k a h1 h2 h3] at h
      exact resF_holds hl a m (k + 1) r o (by omega) h

theorem res_holds {bs : List Int} {s : List Nat} (hl : bs.length = s.length) {a : Int} {r o : Nat} (h : resO bs s a = some (r, o)) : Holds bs s r a ∧ bs.getD r 0 + (o : Int) = a :=
  resF_holds hl a bs.length 0 r o (by omega) h

theorem resF_none {bs : List Int} {s : List Nat} (hl : bs.length = s.length) (a : Int) : ∀ (m k : Nat), k + m = bs.length → resF k (bs.drop k) (s.drop k) a = none → ∀ i, k ≤ i → ¬ Holds bs s i a
  | 0, k, hk, _ => fun i hi h => by have := h.1; omega
  | m + 1, k, hk, h => by
    have h1 : k < bs.length := by omega
    have h2 : k < s.length := by omega
    by_cases h3 : bs[k] ≤ a ∧ a < bs[k] + ((s[k] : Nat) : Int)
    · rw [resF_here bs s k a h1 h2 h3] at h; cases h
    · rw [resF_next bs s k a h1 h2 h3] at h
      intro i hi hh
      by_cases e : i = k
      · subst e
        unfold Holds at hh
        rw [getD_at bs 0 h1, getD_at s 0 h2] at hh
        exact h3 hh.2
      · exact resF_none hl a m (k + 1) (by omega) h i (by omega) hh

theorem res_no {bs : List Int} {s : List Nat} (hl : bs.length = s.length) {a : Int} (h : resO bs s a = none) (i : Nat) : ¬ Holds bs s i a :=
  resF_none hl a bs.length 0 (by omega) h i (by omega)

theorem holds_uniq {bs : List Int} {s : List Nat} (h : LV bs s) {a : Int} {i j : Nat} (hi : Holds bs s i a) (hj : Holds bs s j a) : i = j := by
  have h1 := h.2.2
  by_cases e : i = j
  · exact e
  · exfalso
    unfold Holds at hi hj
    by_cases l : j < i
    · have := h1 i hi.1 j l
      unfold Ap at this; omega
    · have := h1 j hj.1 i (by omega)
      unfold Ap at this; omega

theorem holds_next {bs : List Int} {s : List Nat} (h : LV bs s) {a : Int} {i j : Nat} (hi : Holds bs s i a) (hj : Holds bs s j (a + 1)) : i = j := by
  have h1 := h.2.2
  by_cases e : i = j
  · exact e
  · exfalso
    unfold Holds at hi hj
    by_cases l : j < i
    · have := h1 i hi.1 j l
      unfold Ap at this; omega
    · have := h1 j hj.1 i (by omega)
      unfold Ap at this; omega

theorem holds_range {bs : List Int} {s : List Nat} (h : LV bs s) {a : Int} {i : Nat} (hi : Holds bs s i a) : 0 ≤ a ∧ a < 512 := by
  have h1 := h.2.1 i hi.1
  unfold Holds at hi
  unfold InR at h1
  omega

theorem res_at {bs : List Int} {s : List Nat} (h : LV bs s) {a : Int} {i : Nat} (hi : Holds bs s i a) : resO bs s a = some (i, (a - bs.getD i 0).toNat) := by
  cases hr : resO bs s a with
  | none => exact absurd hi (res_no h.1 hr i)
  | some p =>
    obtain ⟨r, o⟩ := p
    obtain ⟨h1, h2⟩ := res_holds h.1 hr
    have := holds_uniq h hi h1
    subst this
    rw [← h2, show bs.getD i 0 + (o : Int) - bs.getD i 0 = (o : Int) by omega, Int.toNat_natCast]

theorem res_out {bs : List Int} {s : List Nat} (h : LV bs s) {a : Int} (ha : a < 0 ∨ 512 ≤ a) : resO bs s a = none := by
  cases hr : resO bs s a with
  | none => rfl
  | some p =>
    have := holds_range h (res_holds h.1 (r := p.1) (o := p.2) hr).1
    omega

/-- How many of the first m addresses belong to a region. -/
def cntTo (bs : List Int) (s : List Nat) : Nat → Nat
  | 0 => 0
  | m + 1 => cntTo bs s m + (if resB bs s (m : Int) then 1 else 0)

/-- Address a belongs to a region. -/
def hit : List Int → List Nat → Int → Bool
  | b :: bt, n :: t, a => decide (b ≤ a ∧ a < b + (n : Int)) || hit bt t a
  | _, _, _ => false

theorem hit_res : ∀ (bs : List Int) (s : List Nat) (r : Nat) (a : Int), (resF r bs s a).isSome = hit bs s a
  | [], _, _, _ => by unfold resF hit; rfl
  | _ :: _, [], _, _ => by unfold resF hit; rfl
  | b :: bt, n :: t, r, a => by
    unfold resF hit
    by_cases h : b ≤ a ∧ a < b + (n : Int)
    · rw [if_pos h, decide_eq_true h, Bool.true_or]; rfl
    · rw [if_neg h, decide_eq_false h, Bool.false_or]; exact hit_res bt t (r + 1) a

theorem hit_resB (bs : List Int) (s : List Nat) (a : Int) : resB bs s a = hit bs s a := by
  rw [← hit_res bs s 0 a]
  unfold resB resO
  cases resF 0 bs s a <;> rfl

/-- The regions lie apart, one after the other said. -/
def Dis : List Int → List Nat → Prop
  | b :: bt, n :: t => 0 ≤ b ∧ b + (n : Int) ≤ 512 ∧ (∀ a, b ≤ a → a < b + (n : Int) → hit bt t a = false) ∧ Dis bt t
  | [], [] => True
  | _, _ => False

/-- The same count by lists. -/
def cnt (bs : List Int) (s : List Nat) : Nat → Nat
  | 0 => 0
  | m + 1 => cnt bs s m + (if hit bs s (m : Int) then 1 else 0)

theorem cntTo_cnt (bs : List Int) (s : List Nat) : ∀ m, cntTo bs s m = cnt bs s m
  | 0 => rfl
  | m + 1 => by unfold cntTo cnt; rw [cntTo_cnt bs s m, hit_resB]

theorem cnt_nil (m : Nat) : cnt [] [] m = 0 := by
  induction m with
  | zero => rfl
  | succ m ih => unfold cnt; rw [ih]; unfold hit; rfl

theorem cnt_cons (b n : Nat) (bt : List Int) (t : List Nat) (h : ∀ a, (b : Int) ≤ a → a < (b : Int) + (n : Int) → hit bt t a = false) : ∀ m, cnt ((b : Int) :: bt) (n :: t) m = (min m (b + n) - min m b) + cnt bt t m
  | 0 => by simp [cnt]
  | m + 1 => by
    have ih := cnt_cons b n bt t h m
    have hh : hit ((b : Int) :: bt) (n :: t) (m : Int) = (decide ((b : Int) ≤ (m : Int) ∧ (m : Int) < (b : Int) + (n : Int)) || hit bt t (m : Int)) := rfl
    unfold cnt
    rw [ih, hh]
    by_cases h1 : (b : Int) ≤ (m : Int) ∧ (m : Int) < (b : Int) + (n : Int)
    · rw [decide_eq_true h1, Bool.true_or, h (m : Int) h1.1 h1.2, if_pos rfl, if_neg (by simp)]; omega
    · rw [decide_eq_false h1, Bool.false_or]; omega

theorem cnt_all : ∀ (bs : List Int) (s : List Nat), Dis bs s → cnt bs s 512 = s.sum
  | [], [], _ => by rw [cnt_nil]; rfl
  | [], _ :: _, h => by unfold Dis at h; exact absurd h id
  | _ :: _, [], h => by unfold Dis at h; exact absurd h id
  | b :: bt, n :: t, h => by
    unfold Dis at h
    obtain ⟨h1, h2, h3, h4⟩ := h
    obtain ⟨c, rfl⟩ : ∃ c : Nat, b = (c : Int) := ⟨b.toNat, by omega⟩
    rw [cnt_cons c n bt t h3, cnt_all bt t h4, List.sum_cons]
    omega

theorem hit_holds {bs : List Int} {s : List Nat} (hl : bs.length = s.length) {a : Int} : ∀ (m k : Nat), k + m = bs.length → hit (bs.drop k) (s.drop k) a = true → ∃ j, k ≤ j ∧ Holds bs s j a
  | 0, k, hk, h => by rw [List.drop_eq_nil_of_le (by omega)] at h; unfold hit at h; cases h
  | m + 1, k, hk, h => by
    have h1 : k < bs.length := by omega
    have h2 : k < s.length := by omega
    rw [idrop_cons bs k h1, drop_cons s k h2] at h
    unfold hit at h
    by_cases h3 : bs[k] ≤ a ∧ a < bs[k] + ((s[k] : Nat) : Int)
    · refine ⟨k, Nat.le_refl _, h1, ?_⟩
      rw [getD_at bs 0 h1, getD_at s 0 h2]
      exact h3
    · rw [decide_eq_false h3, Bool.false_or] at h
      obtain ⟨j, hj, hh⟩ := hit_holds hl m (k + 1) (by omega) h
      exact ⟨j, by omega, hh⟩

theorem dis_of {bs : List Int} {s : List Nat} (h : LV bs s) : ∀ (m k : Nat), k + m = bs.length → Dis (bs.drop k) (s.drop k)
  | 0, k, hk => by rw [List.drop_eq_nil_of_le (by omega), List.drop_eq_nil_of_le (by have := h.1; omega)]; unfold Dis; trivial
  | m + 1, k, hk => by
    have hl := h.1
    have h1 : k < bs.length := by omega
    have h2 : k < s.length := by omega
    rw [idrop_cons bs k h1, drop_cons s k h2]
    unfold Dis
    have hr := (inr_at h1 h2).1 (h.2.1 k h1)
    refine ⟨hr.1, by omega, fun a ha1 ha2 => ?_, dis_of h m (k + 1) (by omega)⟩
    cases hh : hit (bs.drop (k + 1)) (s.drop (k + 1)) a with
    | false => rfl
    | true =>
      obtain ⟨j, hj, hd⟩ := hit_holds hl m (k + 1) (by omega) hh
      have hk2 : Holds bs s k a := by
        unfold Holds; rw [getD_at bs 0 h1, getD_at s 0 h2]; exact ⟨h1, ha1, ha2⟩
      have := holds_uniq h hk2 hd
      omega

theorem cntTo_all {bs : List Int} {s : List Nat} (h : LV bs s) : cntTo bs s 512 = s.sum := by
  rw [cntTo_cnt]
  have := dis_of h bs.length 0 (by omega)
  rw [List.drop_zero, List.drop_zero] at this
  exact cnt_all bs s this

theorem cntTo_succ (bs : List Int) (s : List Nat) (m : Nat) : cntTo bs s (m + 1) = cntTo bs s m + (if resB bs s (m : Int) then 1 else 0) := rfl

theorem cntTo_stay {bs : List Int} {s : List Nat} (h : LV bs s) (m : Nat) (hm : 512 ≤ m) : cntTo bs s (m + 1) = cntTo bs s m := by
  rw [cntTo_succ, (res_none (res_out h (.inr (by omega)))).2.2]; rfl

theorem cntTo_out {bs : List Int} {s : List Nat} (h : LV bs s) : cntTo bs s (514 - 1) = cntTo bs s 512 := cntTo_stay h 512 (Nat.le_refl _)

theorem cntTo_le (bs : List Int) (s : List Nat) : ∀ m, cntTo bs s m ≤ m
  | 0 => Nat.le_refl _
  | m + 1 => by have := cntTo_le bs s m; unfold cntTo; split <;> omega

/-- What Address answers. -/
def adr (bs : List Int) (s : List Nat) (r o : Int) : Int := if insB s r o then bs.getD r.toNat 0 + o else 0
def adrE (s : List Nat) (r o : Int) : Int := if insB s r o then 0 else 6

theorem adr_in {bs : List Int} {s : List Nat} {r o : Int} (h : insB s r o = true) : adr bs s r o = bs.getD r.toNat 0 + o ∧ adrE s r o = 0 := by
  unfold adr adrE; rw [h]; exact ⟨rfl, rfl⟩
theorem adr_out {bs : List Int} {s : List Nat} {r o : Int} (h : insB s r o = false) : adr bs s r o = 0 ∧ adrE s r o = 6 := by
  unfold adr adrE; rw [h]; exact ⟨rfl, rfl⟩

theorem ins_at {s : List Nat} {k : Nat} (h : k < s.length) (o : Int) : insB s (k : Int) o = decide (0 ≤ o ∧ o < ((s[k] : Nat) : Int)) := by
  unfold insB
  rw [Int.toNat_natCast, getD_at s 0 h]
  by_cases h1 : 0 ≤ o ∧ o < ((s[k] : Nat) : Int)
  · rw [decide_eq_true h1]; exact decide_eq_true ⟨by omega, by omega, h1.1, h1.2⟩
  · rw [decide_eq_false h1]; exact decide_eq_false (fun h => h1 ⟨h.2.2.1, h.2.2.2⟩)

theorem ins_holds {bs : List Int} {s : List Nat} (hl : bs.length = s.length) {k j : Nat} (hk : k < s.length) (hj : j < s[k]) : Holds bs s k (bs.getD k 0 + (j : Int)) := by
  unfold Holds; rw [getD_at s 0 hk]; exact ⟨by omega, by omega, by omega⟩

theorem holds_ins {bs : List Int} {s : List Nat} (hl : bs.length = s.length) {k j : Nat} (h : Holds bs s k (bs.getD k 0 + (j : Int))) : insB s (k : Int) (j : Int) = true := by
  unfold Holds at h
  have hk : k < s.length := by have := h.1; omega
  rw [getD_at s 0 hk] at h
  exact ins_in s k j hk (by omega)

end Go.Proofs.Ythajndgljfbifaa
