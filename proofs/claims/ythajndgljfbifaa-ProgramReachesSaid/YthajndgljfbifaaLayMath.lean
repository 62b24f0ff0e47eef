/-
  Layouts: when one is valid, and the bases of a seed, as lists of numbers.
-/
import Derived.Test.YthajndgljfbifaaRegMath
namespace Go.Proofs.Ythajndgljfbifaa

/-- Region i lies within the addresses. -/
def InR (bs : List Int) (s : List Nat) (i : Nat) : Prop := 0 ≤ bs.getD i 0 ∧ bs.getD i 0 ≤ 512 - ((s.getD i 0 : Nat) : Int)

/-- An address lies between regions i and j. -/
def Ap (bs : List Int) (s : List Nat) (i j : Nat) : Prop :=
  bs.getD i 0 + ((s.getD i 0 : Nat) : Int) < bs.getD j 0 ∨ bs.getD j 0 + ((s.getD j 0 : Nat) : Int) < bs.getD i 0

/-- The bases bs are a valid layout for the sizes s (which are valid). -/
def LV (bs : List Int) (s : List Nat) : Prop :=
  bs.length = s.length ∧ (∀ i, i < bs.length → InR bs s i) ∧ ∀ i, i < bs.length → ∀ j, j < i → Ap bs s i j

instance (bs : List Int) (s : List Nat) (i : Nat) : Decidable (InR bs s i) := by unfold InR; infer_instance
instance (bs : List Int) (s : List Nat) (i j : Nat) : Decidable (Ap bs s i j) := by unfold Ap; infer_instance
instance (bs : List Int) (s : List Nat) : Decidable (LV bs s) := by unfold LV; infer_instance

/-- What Valid answers, for any ints. -/
def layB (bs xs : List Int) : Bool := validB xs && decide (LV bs (xs.map Int.toNat))

theorem toNat_map (s : List Nat) : (s.map fun x : Nat => (x : Int)).map Int.toNat = s := by
  rw [List.map_map]
  conv => rhs; rw [← List.map_id s]
  apply List.map_congr_left
  intro x _
  simp

theorem layB_nat (bs : List Int) {s : List Nat} (h : Sz s) : layB bs (s.map fun x : Nat => (x : Int)) = decide (LV bs s) := by
  unfold layB
  rw [(validB_nat s).2 h, toNat_map, Bool.true_and]

theorem layB_bad (bs : List Int) {xs : List Int} (h : validB xs = false) : layB bs xs = false := by unfold layB; rw [h, Bool.false_and]

theorem getD_at {α : Type} (l : List α) (d : α) {i : Nat} (h : i < l.length) : l.getD i d = l[i] := by
  rw [List.getD_eq_getElem?_getD, List.getElem?_eq_getElem h]; rfl

theorem not_len {bs : List Int} {s : List Nat} (h : bs.length ≠ s.length) : ¬ LV bs s := fun v => h v.1
theorem not_in {bs : List Int} {s : List Nat} {i : Nat} (hi : i < bs.length) (h : ¬ InR bs s i) : ¬ LV bs s := fun v => h (v.2.1 i hi)
theorem not_ap {bs : List Int} {s : List Nat} {i j : Nat} (hi : i < bs.length) (hj : j < i) (h : ¬ Ap bs s i j) : ¬ LV bs s := fun v => h (v.2.2 i hi j hj)

theorem inr_at {bs : List Int} {s : List Nat} {i : Nat} (hi : i < bs.length) (hs : i < s.length) : InR bs s i ↔ 0 ≤ bs[i] ∧ bs[i] ≤ 512 - ((s[i] : Nat) : Int) := by
  unfold InR; rw [getD_at bs 0 hi, getD_at s 0 hs]

theorem ap_at {bs : List Int} {s : List Nat} {i j : Nat} (hi : i < bs.length) (hsi : i < s.length) (hj : j < bs.length) (hsj : j < s.length) :
    Ap bs s i j ↔ bs[i] + ((s[i] : Nat) : Int) < bs[j] ∨ bs[j] + ((s[j] : Nat) : Int) < bs[i] := by
  unfold Ap; rw [getD_at bs 0 hi, getD_at s 0 hsi, getD_at bs 0 hj, getD_at s 0 hsj]

theorem all_succ {P : Nat → Prop} {k : Nat} (h : ∀ i, i < k → P i) (hk : P k) : ∀ i, i < k + 1 → P i := by
  intro i hi
  by_cases e : i = k
  · subst e; exact hk
  · exact h i (by omega)

/-- The free addresses behind a region. -/
def gapOf (n seed : Nat) : Nat := 1 + seed / (50 * n) % 40

/-- Which region is the k-th one. -/
def kth (n seed k : Nat) : Nat := (k + seed) % n

/-- Where the k-th region begins. -/
def startOf (s : List Nat) (seed : Nat) : Nat → Nat
  | 0 => 1 + seed / s.length % 50
  | k + 1 => startOf s seed k + (s.getD (kth s.length seed k) 0 + gapOf s.length seed)

/-- The bases after the first k have been laid. -/
def fillTo (s : List Nat) (seed : Nat) : Nat → List Nat
  | 0 => List.replicate s.length 0
  | k + 1 => (fillTo s seed k).set (kth s.length seed k) (startOf s seed k)

/-- The bases of a seed. -/
def mkB (s : List Nat) (seed : Nat) : List Nat := fillTo s seed s.length

/-- The key of a seed. -/
def keyOf (seed : Nat) : Nat := 40503 * seed % 65536

theorem length_fillTo (s : List Nat) (seed : Nat) : ∀ k, (fillTo s seed k).length = s.length
  | 0 => by simp [fillTo]
  | k + 1 => by simp [fillTo, length_fillTo s seed k]

theorem length_mkB (s : List Nat) (seed : Nat) : (mkB s seed).length = s.length := length_fillTo s seed _

theorem getD_le {s : List Nat} (h : Sz s) (i : Nat) : s.getD i 0 ≤ 32 := by
  by_cases hi : i < s.length
  · rw [getD_at s 0 hi]; exact (h.2.2 _ (List.getElem_mem hi)).2
  · rw [List.getD_eq_getElem?_getD, List.getElem?_eq_none (by omega)]; simp

theorem gap_le (n seed : Nat) : 1 ≤ gapOf n seed ∧ gapOf n seed ≤ 40 := by unfold gapOf; omega

theorem start_le {s : List Nat} (h : Sz s) (seed : Nat) : ∀ k, startOf s seed k ≤ 50 + 72 * k
  | 0 => by unfold startOf; have := Nat.mod_lt (seed / s.length) (show 50 > 0 by omega); omega
  | k + 1 => by
    have h1 := start_le h seed k
    have h2 := getD_le h (kth s.length seed k)
    have h3 := gap_le s.length seed
    unfold startOf; omega

theorem kth_lt {n : Nat} (h : 1 ≤ n) (seed k : Nat) : kth n seed k < n := Nat.mod_lt _ h

theorem kth_inj {n seed i j : Nat} (hi : i < n) (hj : j < n) (h : kth n seed i = kth n seed j) : i = j := by
  unfold kth at h
  by_cases hij : i ≤ j
  · have h1 : (j + seed - (i + seed)) % n = 0 := Nat.sub_mod_eq_zero_of_mod_eq h.symm
    rw [show j + seed - (i + seed) = j - i by omega, Nat.mod_eq_of_lt (by omega)] at h1
    omega
  · have h1 : (i + seed - (j + seed)) % n = 0 := Nat.sub_mod_eq_zero_of_mod_eq h
    rw [show i + seed - (j + seed) = i - j by omega, Nat.mod_eq_of_lt (by omega)] at h1
    omega

theorem kth_onto {n seed i : Nat} (hi : i < n) : ∃ k, k < n ∧ kth n seed k = i := by
  have h0 := Nat.mod_lt seed (show n > 0 by omega)
  by_cases h : seed % n ≤ i
  · refine ⟨i - seed % n, by omega, ?_⟩
    unfold kth
    rw [Nat.add_mod, Nat.mod_eq_of_lt (show i - seed % n < n by omega), Nat.sub_add_cancel h, Nat.mod_eq_of_lt hi]
  · refine ⟨i + n - seed % n, by omega, ?_⟩
    unfold kth
    rw [Nat.add_mod, Nat.mod_eq_of_lt (show i + n - seed % n < n by omega), show i + n - seed % n + seed % n = i + n by omega, Nat.add_mod_right, Nat.mod_eq_of_lt hi]

/-- What has been laid stays. -/
theorem fill_at {s : List Nat} (h : 1 ≤ s.length) (seed : Nat) : ∀ k, k ≤ s.length → ∀ j, j < k → (fillTo s seed k).getD (kth s.length seed j) 0 = startOf s seed j
  | 0, _, j, hj => by omega
  | k + 1, hk, j, hj => by
    have e0 : fillTo s seed (k + 1) = (fillTo s seed k).set (kth s.length seed k) (startOf s seed k) := rfl
    rw [e0, getD_at _ 0 (by rw [List.length_set, length_fillTo]; exact kth_lt h _ _), List.getElem_set]
    by_cases e : j = k
    · subst e; simp
    · rw [if_neg (fun h2 => e (kth_inj (by omega) (by omega) h2.symm))]
      have := fill_at h seed k (by omega) j (by omega)
      rwa [getD_at _ 0 (by rw [length_fillTo]; exact kth_lt h _ _)] at this

theorem mkB_at {s : List Nat} (h : Sz s) (seed : Nat) {k : Nat} (hk : k < s.length) : (mkB s seed).getD (kth s.length seed k) 0 = startOf s seed k :=
  fill_at h.1 seed s.length (Nat.le_refl _) k hk

theorem start_order (s : List Nat) (seed j : Nat) : ∀ k, j < k → startOf s seed j + (s.getD (kth s.length seed j) 0 + gapOf s.length seed) ≤ startOf s seed k
  | 0, h => by omega
  | k + 1, h => by
    by_cases e : j = k
    · subst e; exact Nat.le_refl _
    · have := start_order s seed j k (by omega)
      have e2 : startOf s seed (k + 1) = startOf s seed k + (s.getD (kth s.length seed k) 0 + gapOf s.length seed) := rfl
      omega

theorem getD_ints (l : List Nat) (i : Nat) : (l.map fun x : Nat => (x : Int)).getD i 0 = ((l.getD i 0 : Nat) : Int) := by
  rw [List.getD_eq_getElem?_getD, List.getD_eq_getElem?_getD, List.getElem?_map]
  cases l[i]? <;> rfl

theorem mkB_valid {s : List Nat} (h : Sz s) (seed : Nat) : LV ((mkB s seed).map fun x : Nat => (x : Int)) s := by
  have hn := h.1
  have h4 := h.2.1
  refine ⟨by rw [List.length_map, length_mkB], fun i hi => ?_, fun i hi j hj => ?_⟩
  · rw [List.length_map, length_mkB] at hi
    obtain ⟨k, hk, rfl⟩ := kth_onto (seed := seed) hi
    unfold InR
    rw [getD_ints, mkB_at h seed hk]
    have h1 := start_le h seed k
    have h2 := getD_le h (kth s.length seed k)
    omega
  · rw [List.length_map, length_mkB] at hi
    obtain ⟨k, hk, rfl⟩ := kth_onto (seed := seed) hi
    obtain ⟨m, hm, rfl⟩ := kth_onto (seed := seed) (show j < s.length by omega)
    unfold Ap
    rw [getD_ints, getD_ints, mkB_at h seed hk, mkB_at h seed hm]
    have hg := gap_le s.length seed
    by_cases e : k < m
    · left
      have := start_order s seed k m e
      omega
    · right
      have : m ≠ k := fun e2 => by subst e2; omega
      have := start_order s seed m k (by omega)
      omega

end Go.Proofs.Ythajndgljfbifaa
