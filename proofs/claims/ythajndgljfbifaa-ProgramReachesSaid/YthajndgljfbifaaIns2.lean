/-
  Which instructions are valid: the document's Valid and Branch.
-/
import Derived.Test.YthajndgljfbifaaIns
import Derived.Test.YthajndgljfbifaaDeckIns
namespace Go.Proofs.Ythajndgljfbifaa
open Go.RowKit
set_option maxRecDepth 100000

/-- A field is a register, and 0 if it is not used. -/
def okF (u : Bool) (v : Int) : Bool := decide (0 ≤ v ∧ v < 8) && (u || decide (v = 0))

def fld (x : Ins) : Nat → Int
  | 0 => x.a
  | 1 => x.b
  | _ => x.c

def usF (op : Int) : Nat → Bool
  | 0 => usA op
  | 1 => usB op
  | 2 => usC op
  | _ => usI op

def opB (x : Ins) : Bool := decide (0 ≤ x.op ∧ x.op ≤ 24)
def immB (x : Ins) : Bool := decide (0 ≤ x.imm ∧ x.imm ≤ 65535) && (usI x.op || decide (x.imm = 0))
def tailB (x : Ins) : Bool := if jumpB x.op = true then decide (x.imm < 64) else if x.op = 15 then decide (x.imm < 4) else if x.op = 23 then decide (x.imm ≤ 15) else true

/-- Whether an instruction is valid. -/
def vinB (x : Ins) : Bool := opB x && ((okF (usF x.op 0) (fld x 0) && (okF (usF x.op 1) (fld x 1) && okF (usF x.op 2) (fld x 2))) && (immB x && tailB x))

theorem okF_iff (u : Bool) (v : Int) : okF u v = true ↔ (0 ≤ v ∧ v < 8) ∧ (u = false → v = 0) := by
  unfold okF
  cases u <;> simp

theorem vinB_iff (x : Ins) : vinB x = true ↔ InsIn 4 64 x := by
  unfold vinB InsIn opB immB tailB
  simp only [Bool.and_eq_true, okF_iff, decide_eq_true_eq, Bool.or_eq_true]
  have ht : (if jumpB x.op = true then decide (x.imm < 64) else if x.op = 15 then decide (x.imm < 4) else if x.op = 23 then decide (x.imm ≤ 15) else true) = true ↔ ((jumpB x.op = true → x.imm < 64) ∧ (x.op = 15 → x.imm < 4) ∧ (x.op = 23 → x.imm ≤ 15)) := by
    have hj : jumpB x.op = true ↔ (x.op = 18 ∨ x.op = 19 ∨ x.op = 20 ∨ x.op = 21) := by unfold jumpB; exact decide_eq_true_iff
    simp only [hj]
    split
    · rename_i h; simp; omega
    · split
      · rename_i h h2; simp; omega
      · split
        · rename_i h h2 h3; simp; omega
        · rename_i h h2 h3; simp; omega
  rw [ht]
  have hu : (usI x.op = true ∨ x.imm = 0) ↔ (usI x.op = false → x.imm = 0) := by cases usI x.op <;> simp
  rw [hu]
  simp only [fld, usF]
  constructor
  · rintro ⟨⟨a1, a2⟩, ⟨⟨⟨b1, b2⟩, b3⟩, ⟨⟨c1, c2⟩, c3⟩, ⟨⟨d1, d2⟩, d3⟩⟩, ⟨⟨e1, e2⟩, e3⟩, f1, f2, f3⟩
    exact ⟨a1, a2, b1, b2, c1, c2, d1, d2, e1, e2, b3, c3, d3, e3, f1, f2, f3⟩
  · rintro ⟨a1, a2, b1, b2, c1, c2, d1, d2, e1, e2, b3, c3, d3, e3, f1, f2, f3⟩
    exact ⟨⟨a1, a2⟩, ⟨⟨⟨b1, b2⟩, b3⟩, ⟨⟨c1, c2⟩, c3⟩, ⟨⟨d1, d2⟩, d3⟩⟩, ⟨⟨e1, e2⟩, e3⟩, f1, f2, f3⟩

set_option maxHeartbeats 1000000 in
theorem ref06_Branch (op : Int) (w : World) :
    Calls Try.prog 109 #[.int .i64 op] w fun e w' => e = .returned (.bool (jumpB op || decide (op = 22 ∨ op = 24))) ∧ w = w' := by
  have HJ := Lib.hid (ref06_Jump op w)
  by_cases hj : jumpB op = true
  · rw [hj] at HJ
    rw [hj]
    go_enter Try.func109, Try.ntmps109
    go_wp2_with (go_at_call 43; (with_reducible refine HJ.out.mono ?_); rintro e w' ⟨rfl, rfl⟩)
    go_ret
    exact ⟨rfl, rfl⟩
  · have hj : jumpB op = false := by simpa using hj
    rw [hj] at HJ
    rw [hj, Bool.false_or]
    have hr : ∃ r, decide (op = 22 ∨ op = 24) = r ∧ (op == 22 || op == 24) = r := ⟨_, rfl, by rw [Bool.eq_iff_iff]; simp⟩
    obtain ⟨r, hr1, hr2⟩ := hr
    rw [hr1]
    by_cases h1 : op = 22
    · subst h1
      have hr2 := Lib.hid hr2
      go_enter Try.func109, Try.ntmps109
      go_wp2_with (go_at_call 43; (with_reducible refine HJ.out.mono ?_); rintro e w' ⟨rfl, rfl⟩)
      go_ret
      exact ⟨ret_bool (by rw [← hr2.out]; rfl), rfl⟩
    · have g1 : (op == 22) = false := by rw [beq_eq_false_iff_ne]; exact h1
      rw [g1, Bool.false_or] at hr2
      have hr2 := Lib.hid hr2
      clear h1 hr1 hj
      go_enter Try.func109, Try.ntmps109
      go_wp2_with (go_at_call 43; (with_reducible refine HJ.out.mono ?_); rintro e w' ⟨rfl, rfl⟩)
      go_ret
      exact ⟨rfl, rfl⟩

theorem vin_false (x : Ins) (k : Nat) (hk : k < 3) (h : okF (usF x.op k) (fld x k) = false) : vinB x = false := by
  unfold vinB
  rcases (by omega : k = 0 ∨ k = 1 ∨ k = 2) with rfl | rfl | rfl <;> rw [h] <;> simp

theorem vin_rest (x : Ins) (ho : 0 ≤ x.op ∧ x.op ≤ 24) (h : ∀ k, k < 3 → okF (usF x.op k) (fld x k) = true) : vinB x = (immB x && tailB x) := by
  unfold vinB opB
  rw [h 0 (by omega), h 1 (by omega), h 2 (by omega), decide_eq_true ho]
  rfl

set_option maxHeartbeats 4000000 in
theorem ref06_Valid (x : Ins) (w : World) :
    Calls Try.prog 49 #[insV x] w fun e w' => e = .returned (.bool (vinB x)) ∧ Below w.heap.size w w' := by
  obtain ⟨op, a, b, c, imm⟩ := x
  have hB := Below.alloc (Below.refl w.heap.size w) (Nat.le_refl _) (.cells #[.int .i64 op, .int .i64 a, .int .i64 b, .int .i64 c, .int .i64 imm] 66)
  have b0 := Blk.new (W := w) #[.int .i64 op, .int .i64 a, .int .i64 b, .int .i64 c, .int .i64 imm] 66
  by_cases h0 : op < 0
  · have hv : Hid (vinB ⟨op, a, b, c, imm⟩ = false) := Lib.hid (by unfold vinB opB; rw [decide_eq_false (by simp only; omega), Bool.false_and])
    unfold insV
    go_enter Try.func49, Try.ntmps49
    go_wp2
    go_ret
    exact ⟨ret_bool hv.out.symm, hB⟩
  by_cases h1 : 24 < op
  · have hv : Hid (vinB ⟨op, a, b, c, imm⟩ = false) := Lib.hid (by unfold vinB opB; rw [decide_eq_false (by simp only; omega), Bool.false_and])
    have h0' : 0 ≤ op := by omega
    unfold insV
    clear h0
    go_enter Try.func49, Try.ntmps49
    go_wp2
    go_ret
    exact ⟨ret_bool hv.out.symm, hB⟩
  have h2 : 0 ≤ op := by omega
  have h3 : op ≤ 24 := by omega
  have HU := Lib.hid (ref06_Uses op (w.alloc (.cells #[.int .i64 op, .int .i64 a, .int .i64 b, .int .i64 c, .int .i64 imm] 66)) h2 h3)
  unfold insV
  go_enter Try.func49, Try.ntmps49
  go_wp2_with fail
  refine HU.out.mono ?_
  rintro e w1 ⟨rfl, hb1⟩
  unfold usV
  have hA1 := Below.alloc (Below.refl w1.heap.size w1) (Nat.le_refl _) (.cells #[.bool (usA op), .bool (usB op), .bool (usC op), .bool (usI op)] 133)
  have bU := Blk.new (W := w1) #[.bool (usA op), .bool (usB op), .bool (usC op), .bool (usI op)] 133
  have hb2 := hb1.trans (hA1.mono hb1.size)
  have b2 := b0.later hb2
  have hB2 := hB.trans (hb2.mono hB.size)
  clear HU b0 hb1 hA1 hb2 hB
  go_upto_region 4 with fail
  generalize w1.alloc (.cells #[.bool (usA op), .bool (usB op), .bool (usC op), .bool (usI op)] 133) = W2 at *
  generalize w1.heap.size = U at *
  have f1 := (b2 1 (by simp)).1
  have f2 := (b2 2 (by simp)).1
  have f3 := (b2 3 (by simp)).1
  go_wp2_with fail
  have bS := Blk.new (W := W2) #[.int .i64 a, .int .i64 b, .int .i64 c] 3
  have hA3 := Below.alloc (Below.refl W2.heap.size W2) (Nat.le_refl _) (.cells #[.int .i64 a, .int .i64 b, .int .i64 c] 3)
  have b3 := b2.later hA3
  have bU := bU.later hA3
  have hB3 := hB2.trans (hA3.mono hB2.size)
  clear f1 f2 f3 hA3 b2 hB2
  generalize W2.alloc (.cells #[.int .i64 a, .int .i64 b, .int .i64 c] 3) = W3 at *
  generalize W2.heap.size = S at *
  have hS0 : ∀ k, k < 3 → W3.cell? ⟨S, k, none⟩ = some (.int .i64 (fld ⟨op, a, b, c, imm⟩ k)) := fun k hk => by
    rcases (by omega : k = 0 ∨ k = 1 ∨ k = 2) with rfl | rfl | rfl
    · exact (bS 0 (by simp)).1
    · exact (bS 1 (by simp)).1
    · exact (bS 2 (by simp)).1
  have hUs0 : ∀ k, k < 3 → W3.cell? ⟨U, k, none⟩ = some (.bool (usF op k)) := fun k hk => by
    rcases (by omega : k = 0 ∨ k = 1 ∨ k = 2) with rfl | rfl | rfl
    · exact (bU 0 (by simp)).1
    · exact (bU 1 (by simp)).1
    · exact (bU 2 (by simp)).1
  have hS := Lib.hid hS0
  have hUs := Lib.hid hUs0
  clear hS0 hUs0
  have HF := Lib.hid (fun (k : Nat) (hk : k < 3) (h : okF (usF op k) (fld ⟨op, a, b, c, imm⟩ k) = false) => vin_false ⟨op, a, b, c, imm⟩ k hk h)
  have HR := Lib.hid (fun (h : ∀ k, k < 3 → okF (usF op k) (fld ⟨op, a, b, c, imm⟩ k) = true) => vin_rest ⟨op, a, b, c, imm⟩ ⟨h2, h3⟩ h)
  go_loopw [25] (fun cv wr => ∃ (k : Nat), k ≤ 3 ∧ cv = .int .i64 (k : Int) ∧ wr = W3 ∧ ∀ i, i < k → okF (usF op i) (fld ⟨op, a, b, c, imm⟩ i) = true) (fun cv _ => 3 - (intOf cv).toNat)
  case atStart => exact ⟨0, by omega, rfl, rfl, fun i hi => by omega⟩
  case round =>
    obtain ⟨k, hk, rfl, hwr, hall0⟩ := hrel
    subst hwr
    have hall := Lib.hid hall0
    clear hall0
    by_cases hk3 : k < 3
    · have i2 : (k : Int) < 3 := by omega
      have i3 : (k : Int) < 4 := by omega
      have i4 : 0 ≤ (k : Int) := by omega
      have s0 := hS.out k hk3
      have u0 := hUs.out k hk3
      have HFk := Lib.hid (HF.out k hk3)
      have HN := Lib.hid (fun (h : okF (usF op k) (fld ⟨op, a, b, c, imm⟩ k) = true) i (hi : i < k + 1) => (show okF (usF op i) (fld ⟨op, a, b, c, imm⟩ i) = true from by
        by_cases e : i = k
        · rw [e]; exact h
        · exact hall.out i (by omega)))
      generalize fld ⟨op, a, b, c, imm⟩ k = v at *
      generalize usF op k = u at *
      by_cases g1 : v < 0
      · have HE := Lib.hid (HFk.out (by unfold okF; rw [decide_eq_false (by omega), Bool.false_and]))
        go_wp2
        go_ret
        exact ⟨ret_bool HE.out.symm, hB3⟩
      have g2 : 0 ≤ v := by omega
      by_cases g3 : 8 ≤ v
      · have HE := Lib.hid (HFk.out (by unfold okF; rw [decide_eq_false (by omega), Bool.false_and]))
        clear g1
        go_wp2
        go_ret
        exact ⟨ret_bool HE.out.symm, hB3⟩
      have g4 : v < 8 := by omega
      clear g1 g3
      cases u with
      | true =>
        have HE := Lib.hid (HN.out (by unfold okF; rw [decide_eq_true ⟨g2, g4⟩]; rfl))
        clear HF HFk HN HR
        go_wp2
        go_roundw
        case rel => exact ⟨k + 1, by omega, by go_num, trivial, HE.out⟩
        case measure => simp [intOf]; omega
      | false =>
        by_cases g5 : v = 0
        · subst g5
          have HE := Lib.hid (HN.out (by unfold okF; simp))
          clear HF HFk HN HR
          go_wp2
          go_roundw
          case rel => exact ⟨k + 1, by omega, by go_num, trivial, HE.out⟩
          case measure => simp [intOf]; omega
        · have HE := Lib.hid (HFk.out (by unfold okF; rw [decide_eq_false g5]; simp))
          have g6 : (v != 0) = true := by rw [bne_iff_ne]; exact g5
          clear HF HFk HN HR g5
          go_wp2
          go_ret
          exact ⟨ret_bool HE.out.symm, hB3⟩
    · obtain rfl : k = 3 := by omega
      have HR2 := HR.out hall.out
      have m4 := (b3 4 (by simp)).1
      have m0 := (b3 0 (by simp)).1
      have u3 := (bU 3 (by simp)).1
      have HJ := Lib.hid (ref06_Jump op wr)
      obtain ⟨u, hu⟩ : ∃ u, usI op = u := ⟨_, rfl⟩
      rw [show immB ⟨op, a, b, c, imm⟩ = (decide (0 ≤ imm ∧ imm ≤ 65535) && (u || decide (imm = 0))) from by rw [← hu]; rfl] at HR2
      rw [show (#[.bool (usA op), .bool (usB op), .bool (usC op), .bool (usI op)] : Array Value).toList[3] = .bool u from by rw [← hu]; rfl] at u3
      clear hS hUs HF hall bS hu
      by_cases g1 : imm < 0
      · have HE := Lib.hid (HR2.trans (by rw [decide_eq_false (by omega), Bool.false_and, Bool.false_and]))
        clear HR HR2
        go_wp2
        go_ret
        exact ⟨ret_bool HE.out.symm, hB3⟩
      have g2 : 0 ≤ imm := by omega
      by_cases g3 : 65535 < imm
      · have HE := Lib.hid (HR2.trans (by rw [decide_eq_false (by omega), Bool.false_and, Bool.false_and]))
        clear HR HR2 g1
        go_wp2
        go_ret
        exact ⟨ret_bool HE.out.symm, hB3⟩
      have g4 : imm ≤ 65535 := by omega
      rw [decide_eq_true ⟨g2, g4⟩, Bool.true_and] at HR2
      clear g1 g3
      cases u with
      | true =>
        rw [Bool.true_or, Bool.true_and] at HR2
        by_cases hj : jumpB op = true
        · have HE := Lib.hid (HR2.trans (by unfold tailB; rw [if_pos hj]))
          rw [hj] at HJ
          clear HR HR2 hj
          go_wp2_with (go_at_call 43; (with_reducible refine HJ.out.mono ?_); rintro e w' ⟨rfl, rfl⟩)
          go_ret
          exact ⟨ret_bool HE.out.symm, hB3⟩
        have HK := HR2.trans (by unfold tailB; rw [if_neg hj])
        rw [Bool.not_eq_true] at hj
        rw [hj] at HJ
        by_cases k1 : op = 15
        · have HE := Lib.hid (HK.trans (if_pos k1))
          have k2 : (op == 15) = true := by rw [beq_iff_eq]; exact k1
          clear HR HR2 HK hj k1
          go_wp2_with (go_at_call 43; (with_reducible refine HJ.out.mono ?_); rintro e w' ⟨rfl, rfl⟩)
          go_ret
          exact ⟨ret_bool HE.out.symm, hB3⟩
        have HK2 := HK.trans (if_neg k1)
        have k2 : (op == 15) = false := by rw [beq_eq_false_iff_ne]; exact k1
        by_cases k3 : op = 23
        · have HE := Lib.hid (HK2.trans (if_pos k3))
          have k4 : (op == 23) = true := by rw [beq_iff_eq]; exact k3
          clear HR HR2 HK HK2 hj k1 k3
          go_wp2_with (go_at_call 43; (with_reducible refine HJ.out.mono ?_); rintro e w' ⟨rfl, rfl⟩)
          go_ret
          exact ⟨ret_bool HE.out.symm, hB3⟩
        have HE := Lib.hid (HK2.trans (if_neg k3))
        have k4 : (op == 23) = false := by rw [beq_eq_false_iff_ne]; exact k3
        clear HR HR2 HK HK2 hj k1 k3
        go_wp2_with (go_at_call 43; (with_reducible refine HJ.out.mono ?_); rintro e w' ⟨rfl, rfl⟩)
        go_ret
        exact ⟨ret_bool HE.out.symm, hB3⟩
      | false =>
        rw [Bool.false_or] at HR2
        by_cases g5 : imm = 0
        · rw [decide_eq_true g5, Bool.true_and] at HR2
          have g6 : (imm != 0) = false := by rw [bne_eq_false_iff_eq]; exact g5
          clear g5
          by_cases hj : jumpB op = true
          · have HE := Lib.hid (HR2.trans (by unfold tailB; rw [if_pos hj]))
            rw [hj] at HJ
            clear HR HR2 hj
            go_wp2_with (go_at_call 43; (with_reducible refine HJ.out.mono ?_); rintro e w' ⟨rfl, rfl⟩)
            go_ret
            exact ⟨ret_bool HE.out.symm, hB3⟩
          have HK := HR2.trans (by unfold tailB; rw [if_neg hj])
          rw [Bool.not_eq_true] at hj
          rw [hj] at HJ
          by_cases k1 : op = 15
          · have HE := Lib.hid (HK.trans (if_pos k1))
            have k2 : (op == 15) = true := by rw [beq_iff_eq]; exact k1
            clear HR HR2 HK hj k1
            go_wp2_with (go_at_call 43; (with_reducible refine HJ.out.mono ?_); rintro e w' ⟨rfl, rfl⟩)
            go_ret
            exact ⟨ret_bool HE.out.symm, hB3⟩
          have HK2 := HK.trans (if_neg k1)
          have k2 : (op == 15) = false := by rw [beq_eq_false_iff_ne]; exact k1
          by_cases k3 : op = 23
          · have HE := Lib.hid (HK2.trans (if_pos k3))
            have k4 : (op == 23) = true := by rw [beq_iff_eq]; exact k3
            clear HR HR2 HK HK2 hj k1 k3
            go_wp2_with (go_at_call 43; (with_reducible refine HJ.out.mono ?_); rintro e w' ⟨rfl, rfl⟩)
            go_ret
            exact ⟨ret_bool HE.out.symm, hB3⟩
          have HE := Lib.hid (HK2.trans (if_neg k3))
          have k4 : (op == 23) = false := by rw [beq_eq_false_iff_ne]; exact k3
          clear HR HR2 HK HK2 hj k1 k3
          go_wp2_with (go_at_call 43; (with_reducible refine HJ.out.mono ?_); rintro e w' ⟨rfl, rfl⟩)
          go_ret
          exact ⟨ret_bool HE.out.symm, hB3⟩
        · have HE := Lib.hid (HR2.trans (by rw [decide_eq_false g5, Bool.false_and]))
          have g6 : (imm != 0) = true := by rw [bne_iff_ne]; exact g5
          clear HR HR2 g5
          go_wp2
          go_ret
          exact ⟨ret_bool HE.out.symm, hB3⟩
end Go.Proofs.Ythajndgljfbifaa
