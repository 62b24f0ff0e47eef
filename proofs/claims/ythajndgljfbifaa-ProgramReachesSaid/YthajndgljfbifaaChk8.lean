/-
  What is wrong with a program: the document's Check and the program's own.
  Contracts of Check: the document's and the program's own.
  Contract of the document's Check.
-/
import Derived.Test.YthajndgljfbifaaRM1
import Derived.Test.YthajndgljfbifaaPgm
import Derived.Test.YthajndgljfbifaaIc2
namespace Go.Proofs.Ythajndgljfbifaa
open Go.RowKit
set_option maxRecDepth 100000

/-- An instruction of a program of n regions and m instructions names what is there. -/
def namB (n m : Nat) (x : Ins) : Bool := if jumpB x.op = true then decide (x.imm < (m : Int)) else if x.op = 15 then decide (x.imm < (n : Int)) else true

/-- The error of a program. -/
def chkE (C : List Ins) (s : List Int) (L : List (List Nat)) : Int :=
  if (validB s && (decide (L.length = s.length) && fitsL s L)) = true then
    if 1 ≤ C.length ∧ C.length ≤ 64 then
      if C.all vinB = true then if C.all (namB s.length C.length) = true then 0 else 6 else 5
    else 3
  else 1

/-- The call returns this error number and keeps what was. -/
def GivesErr (k : Int) (w : World) (e : Ending) (w' : World) : Prop := e = .returned (.int .i64 k) ∧ Below w.heap.size w w'

theorem gives_err {k v : Int} {w w' : World} (hb : Below w.heap.size w w') (h : k = v) : GivesErr k w (.returned (.int .i64 v)) w' := ⟨by rw [h], hb⟩

/-- So it is up to k. -/
def AllTo (p : Ins → Bool) (C : List Ins) (k : Nat) : Prop := ∀ i (h : i < C.length), i < k → p C[i] = true

theorem AllTo.zero (p : Ins → Bool) (C : List Ins) : AllTo p C 0 := fun _ _ h => by omega
theorem AllTo.next {p : Ins → Bool} {C : List Ins} {k : Nat} (h : AllTo p C k) (hk : k < C.length) (hp : p C[k] = true) : AllTo p C (k + 1) := fun i hi hik => by
  by_cases e : i = k
  · subst e; exact hp
  · exact h i hi (by omega)
theorem AllTo.all {p : Ins → Bool} {C : List Ins} (h : AllTo p C C.length) : C.all p = true := by
  rw [List.all_eq_true]
  intro x hx
  obtain ⟨i, hi, rfl⟩ := List.getElem_of_mem hx
  exact h i hi hi
theorem not_all {p : Ins → Bool} {C : List Ins} {k : Nat} (hk : k < C.length) (hp : p C[k] = false) : C.all p = false := by
  rw [List.all_eq_false]
  exact ⟨C[k], List.getElem_mem hk, by simp [hp]⟩

section
variable {C : List Ins} {s : List Int} {L : List (List Nat)}

theorem chk_arg (h : (validB s && (decide (L.length = s.length) && fitsL s L)) = false) : chkE C s L = 1 := by unfold chkE; rw [if_neg (by simp [h])]
theorem chk_limit (h : (validB s && (decide (L.length = s.length) && fitsL s L)) = true) (h1 : ¬ (1 ≤ C.length ∧ C.length ≤ 64)) : chkE C s L = 3 := by unfold chkE; rw [if_pos h, if_neg h1]
theorem chk_form (h : (validB s && (decide (L.length = s.length) && fitsL s L)) = true) (h1 : 1 ≤ C.length ∧ C.length ≤ 64) (h2 : C.all vinB = false) : chkE C s L = 5 := by unfold chkE; rw [if_pos h, if_pos h1, if_neg (by simp [h2])]
theorem chk_range (h : (validB s && (decide (L.length = s.length) && fitsL s L)) = true) (h1 : 1 ≤ C.length ∧ C.length ≤ 64) (h2 : C.all vinB = true) (h3 : C.all (namB s.length C.length) = false) : chkE C s L = 6 := by unfold chkE; rw [if_pos h, if_pos h1, if_pos h2, if_neg (by simp [h3])]
theorem chk_ok (h : (validB s && (decide (L.length = s.length) && fitsL s L)) = true) (h1 : 1 ≤ C.length ∧ C.length ≤ 64) (h2 : C.all vinB = true) (h3 : C.all (namB s.length C.length) = true) : chkE C s L = 0 := by unfold chkE; rw [if_pos h, if_pos h1, if_pos h2, if_pos h3]

theorem fitsL_all : ∀ {s : List Int} {L : List (List Nat)}, fitsL s L = true ↔ ∀ r (h : r < L.length) (h2 : r < s.length), ((L[r].length : Nat) : Int) ≤ s[r]
  | [], _ => by simp [fitsL]
  | x :: xs, [] => by simp [fitsL]
  | x :: xs, l :: L => by
    rw [fitsL, Bool.and_eq_true, fitsL_all, decide_eq_true_iff]
    constructor
    · rintro ⟨h0, h1⟩ r h h2
      cases r with
      | zero => exact h0
      | succ r => exact h1 r (by simpa using h) (by simpa using h2)
    · intro h
      exact ⟨h 0 (by simp) (by simp), fun r hr hr2 => h (r + 1) (by simpa using hr) (by simpa using hr2)⟩

theorem namB_iff (n m : Nat) (x : Ins) : namB n m x = true ↔ (jumpB x.op = true → x.imm < (m : Int)) ∧ (x.op = 15 → x.imm < (n : Int)) := by
  unfold namB
  by_cases hj : jumpB x.op = true
  · have h15 : x.op ≠ 15 := by
      intro e; rw [e] at hj; revert hj; decide
    rw [if_pos hj, decide_eq_true_iff]
    exact ⟨fun h => ⟨fun _ => h, fun e => absurd e h15⟩, fun h => h.1 hj⟩
  · rw [if_neg hj]
    by_cases h15 : x.op = 15
    · rw [if_pos h15, decide_eq_true_iff]
      exact ⟨fun h => ⟨fun e => absurd e hj, fun _ => h⟩, fun h => h.2 h15⟩
    · rw [if_neg h15]
      exact ⟨fun _ => ⟨fun e => absurd e hj, fun e => absurd e h15⟩, fun _ => rfl⟩

/-- The good programs are those without an error. -/
theorem chk_good : chkE C s L = 0 ↔ GoodPg C s L := by
  by_cases h0 : (validB s && (decide (L.length = s.length) && fitsL s L)) = true
  · by_cases h1 : 1 ≤ C.length ∧ C.length ≤ 64
    · have h0' := h0
      simp only [Bool.and_eq_true, decide_eq_true_iff] at h0'
      cases h2 : C.all vinB with
      | false =>
        rw [chk_form h0 h1 h2]
        refine ⟨fun h => by omega, fun h => ?_⟩
        exfalso
        rw [List.all_eq_false] at h2
        obtain ⟨x, hx, hn⟩ := h2
        obtain ⟨i, hi, rfl⟩ := List.getElem_of_mem hx
        exact hn (h.2.2.2.2.2 i hi).1
      | true =>
        cases h3 : C.all (namB s.length C.length) with
        | false =>
          rw [chk_range h0 h1 h2 h3]
          refine ⟨fun h => by omega, fun h => ?_⟩
          exfalso
          rw [List.all_eq_false] at h3
          obtain ⟨x, hx, hn⟩ := h3
          obtain ⟨i, hi, rfl⟩ := List.getElem_of_mem hx
          exact hn ((namB_iff _ _ _).2 (h.2.2.2.2.2 i hi).2)
        | true =>
          rw [chk_ok h0 h1 h2 h3]
          rw [List.all_eq_true] at h2 h3
          refine ⟨fun _ => ⟨h0'.1, h0'.2.1, h1.1, h1.2, fitsL_all.1 h0'.2.2, fun i hi => ⟨h2 _ (List.getElem_mem hi), (namB_iff _ _ _).1 (h3 _ (List.getElem_mem hi))⟩⟩, fun _ => rfl⟩
    · rw [chk_limit h0 h1]
      exact ⟨fun h => by omega, fun h => absurd ⟨h.2.2.1, h.2.2.2.1⟩ h1⟩
  · rw [chk_arg (by simpa using h0)]
    refine ⟨fun h => by omega, fun h => ?_⟩
    exfalso
    apply h0
    simp only [Bool.and_eq_true, decide_eq_true_iff]
    exact ⟨h.1, h.2.1, fitsL_all.2 h.2.2.2.2.1⟩
end

set_option maxHeartbeats 1000000 in
theorem program_fits (da sa : Option Addr) (L : List (List Nat)) (xs : List Int) (dc sc : Nat) (w : World) (hd : DatAt w da L) (hs : IntsAt .i64 w sa xs) (lx : xs.length ≤ 1000000000) (ll : L.length ≤ 1000000000) (le : ∀ l ∈ L, l.length ≤ 1000000000) :
    Calls Try.prog 45 #[.slice da L.length dc, .slice sa xs.length sc] w fun e w' => e = .returned (.bool (decide (L.length = xs.length) && fitsL xs L)) ∧ w = w' := by
  go_enter Try.func45, Try.ntmps45
  by_cases hln : L.length = xs.length
  case neg =>
    have g0 : ((L.length : Int) != (xs.length : Int)) = true := by simp; omega
    go_wp2
    go_ret
    exact ⟨ret_bool (by rw [decide_eq_false hln]; rfl), rfl⟩
  case pos =>
  have g0 : ((L.length : Int) != (xs.length : Int)) = false := by simp; omega
  have HL := Lib.hid hln
  rw [decide_eq_true hln, Bool.true_and]
  clear hln
  go_upto_region 3 with fail
  clear g0
  go_wp2_with fail
  go_loop [14] (fun c => ∃ k : Nat, k ≤ L.length ∧ c = .int .i64 k ∧ fitsL xs L = fitsL (xs.drop k) (L.drop k)) (fun c => L.length - (intOf c).toNat)
  case atStart => exact ⟨0, by omega, rfl, rfl⟩
  case round =>
    obtain ⟨k, hk, rfl, heq⟩ := hrel
    have HE := Lib.hid heq
    clear heq
    by_cases hlt : k < L.length
    · have hlx : k < xs.length := by have := HL.out; omega
      obtain ⟨b1, o1, rfl, hc1⟩ := hd.some hlt
      obtain ⟨a2, c2, d1, _⟩ := hc1 k hlt
      obtain ⟨b2, o2, rfl, hc2⟩ := hs.some hlx
      have d2 := hc2 k hlx
      have HF := Lib.hid (fits_here xs L k hlx hlt)
      have hle := le _ (List.getElem_mem hlt)
      have i1 : (k : Int) < (L.length : Int) := by omega
      have i2 : (k : Int) < (xs.length : Int) := by omega
      have i3 : 0 ≤ (k : Int) := by omega
      clear hc1 hc2 hd hs
      generalize L[k] = l at *
      generalize xs[k] = x at *
      by_cases hx : (l.length : Int) ≤ x
      · have i4 : ¬ x < (l.length : Int) := by omega
        go_wp2
        go_round
        case rel => exact ⟨k + 1, by omega, by go_num, by rw [HE.out, HF.out, decide_eq_true hx, Bool.true_and]⟩
        case measure => simp [intOf]; omega
      · have i4 : x < (l.length : Int) := by omega
        go_wp2
        go_ret
        exact ⟨ret_bool (by rw [HE.out, HF.out, decide_eq_false (by omega), Bool.false_and]), rfl⟩
    · go_wp2
      go_ret
      exact ⟨ret_bool (by rw [HE.out, fits_end _ _ _ (by omega)]), rfl⟩

set_option maxHeartbeats 1000000 in
theorem program_names (x : Ins) (m n : Nat) (w : World) :
    Calls Try.prog 47 #[insV x, .int .i64 (m : Int), .int .i64 (n : Int)] w fun e w' => e = .returned (.bool (namB n m x)) ∧ Below w.heap.size w w' := by
  obtain ⟨op, a, b, c, imm⟩ := x
  unfold insV namB
  simp only
  have hB := Lib.hid (Below.alloc (Below.refl w.heap.size w) (Nat.le_refl _) (.cells #[.int .i64 op, .int .i64 a, .int .i64 b, .int .i64 c, .int .i64 imm] 66))
  cases hj : jumpB op with
  | true =>
    rcases (of_decide_eq_true hj : op = 18 ∨ op = 19 ∨ op = 20 ∨ op = 21) with rfl | rfl | rfl | rfl
    all_goals
      clear hj
      rw [if_pos rfl]
      go_enter Try.func47, Try.ntmps47
      go_wp2
      go_ret
      exact ⟨rfl, hB.out⟩
  | false =>
    have n0 : ¬ (op = 18 ∨ op = 19 ∨ op = 20 ∨ op = 21) := of_decide_eq_false hj
    have n18 : (op == 18) = false := by rw [beq_eq_false_iff_ne]; omega
    have n19 : (op == 19) = false := by rw [beq_eq_false_iff_ne]; omega
    have n20 : (op == 20) = false := by rw [beq_eq_false_iff_ne]; omega
    have n21 : (op == 21) = false := by rw [beq_eq_false_iff_ne]; omega
    rw [if_neg (by simp)]
    clear n0 hj
    by_cases h15 : op = 15
    · subst h15
      rw [if_pos rfl]
      clear n18 n19 n20 n21
      go_enter Try.func47, Try.ntmps47
      go_wp2
      go_ret
      exact ⟨rfl, hB.out⟩
    · have n15 : (op == 15) = false := by rw [beq_eq_false_iff_ne]; exact h15
      rw [if_neg h15]
      clear h15
      go_enter Try.func47, Try.ntmps47
      go_wp2
      go_ret
      exact ⟨rfl, hB.out⟩
end Go.Proofs.Ythajndgljfbifaa
namespace Go.Proofs.Ythajndgljfbifaa
open Go.RowKit
set_option maxRecDepth 100000

set_option maxHeartbeats 4000000 in
theorem program_Check (ac a2 ad : Option Addr) (C : List Ins) (s : List Int) (L : List (List Nat)) (cc c2 cd : Nat) (w : World) (hc : CodeAt w ac C) (hs : IntsAt .i64 w a2 s) (hd : DatAt w ad L) (lc : C.length ≤ 1000000) (ls : s.length ≤ 1000000) (ld : L.length ≤ 1000000) (lr : ∀ l ∈ L, l.length ≤ 1000000) :
    Calls Try.prog 15 #[.agg #[.slice ac C.length cc, .slice a2 s.length c2, .slice ad L.length cd]] w (GivesErr (chkE C s L) w) := by
  have hB := Below.alloc (Below.refl w.heap.size w) (Nat.le_refl _) (.cells #[.slice ac C.length cc, .slice a2 s.length c2, .slice ad L.length cd] 26)
  have b0 := Blk.new (W := w) #[.slice ac C.length cc, .slice a2 s.length c2, .slice ad L.length cd] 26
  have hc0 := hc.later hB
  have hs0 := ints_later7 hs hB
  have hd0 := hd.later hB
  have HV := Lib.hid (region_Valid a2 s c2 _ hs0 ls)
  have HF := Lib.hid (program_fits ad a2 L s cd c2 _ hd0 hs0 (by omega) (by omega) (fun l hl => by have := lr l hl; omega))
  have HG := Lib.hid (fun W (h : Below w.heap.size w W) v (hk : chkE C s L = v) => gives_err h hk)
  clear hc hs hd hs0 hd0 lr
  go_enter Try.func15, Try.ntmps15
  go_upto_region 1 with fail
  generalize w.alloc (.cells #[.slice ac C.length cc, .slice a2 s.length c2, .slice ad L.length cd] 26) = W0 at *
  have p0 := (b0 0 (by simp)).1
  have p1 := (b0 1 (by simp)).1
  have p2 := (b0 2 (by simp)).1
  clear b0
  cases hv : validB s with
  | false =>
    rw [hv] at HV
    have HE := Lib.hid (HG.out _ hB _ (chk_arg (by rw [hv]; rfl)))
    clear hv HG HF
    go_wp2_with (go_at_call 44; (with_reducible refine HV.out.mono ?_); rintro e w' ⟨rfl, rfl⟩)
    go_ret
    exact HE.out
  | true =>
    rw [hv] at HV
    cases hf : decide (L.length = s.length) && fitsL s L with
    | false =>
      rw [hf] at HF
      have HE := Lib.hid (HG.out _ hB _ (chk_arg (by rw [hv, hf]; rfl)))
      clear hv hf HG
      go_wp2_with (first
        | (go_at_call 44; (with_reducible refine HV.out.mono ?_); rintro e w' ⟨rfl, rfl⟩)
        | (go_at_call 45; (with_reducible refine HF.out.mono ?_); rintro e w' ⟨rfl, rfl⟩))
      go_ret
      exact HE.out
    | true =>
      rw [hf] at HF
      have HV0 : Hid ((validB s && (decide (L.length = s.length) && fitsL s L)) = true) := Lib.hid (by rw [hv, hf]; rfl)
      clear hv hf
      go_upto_region 3 with (first
        | (go_at_call 44; (with_reducible refine HV.out.mono ?_); rintro e w' ⟨rfl, rfl⟩)
        | (go_at_call 45; (with_reducible refine HF.out.mono ?_); rintro e w' ⟨rfl, rfl⟩))
      clear HV HF
      by_cases h1 : C.length < 1
      · have HE := Lib.hid (HG.out _ hB _ (chk_limit HV0.out (by omega)))
        have g1 : (C.length : Int) < 1 := by omega
        clear h1 HG
        go_wp2_with fail
        go_ret
        exact HE.out
      · by_cases h2 : 64 < C.length
        · have HE := Lib.hid (HG.out _ hB _ (chk_limit HV0.out (by omega)))
          have g1 : ¬ (C.length : Int) < 1 := by omega
          have g2 : 64 < (C.length : Int) := by omega
          clear h1 h2 HG
          go_wp2_with fail
          go_ret
          exact HE.out
        · have HL : Hid (1 ≤ C.length ∧ C.length ≤ 64) := Lib.hid (by omega)
          have g1 : ¬ (C.length : Int) < 1 := by omega
          have g2 : ¬ 64 < (C.length : Int) := by omega
          have HB := Lib.hid hB
          clear h1 h2 hB
          go_upto_region 6 with fail
          clear g1 g2
          go_loopw [32] (fun c wr => ∃ j : Nat, j ≤ C.length ∧ c = .int .i64 j ∧ Below W0.heap.size W0 wr ∧ AllTo vinB C j) (fun c _ => C.length - (intOf c).toNat)
          case atStart => exact ⟨0, by omega, rfl, Below.refl _ _, AllTo.zero _ _⟩
          case round =>
            obtain ⟨j, hj, rfl, hw, hall0⟩ := hrel
            have hall := Lib.hid hall0
            clear hall0
            have HBr := Lib.hid (HB.out.trans (hw.mono HB.out.size))
            have p0 := cell_later hw p0
            have p1 := cell_later hw p1
            by_cases hlt : j < C.length
            · obtain ⟨bc, oc, rfl, hcc⟩ := (hc0.later hw).some hlt
              obtain ⟨q0, q1, q2, q3, q4⟩ := hcc j hlt
              have HN : Hid (vinB C[j] = false → chkE C s L = 5) := Lib.hid (fun hn => chk_form HV0.out HL.out (not_all hlt hn))
              have HY : Hid (vinB C[j] = true → AllTo vinB C (j + 1)) := Lib.hid (fun hn => hall.out.next hlt hn)
              generalize C[j] = x at *
              clear hcc hall hc0
              have i1 : (j : Int) < (C.length : Int) := by omega
              have i2 : 0 ≤ (j : Int) := by omega
              have HV1 := Lib.hid (fun W => instr_Valid x W)
              obtain ⟨op, a, b, c, imm⟩ := x
              unfold insV at HV1
              simp only at HV1 q0 q1 q2 q3 q4
              go_upto_region 8 with fail
              have e0 := (Blk.new (W := wr) #[.int .i64 op, .int .i64 a, .int .i64 b, .int .i64 c, .int .i64 imm] 66 0 (by simp)).1
              have e1 := (Blk.new (W := wr) #[.int .i64 op, .int .i64 a, .int .i64 b, .int .i64 c, .int .i64 imm] 66 1 (by simp)).1
              have e2 := (Blk.new (W := wr) #[.int .i64 op, .int .i64 a, .int .i64 b, .int .i64 c, .int .i64 imm] 66 2 (by simp)).1
              have e3 := (Blk.new (W := wr) #[.int .i64 op, .int .i64 a, .int .i64 b, .int .i64 c, .int .i64 imm] 66 3 (by simp)).1
              have e4 := (Blk.new (W := wr) #[.int .i64 op, .int .i64 a, .int .i64 b, .int .i64 c, .int .i64 imm] 66 4 (by simp)).1
              have hA5 := Below.alloc (Below.refl wr.heap.size wr) (Nat.le_refl _) (.cells #[.int .i64 op, .int .i64 a, .int .i64 b, .int .i64 c, .int .i64 imm] 66)
              have H5 := Lib.hid (HBr.out.trans (hA5.mono HBr.out.size))
              have H6 := Lib.hid (hw.trans (hA5.mono hw.size))
              clear hA5 q0 q1 q2 q3 q4 hw HBr p0 p1
              generalize wr.alloc (.cells #[.int .i64 op, .int .i64 a, .int .i64 b, .int .i64 c, .int .i64 imm] 66) = W5 at *
              generalize wr.heap.size = Z at *
              cases hv : vinB ⟨op, a, b, c, imm⟩ with
              | false =>
                rw [hv] at HV1
                have HE := Lib.hid (HN.out hv)
                clear hv HN HY
                go_wp2_with (go_at_call 46; (with_reducible refine (HV1.out _).mono ?_); rintro e w6 ⟨rfl, hb6⟩)
                go_ret
                exact HG.out _ (H5.out.trans (hb6.mono H5.out.size)) _ HE.out
              | true =>
                rw [hv] at HV1
                have HE := Lib.hid (HY.out hv)
                clear hv HN HY
                go_wp2_with (go_at_call 46; (with_reducible refine (HV1.out _).mono ?_); rintro e w6 ⟨rfl, hb6⟩)
                go_roundw
                case rel => exact ⟨j + 1, by omega, by go_num, H6.out.trans (hb6.mono H6.out.size), HE.out⟩
                case measure => simp [intOf]; omega
            · obtain rfl : j = C.length := by omega
              have HA := Lib.hid hall.out.all
              have hc1 := hc0.later hw
              clear hall hlt hc0
              go_upto_region 12 with fail
              go_loopw [43] (fun c wr2 => ∃ j : Nat, j ≤ C.length ∧ c = .int .i64 j ∧ Below wr.heap.size wr wr2 ∧ AllTo (namB s.length C.length) C j) (fun c _ => C.length - (intOf c).toNat)
              case atStart => exact ⟨0, by omega, rfl, Below.refl _ _, AllTo.zero _ _⟩
              case round =>
                obtain ⟨j, hj, rfl, hw2, hall0⟩ := hrel
                have hall := Lib.hid hall0
                clear hall0
                have HBr := Lib.hid (HBr.out.trans (hw2.mono HBr.out.size))
                have p0 := cell_later hw2 p0
                have p1 := cell_later hw2 p1
                by_cases hlt : j < C.length
                · obtain ⟨bc, oc, rfl, hcc⟩ := (hc1.later hw2).some hlt
                  obtain ⟨q0, q1, q2, q3, q4⟩ := hcc j hlt
                  have HN : Hid (namB s.length C.length C[j] = false → chkE C s L = 6) := Lib.hid (fun hn => chk_range HV0.out HL.out HA.out (not_all hlt hn))
                  have HY : Hid (namB s.length C.length C[j] = true → AllTo (namB s.length C.length) C (j + 1)) := Lib.hid (fun hn => hall.out.next hlt hn)
                  generalize C[j] = x at *
                  clear hcc hall hc1
                  have i1 : (j : Int) < (C.length : Int) := by omega
                  have i2 : 0 ≤ (j : Int) := by omega
                  have HV1 := Lib.hid (fun W => program_names x C.length s.length W)
                  obtain ⟨op, a, b, c, imm⟩ := x
                  unfold insV at HV1
                  simp only at HV1 q0 q1 q2 q3 q4
                  go_upto_region 14 with fail
                  have e0 := (Blk.new (W := wr) #[.int .i64 op, .int .i64 a, .int .i64 b, .int .i64 c, .int .i64 imm] 66 0 (by simp)).1
                  have e1 := (Blk.new (W := wr) #[.int .i64 op, .int .i64 a, .int .i64 b, .int .i64 c, .int .i64 imm] 66 1 (by simp)).1
                  have e2 := (Blk.new (W := wr) #[.int .i64 op, .int .i64 a, .int .i64 b, .int .i64 c, .int .i64 imm] 66 2 (by simp)).1
                  have e3 := (Blk.new (W := wr) #[.int .i64 op, .int .i64 a, .int .i64 b, .int .i64 c, .int .i64 imm] 66 3 (by simp)).1
                  have e4 := (Blk.new (W := wr) #[.int .i64 op, .int .i64 a, .int .i64 b, .int .i64 c, .int .i64 imm] 66 4 (by simp)).1
                  have hA5 := Below.alloc (Below.refl wr.heap.size wr) (Nat.le_refl _) (.cells #[.int .i64 op, .int .i64 a, .int .i64 b, .int .i64 c, .int .i64 imm] 66)
                  have H5 := Lib.hid (HBr.out.trans (hA5.mono HBr.out.size))
                  have H6 := Lib.hid (hw2.trans (hA5.mono hw2.size))
                  have p0 := cell_later hA5 p0
                  have p1 := cell_later hA5 p1
                  clear hA5 q0 q1 q2 q3 q4 hw hw2 HBr
                  generalize wr.alloc (.cells #[.int .i64 op, .int .i64 a, .int .i64 b, .int .i64 c, .int .i64 imm] 66) = W5 at *
                  generalize wr.heap.size = Z at *
                  cases hv : namB s.length C.length ⟨op, a, b, c, imm⟩ with
                  | false =>
                    rw [hv] at HV1
                    have HE := Lib.hid (HN.out hv)
                    clear hv HN HY
                    go_wp2_with (go_at_call 47; (with_reducible refine (HV1.out _).mono ?_); rintro e w6 ⟨rfl, hb6⟩)
                    go_ret
                    exact HG.out _ (H5.out.trans (hb6.mono H5.out.size)) _ HE.out
                  | true =>
                    rw [hv] at HV1
                    have HE := Lib.hid (HY.out hv)
                    clear hv HN HY
                    go_wp2_with (go_at_call 47; (with_reducible refine (HV1.out _).mono ?_); rintro e w6 ⟨rfl, hb6⟩)
                    go_roundw
                    case rel => exact ⟨j + 1, by omega, by go_num, H6.out.trans (hb6.mono H6.out.size), HE.out⟩
                    case measure => simp [intOf]; omega
                · obtain rfl : j = C.length := by omega
                  have HE := Lib.hid (HG.out _ HBr.out _ (chk_ok HV0.out HL.out HA.out hall.out.all))
                  clear hall hlt hc1 HG
                  go_wp2
                  go_ret
                  exact HE.out
end Go.Proofs.Ythajndgljfbifaa
namespace Go.Proofs.Ythajndgljfbifaa
open Go.RowKit
set_option maxRecDepth 100000

set_option maxHeartbeats 4000000 in
theorem ref08_Check (ac a2 ad : Option Addr) (C : List Ins) (s : List Int) (L : List (List Nat)) (cc c2 cd : Nat) (w : World) (hc : CodeAt w ac C) (hs : IntsAt .i64 w a2 s) (hd : DatAt w ad L) (lc : C.length ≤ 1000000) (ls : s.length ≤ 1000000) (ld : L.length ≤ 1000000) (lr : ∀ l ∈ L, l.length ≤ 1000000) :
    Calls Try.prog 16 #[.agg #[.slice ac C.length cc, .slice a2 s.length c2, .slice ad L.length cd]] w (GivesErr (chkE C s L) w) := by
  have hB := Below.alloc (Below.refl w.heap.size w) (Nat.le_refl _) (.cells #[.slice ac C.length cc, .slice a2 s.length c2, .slice ad L.length cd] 26)
  have b0 := Blk.new (W := w) #[.slice ac C.length cc, .slice a2 s.length c2, .slice ad L.length cd] 26
  have hc0 := hc.later hB
  have hs0 := ints_later7 hs hB
  have hd0 := hd.later hB
  have HV := Lib.hid (ref02_Valid a2 s c2 _ hs0 ls)
  have HG := Lib.hid (fun W (h : Below w.heap.size w W) v (hk : chkE C s L = v) => gives_err h hk)
  clear hc hs hd
  go_enter Try.func16, Try.ntmps16
  go_upto_region 1 with fail
  generalize w.alloc (.cells #[.slice ac C.length cc, .slice a2 s.length c2, .slice ad L.length cd] 26) = W0 at *
  have p0 := (b0 0 (by simp)).1
  have p1 := (b0 1 (by simp)).1
  have p2 := (b0 2 (by simp)).1
  cases hv : validB s with
  | false =>
    rw [hv] at HV
    have HE := Lib.hid (HG.out _ hB _ (chk_arg (by rw [hv]; rfl)))
    clear hv HG
    go_wp2_with (go_at_call 48; (with_reducible refine HV.out.mono ?_); rintro e w' ⟨rfl, rfl⟩)
    go_ret
    exact HE.out
  | true =>
    rw [hv] at HV
    by_cases hln : L.length = s.length
    case neg =>
      have HE := Lib.hid (HG.out _ hB _ (chk_arg (by rw [decide_eq_false hln]; simp)))
      have g1 : ((L.length : Int) != (s.length : Int)) = true := by rw [bne_iff_ne]; omega
      clear hv hln
      go_wp2_with (go_at_call 48; (with_reducible refine HV.out.mono ?_); rintro e w' ⟨rfl, rfl⟩)
      go_ret
      exact HE.out
    case pos =>
    have g1 : ((L.length : Int) != (s.length : Int)) = false := by rw [bne_eq_false_iff_eq]; omega
    have HVv := Lib.hid hv
    have H1 := Lib.hid hln
    have HB0 := Lib.hid hB
    clear hv hln b0 hB
    go_upto_region 3 with (go_at_call 48; (with_reducible refine HV.out.mono ?_); rintro e w' ⟨rfl, rfl⟩)
    clear g1 HV
    go_wp2_with fail
    go_loop [25] (fun c => ∃ k : Nat, k ≤ L.length ∧ c = .int .i64 k ∧ fitsL s L = fitsL (s.drop k) (L.drop k)) (fun c => L.length - (intOf c).toNat)
    case atStart => exact ⟨0, by omega, rfl, rfl⟩
    case round =>
      obtain ⟨k, hk, rfl, heq⟩ := hrel
      have HE := Lib.hid heq
      clear heq
      by_cases hlt : k < L.length
      · have hks : k < s.length := by have := H1.out; omega
        obtain ⟨bd, od, rfl, hdc⟩ := hd0.some hlt
        obtain ⟨bs, os, rfl, hsc⟩ := hs0.some hks
        obtain ⟨a5, c5, q0, hna⟩ := hdc k hlt
        clear hna
        have q1 := hsc k hks
        have lrk := lr _ (List.getElem_mem hlt)
        have HF := Lib.hid (fits_here s L k hks hlt)
        have HN : Hid (fitsL s L = false → chkE C s L = 1) := Lib.hid (fun h => chk_arg (by rw [h]; simp))
        generalize L[k] = l at *
        generalize s[k] = v at *
        clear hdc hsc hd0 hs0 lr
        have i1 : (k : Int) < (L.length : Int) := by omega
        have i2 : (k : Int) < (s.length : Int) := by omega
        have i3 : 0 ≤ (k : Int) := by omega
        by_cases hn : (l.length : Int) ≤ v
        · have HY := Lib.hid (show fitsL s L = fitsL (s.drop (k + 1)) (L.drop (k + 1)) by rw [HE.out, HF.out, decide_eq_true hn, Bool.true_and])
          have hn2 : ¬ v < (l.length : Int) := by omega
          clear HE HF HN hn hks hlt
          go_wp2
          go_round
          case rel => exact ⟨k + 1, by omega, by go_num, HY.out⟩
          case measure => simp [intOf]; omega
        · have HX := Lib.hid (HG.out _ HB0.out _ (HN.out (by rw [HE.out, HF.out, decide_eq_false hn, Bool.false_and])))
          have hn2 : v < (l.length : Int) := by omega
          clear HE HF HN hn hks hlt
          go_wp2
          go_ret
          exact HX.out
      · have HV0 : Hid ((validB s && (decide (L.length = s.length) && fitsL s L)) = true) := Lib.hid (by rw [HVv.out, decide_eq_true H1.out, HE.out, fits_end _ _ _ (by omega)]; rfl)
        have hB := HB0.out
        clear HE HVv H1 HB0 hs0 hd0 lr
        go_upto_region 9 with fail
        by_cases h1 : C.length < 1
        · have HE := Lib.hid (HG.out _ hB _ (chk_limit HV0.out (by omega)))
          have g1 : (C.length : Int) < 1 := by omega
          clear h1 HG
          go_wp2_with fail
          go_ret
          exact HE.out
        · by_cases h2 : 64 < C.length
          · have HE := Lib.hid (HG.out _ hB _ (chk_limit HV0.out (by omega)))
            have g1 : ¬ (C.length : Int) < 1 := by omega
            have g2 : 64 < (C.length : Int) := by omega
            clear h1 h2 HG
            go_wp2_with fail
            go_ret
            exact HE.out
          · have HL : Hid (1 ≤ C.length ∧ C.length ≤ 64) := Lib.hid (by omega)
            have g1 : ¬ (C.length : Int) < 1 := by omega
            have g2 : ¬ 64 < (C.length : Int) := by omega
            have HB := Lib.hid hB
            clear h1 h2 hB
            go_upto_region 12 with fail
            clear g1 g2
            go_loopw [52] (fun c wr => ∃ j : Nat, j ≤ C.length ∧ c = .int .i64 j ∧ Below W0.heap.size W0 wr ∧ AllTo vinB C j) (fun c _ => C.length - (intOf c).toNat)
            case atStart => exact ⟨0, by omega, rfl, Below.refl _ _, AllTo.zero _ _⟩
            case round =>
              obtain ⟨j, hj, rfl, hw, hall0⟩ := hrel
              have hall := Lib.hid hall0
              clear hall0
              have HBr := Lib.hid (HB.out.trans (hw.mono HB.out.size))
              have p0 := cell_later hw p0
              have p1 := cell_later hw p1
              by_cases hlt : j < C.length
              · obtain ⟨bc, oc, rfl, hcc⟩ := (hc0.later hw).some hlt
                obtain ⟨q0, q1, q2, q3, q4⟩ := hcc j hlt
                have HN : Hid (vinB C[j] = false → chkE C s L = 5) := Lib.hid (fun hn => chk_form HV0.out HL.out (not_all hlt hn))
                have HY : Hid (vinB C[j] = true → AllTo vinB C (j + 1)) := Lib.hid (fun hn => hall.out.next hlt hn)
                generalize C[j] = x at *
                clear hcc hall hc0
                have i1 : (j : Int) < (C.length : Int) := by omega
                have i2 : 0 ≤ (j : Int) := by omega
                have HV1 := Lib.hid (fun W => ref06_Valid x W)
                obtain ⟨op, a, b, c, imm⟩ := x
                unfold insV at HV1
                simp only at HV1 q0 q1 q2 q3 q4
                go_upto_region 14 with fail
                have e0 := (Blk.new (W := wr) #[.int .i64 op, .int .i64 a, .int .i64 b, .int .i64 c, .int .i64 imm] 66 0 (by simp)).1
                have e1 := (Blk.new (W := wr) #[.int .i64 op, .int .i64 a, .int .i64 b, .int .i64 c, .int .i64 imm] 66 1 (by simp)).1
                have e2 := (Blk.new (W := wr) #[.int .i64 op, .int .i64 a, .int .i64 b, .int .i64 c, .int .i64 imm] 66 2 (by simp)).1
                have e3 := (Blk.new (W := wr) #[.int .i64 op, .int .i64 a, .int .i64 b, .int .i64 c, .int .i64 imm] 66 3 (by simp)).1
                have e4 := (Blk.new (W := wr) #[.int .i64 op, .int .i64 a, .int .i64 b, .int .i64 c, .int .i64 imm] 66 4 (by simp)).1
                have hA5 := Below.alloc (Below.refl wr.heap.size wr) (Nat.le_refl _) (.cells #[.int .i64 op, .int .i64 a, .int .i64 b, .int .i64 c, .int .i64 imm] 66)
                have H5 := Lib.hid (HBr.out.trans (hA5.mono HBr.out.size))
                have H6 := Lib.hid (hw.trans (hA5.mono hw.size))
                clear hA5 q0 q1 q2 q3 q4 hw HBr p0 p1
                generalize wr.alloc (.cells #[.int .i64 op, .int .i64 a, .int .i64 b, .int .i64 c, .int .i64 imm] 66) = W5 at *
                generalize wr.heap.size = Z at *
                cases hv : vinB ⟨op, a, b, c, imm⟩ with
                | false =>
                  rw [hv] at HV1
                  have HE := Lib.hid (HN.out hv)
                  clear hv HN HY
                  go_wp2_with (go_at_call 49; (with_reducible refine (HV1.out _).mono ?_); rintro e w6 ⟨rfl, hb6⟩)
                  go_ret
                  exact HG.out _ (H5.out.trans (hb6.mono H5.out.size)) _ HE.out
                | true =>
                  rw [hv] at HV1
                  have HE := Lib.hid (HY.out hv)
                  clear hv HN HY
                  go_wp2_with (go_at_call 49; (with_reducible refine (HV1.out _).mono ?_); rintro e w6 ⟨rfl, hb6⟩)
                  go_roundw
                  case rel => exact ⟨j + 1, by omega, by go_num, H6.out.trans (hb6.mono H6.out.size), HE.out⟩
                  case measure => simp [intOf]; omega
              · obtain rfl : j = C.length := by omega
                have HA := Lib.hid hall.out.all
                have hc1 := hc0.later hw
                clear hall hlt hc0
                go_upto_region 18 with fail
                go_loopw [63] (fun c wr2 => ∃ j : Nat, j ≤ C.length ∧ c = .int .i64 j ∧ Below wr.heap.size wr wr2 ∧ AllTo (namB s.length C.length) C j) (fun c _ => C.length - (intOf c).toNat)
                case atStart => exact ⟨0, by omega, rfl, Below.refl _ _, AllTo.zero _ _⟩
                case round =>
                  obtain ⟨j, hj, rfl, hw2, hall0⟩ := hrel
                  have hall := Lib.hid hall0
                  clear hall0
                  have HBr := Lib.hid (HBr.out.trans (hw2.mono HBr.out.size))
                  have p0 := cell_later hw2 p0
                  have p1 := cell_later hw2 p1
                  by_cases hlt : j < C.length
                  · obtain ⟨bc, oc, rfl, hcc⟩ := (hc1.later hw2).some hlt
                    obtain ⟨q0, q1, q2, q3, q4⟩ := hcc j hlt
                    have HN : Hid (namB s.length C.length C[j] = false → chkE C s L = 6) := Lib.hid (fun hn => chk_range HV0.out HL.out HA.out (not_all hlt hn))
                    have HY : Hid (namB s.length C.length C[j] = true → AllTo (namB s.length C.length) C (j + 1)) := Lib.hid (fun hn => hall.out.next hlt hn)
                    generalize C[j] = x at *
                    clear hcc hall hc1
                    have i1 : (j : Int) < (C.length : Int) := by omega
                    have i2 : 0 ≤ (j : Int) := by omega
                    have HJ := Lib.hid (fun W => ref06_Jump x.op W)
                    obtain ⟨op, a, b, c, imm⟩ := x
                    simp only at HJ q0 q1 q2 q3 q4
                    go_upto_region 20 with fail
                    have e0 := (Blk.new (W := wr) #[.int .i64 op, .int .i64 a, .int .i64 b, .int .i64 c, .int .i64 imm] 66 0 (by simp)).1
                    have e1 := (Blk.new (W := wr) #[.int .i64 op, .int .i64 a, .int .i64 b, .int .i64 c, .int .i64 imm] 66 1 (by simp)).1
                    have e2 := (Blk.new (W := wr) #[.int .i64 op, .int .i64 a, .int .i64 b, .int .i64 c, .int .i64 imm] 66 2 (by simp)).1
                    have e3 := (Blk.new (W := wr) #[.int .i64 op, .int .i64 a, .int .i64 b, .int .i64 c, .int .i64 imm] 66 3 (by simp)).1
                    have e4 := (Blk.new (W := wr) #[.int .i64 op, .int .i64 a, .int .i64 b, .int .i64 c, .int .i64 imm] 66 4 (by simp)).1
                    have hA5 := Below.alloc (Below.refl wr.heap.size wr) (Nat.le_refl _) (.cells #[.int .i64 op, .int .i64 a, .int .i64 b, .int .i64 c, .int .i64 imm] 66)
                    have H5 := Lib.hid (HBr.out.trans (hA5.mono HBr.out.size))
                    have H6 := Lib.hid (hw2.trans (hA5.mono hw2.size))
                    have p0 := cell_later hA5 p0
                    have p1 := cell_later hA5 p1
                    clear hA5 q0 q1 q2 q3 q4 hw hw2 HBr
                    generalize wr.alloc (.cells #[.int .i64 op, .int .i64 a, .int .i64 b, .int .i64 c, .int .i64 imm] 66) = W5 at *
                    generalize wr.heap.size = Z at *
                    have HI := Lib.hid (namB_iff s.length C.length ⟨op, a, b, c, imm⟩)
                    cases hj : jumpB op with
                    | true =>
                      rw [hj] at HJ
                      have g5 : (op == 15) = false := by rw [beq_eq_false_iff_ne]; intro h; subst h; simp [jumpB] at hj
                      by_cases hm : imm < (C.length : Int)
                      · have HE := Lib.hid (HY.out (HI.out.2 ⟨fun _ => hm, fun h => by rw [beq_eq_false_iff_ne] at g5; exact absurd h g5⟩))
                        have hm2 : ¬ (C.length : Int) ≤ imm := by omega
                        clear HN HY HI hj
                        go_wp2_with (go_at_call 43; (with_reducible refine (HJ.out _).mono ?_); rintro e w7 ⟨rfl, rfl⟩)
                        go_roundw
                        case rel => exact ⟨j + 1, by omega, by go_num, H6.out, HE.out⟩
                        case measure => simp [intOf]; omega
                      · have HE := Lib.hid (HN.out (by rw [← Bool.not_eq_true]; exact fun h => hm ((HI.out.1 h).1 hj)))
                        have hm2 : (C.length : Int) ≤ imm := by omega
                        clear HN HY HI hj
                        go_wp2_with (go_at_call 43; (with_reducible refine (HJ.out _).mono ?_); rintro e w7 ⟨rfl, rfl⟩)
                        go_ret
                        exact HG.out _ H5.out _ HE.out
                    | false =>
                      rw [hj] at HJ
                      by_cases ho : op = 15
                      · have g5 : (op == 15) = true := by rw [beq_iff_eq]; exact ho
                        by_cases hm : imm < (s.length : Int)
                        · have HE := Lib.hid (HY.out (HI.out.2 ⟨fun h => (by rw [show jumpB op = true from h] at hj; cases hj), fun _ => hm⟩))
                          have hm2 : ¬ (s.length : Int) ≤ imm := by omega
                          clear HN HY HI hj ho
                          go_wp2_with (go_at_call 43; (with_reducible refine (HJ.out _).mono ?_); rintro e w7 ⟨rfl, rfl⟩)
                          go_roundw
                          case rel => exact ⟨j + 1, by omega, by go_num, H6.out, HE.out⟩
                          case measure => simp [intOf]; omega
                        · have HE := Lib.hid (HN.out (by rw [← Bool.not_eq_true]; exact fun h => hm ((HI.out.1 h).2 ho)))
                          have hm2 : (s.length : Int) ≤ imm := by omega
                          clear HN HY HI hj ho
                          go_wp2_with (go_at_call 43; (with_reducible refine (HJ.out _).mono ?_); rintro e w7 ⟨rfl, rfl⟩)
                          go_ret
                          exact HG.out _ H5.out _ HE.out
                      · have HE := Lib.hid (HY.out (HI.out.2 ⟨fun h => (by rw [show jumpB op = true from h] at hj; cases hj), fun h => absurd h ho⟩))
                        have g5 : (op == 15) = false := by rw [beq_eq_false_iff_ne]; exact ho
                        clear HN HY HI hj ho
                        go_wp2_with (go_at_call 43; (with_reducible refine (HJ.out _).mono ?_); rintro e w7 ⟨rfl, rfl⟩)
                        go_roundw
                        case rel => exact ⟨j + 1, by omega, by go_num, H6.out, HE.out⟩
                        case measure => simp [intOf]; omega
                  · obtain rfl : j = C.length := by omega
                    have HE := Lib.hid (HG.out _ HBr.out _ (chk_ok HV0.out HL.out HA.out hall.out.all))
                    clear hall hlt hc1 HG
                    go_wp2
                    go_ret
                    exact HE.out
end Go.Proofs.Ythajndgljfbifaa
