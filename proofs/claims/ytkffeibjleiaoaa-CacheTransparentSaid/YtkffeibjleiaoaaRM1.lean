/-
  Contracts of the document's own memory: all, Valid.
-/
import Derived.Test.YtkffeibjleiaoaaMemS
import Derived.BigQuiet
import Derived.Deep.QuietTactic
import Derived.Deep.DeepCutAuto
namespace Go.Proofs.Ytkffeibjleiaoaa
open Go.RowKit

set_option maxHeartbeats 1000000 in
theorem ref04_all (a : Option Addr) (xs : List (Nat × Nat)) (ca : Nat) (w : World) (ha : CellsAt w a xs) (ox : OkCells xs) (lx : xs.length ≤ 1000000000) :
    Calls Try.prog 45 #[.slice a xs.length ca] w fun e w' => e = .returned (.bool (xs.all okW)) ∧ Below w.heap.size w w' := by
  go_enter Try.func45, Try.ntmps45
  go_wp2
  go_loopw [7] (fun c wr => ∃ k : Nat, k ≤ xs.length ∧ c = .int .i64 k ∧ xs.all okW = (xs.drop k).all okW ∧ Below w.heap.size w wr) (fun c _ => xs.length - (intOf c).toNat)
  case atStart => exact ⟨0, by omega, rfl, rfl, Below.refl _ _⟩
  case round =>
    obtain ⟨k, hk, rfl, heq, hw⟩ := hrel
    have HE := Lib.hid heq
    clear heq
    by_cases hlt : k < xs.length
    · obtain ⟨b, o, rfl, hc⟩ := (ha.later hw).some hlt
      obtain ⟨c1, c2⟩ := hc k hlt
      have hx := ox _ (List.getElem_mem hlt)
      have HH := Lib.hid (all_here xs k hlt)
      have i1 : (k : Int) < (xs.length : Int) := by omega
      have i2 : 0 ≤ (k : Int) := by omega
      clear hc
      generalize xs[k] = x at *
      have HV := Lib.hid (fun W => ref01_Valid (x.1 : Int) (x.2 : Int) W (by omega) (by omega))
      have hd : (decide ((x.1 : Int) ≤ 2)) = okW x := by unfold okW; simp only [decide_eq_decide]; omega
      rw [hd] at HV
      clear hd
      have hw2 := hw.alloc hw.size (.cells #[.int .u8 (x.1 : Int), .int .u16 (x.2 : Int)] 25)
      go_wp2_with fail
      refine (HV.out _).mono ?_
      rintro e w1 ⟨rfl, hb1⟩
      have hw3 := hw2.trans (hb1.mono hw2.size)
      cases hok : okW x with
      | true =>
        go_wp2
        go_roundw
        case rel => exact ⟨k + 1, by omega, by go_num, by rw [HE.out, HH.out, hok, Bool.true_and], hw3⟩
        case measure => simp [intOf]; omega
      | false =>
        go_wp2
        go_ret
        exact ⟨ret_bool (by rw [HE.out, HH.out, hok, Bool.false_and]), hw3⟩
    · go_wp2
      go_ret
      exact ⟨ret_bool (by rw [HE.out, List.drop_eq_nil_of_le (by omega)]; rfl), hw⟩

theorem lineOk_none {i : Nat} {x : MLine} (h : x.tag = -1) : lineOk i x = (!x.dirty && decide (x.cells.length = 0)) := by unfold lineOk; rw [if_pos h]

theorem lineOk_some {i : Nat} {x : MLine} (h : x.tag ≠ -1) : lineOk i x = (decide (0 ≤ x.tag ∧ x.tag < 128 ∧ x.tag % 4 = (i : Int) ∧ x.cells.length = 4) && x.cells.all okW) := by unfold lineOk; rw [if_neg h]

set_option maxHeartbeats 2000000 in
theorem ref04_Valid (a al : Option Addr) (cs : List (Nat × Nat)) (ls : List MLine) (ca cl : Nat) (w : World) (ha : CellsAt w a cs) (hl : LinesAt w al ls) (ox : OkCells cs) (hxc : ∀ x ∈ ls, OkCells x.cells) (lx : cs.length ≤ 1000000000) (ll : ls.length ≤ 1000000000) (lc : ∀ x ∈ ls, x.cells.length ≤ 1000000000) :
    Calls Try.prog 26 #[.agg #[.slice a cs.length ca, .slice al ls.length cl]] w fun e w' => e = .returned (.bool (memOk ⟨cs, ls⟩)) ∧ Below w.heap.size w w' := by
  have hB := Below.alloc (Below.refl w.heap.size w) (Nat.le_refl _) (.cells #[.slice a cs.length ca, .slice al ls.length cl] 31)
  have r0 : (w.alloc (.cells #[.slice a cs.length ca, .slice al ls.length cl] 31)).cell? ⟨w.heap.size, 0, none⟩ = some (.slice a cs.length ca) := by rw [World.cell?_alloc_at _ _ _ _ rfl]; rfl
  have r1 : (w.alloc (.cells #[.slice a cs.length ca, .slice al ls.length cl] 31)).cell? ⟨w.heap.size, 1, none⟩ = some (.slice al ls.length cl) := by rw [World.cell?_alloc_at _ _ _ _ rfl]; rfl
  have hs0 : (w.alloc (.cells #[.slice a cs.length ca, .slice al ls.length cl] 31)).heap.size = w.heap.size + 1 := by simp
  have hAll := Lib.hid (ref04_all a cs ca _ (ha.later hB) ox lx)
  have hl0 := hl.later hB
  clear ha hl ox
  go_enter Try.func26, Try.ntmps26
  go_upto_region 1 with fail
  generalize w.alloc (.cells #[.slice a cs.length ca, .slice al ls.length cl] 31) = W0 at *
  by_cases h1 : cs.length = 512
  case neg =>
    have i1 : ((cs.length : Int) != 512) = true := by simp; omega
    have HM : Hid (memOk ⟨cs, ls⟩ = false) := Lib.hid (by unfold memOk; rw [decide_eq_false (by simp only; omega), Bool.false_and])
    clear hAll hl0
    go_wp2
    go_ret
    exact ⟨ret_bool HM.out.symm, hB⟩
  case pos =>
  by_cases h2 : ls.length = 4
  case neg =>
    have i1 : ((cs.length : Int) != 512) = false := by simp; omega
    have i2 : ((ls.length : Int) != 4) = true := by simp; omega
    have HM : Hid (memOk ⟨cs, ls⟩ = false) := Lib.hid (by unfold memOk; rw [decide_eq_false (by simp only; omega), Bool.false_and])
    clear hAll hl0
    go_wp2
    go_ret
    exact ⟨ret_bool HM.out.symm, hB⟩
  case pos =>
  have i1 : ((cs.length : Int) != 512) = false := by simp; omega
  have i2 : ((ls.length : Int) != 4) = false := by simp; omega
  have HM : Hid (memOk ⟨cs, ls⟩ = (cs.all okW && linesOk 0 ls)) := Lib.hid (by unfold memOk; rw [decide_eq_true (show _ ∧ _ from ⟨h1, h2⟩), Bool.true_and])
  have H2 := Lib.hid h2
  clear h1 h2
  go_wp2_with fail
  refine hAll.out.mono ?_
  rintro e w1 ⟨rfl, hb1⟩
  have hw1 := hB.trans (hb1.mono (by omega))
  have r0 := cell_later hb1 r0
  have r1 := cell_later hb1 r1
  have hl1 := hl0.later hb1
  have hs1 : w.heap.size < w1.heap.size := by have := hb1.size; omega
  clear hAll hl0 hb1
  cases hok : cs.all okW with
  | false =>
    go_wp2
    go_ret
    exact ⟨ret_bool (by rw [HM.out, hok, Bool.false_and]), hw1⟩
  | true =>
    rw [hok, Bool.true_and] at HM
    clear hok i1 i2 hB
    go_wp2_with fail
    go_loopw [24] (fun c wr => ∃ k : Nat, k ≤ ls.length ∧ c = .int .i64 k ∧ linesOk 0 ls = linesOk k (ls.drop k) ∧ Below w1.heap.size w1 wr) (fun c _ => ls.length - (intOf c).toNat)
    case atStart => exact ⟨0, by omega, rfl, rfl, Below.refl _ _⟩
    case round =>
      obtain ⟨k, hk, rfl, heq, hw⟩ := hrel
      have HE := Lib.hid heq
      clear heq
      by_cases hlt : k < ls.length
      · obtain ⟨b, o, rfl, hc⟩ := (hl1.later hw).some hlt
        obtain ⟨c0, c1, a2, k2, c2, hcx⟩ := hc k hlt
        have hx := hxc _ (List.getElem_mem hlt)
        have hxl := lc _ (List.getElem_mem hlt)
        have HH := Lib.hid (lines_here ls k hlt)
        have j1 : (k : Int) < (ls.length : Int) := by omega
        have j2 : 0 ≤ (k : Int) := by omega
        have hk4 : k < 4 := by have := H2.out; omega
        clear hc
        generalize ls[k] = x at *
        obtain ⟨t, d, xs⟩ := x
        simp only at c0 c1 c2 hcx hx hxl
        have hw2 := hw.alloc hw.size (.cells #[.int .i64 t, .bool d, .slice a2 xs.length k2] 53)
        have q0 : (wr.alloc (.cells #[.int .i64 t, .bool d, .slice a2 xs.length k2] 53)).cell? ⟨wr.heap.size, 0, none⟩ = some (.int .i64 t) := by rw [World.cell?_alloc_at _ _ _ _ rfl]; rfl
        have q1 : (wr.alloc (.cells #[.int .i64 t, .bool d, .slice a2 xs.length k2] 53)).cell? ⟨wr.heap.size, 1, none⟩ = some (.bool d) := by rw [World.cell?_alloc_at _ _ _ _ rfl]; rfl
        have q2 : (wr.alloc (.cells #[.int .i64 t, .bool d, .slice a2 xs.length k2] 53)).cell? ⟨wr.heap.size, 2, none⟩ = some (.slice a2 xs.length k2) := by rw [World.cell?_alloc_at _ _ _ _ rfl]; rfl
        have hV := Lib.hid (ref04_all a2 xs k2 _ (hcx.later (Below.alloc (Below.refl wr.heap.size wr) (Nat.le_refl _) (.cells #[.int .i64 t, .bool d, .slice a2 xs.length k2] 53))) hx hxl)
        have hwB := hw1.trans (hw2.mono hw1.size)
        go_upto_region 6 with fail
        clear c0 c1 c2 hcx
        generalize wr.alloc (.cells #[.int .i64 t, .bool d, .slice a2 xs.length k2] 53) = W2 at *
        generalize wr.heap.size = B2 at *
        by_cases ht : t = -1
        · subst ht
          have HF := Lib.hid (lineOk_none (i := k) (x := ⟨-1, d, xs⟩) rfl)
          cases d with
          | true =>
            go_wp2
            go_ret
            exact ⟨ret_bool (by rw [HM.out, HE.out, HH.out, HF.out]; rfl), hwB⟩
          | false =>
            by_cases hx0 : xs.length = 0
            · have g0 : ¬ (0 : Int) < (xs.length : Int) := by omega
              clear hV
              go_wp2
              go_roundw
              case rel => exact ⟨k + 1, by omega, by go_num, by rw [HE.out, HH.out, HF.out, decide_eq_true hx0]; rfl, hw2⟩
              case measure => simp [intOf]; omega
            · have g0 : (0 : Int) < (xs.length : Int) := by omega
              clear hV
              go_wp2
              go_ret
              exact ⟨ret_bool (by rw [HM.out, HE.out, HH.out, HF.out, decide_eq_false hx0]; rfl), hwB⟩
        · have e1 : (t == -1) = false := by rw [beq_eq_false_iff_ne]; exact ht
          have HF := Lib.hid (lineOk_some (i := k) (x := ⟨t, d, xs⟩) ht)
          simp only at HF
          by_cases h3 : 0 ≤ t ∧ t < 128 ∧ t % 4 = (k : Int) ∧ xs.length = 4
          · have g0 : ¬ t < 0 := by omega
            have g1 : ¬ (128 : Int) ≤ t := by omega
            have g2 : (t % 4 != (k : Int)) = false := by rw [h3.2.2.1]; simp
            have g3 : ((xs.length : Int) != 4) = false := by simp; omega
            rw [decide_eq_true h3, Bool.true_and] at HF
            clear h3
            go_wp2_with fail
            refine hV.out.mono ?_
            rintro e w3 ⟨rfl, hb3⟩
            have hw3 := hw2.trans (hb3.mono hw2.size)
            cases hok : xs.all okW with
            | true =>
              go_wp2
              go_roundw
              case rel => exact ⟨k + 1, by omega, by go_num, by rw [HE.out, HH.out, HF.out, hok]; rfl, hw3⟩
              case measure => simp [intOf]; omega
            | false =>
              go_wp2
              go_ret
              exact ⟨ret_bool (by rw [HM.out, HE.out, HH.out, HF.out, hok]; rfl), hw1.trans (hw3.mono hw1.size)⟩
          · have HG : Hid (memOk ⟨cs, ls⟩ = false) := Lib.hid (by rw [HM.out, HE.out, HH.out, HF.out, decide_eq_false h3]; rfl)
            clear hV
            by_cases g0 : t < 0
            · go_wp2
              go_ret
              exact ⟨ret_bool HG.out.symm, hwB⟩
            · by_cases g1 : (128 : Int) ≤ t
              · go_wp2
                go_ret
                exact ⟨ret_bool HG.out.symm, hwB⟩
              · by_cases g2 : t % 4 = (k : Int)
                · have g2b : (t % 4 != (k : Int)) = false := by rw [g2]; simp
                  have g3 : ((xs.length : Int) != 4) = true := by simp; omega
                  go_wp2
                  go_ret
                  exact ⟨ret_bool HG.out.symm, hwB⟩
                · have g2b : (t % 4 != (k : Int)) = true := by simp; omega
                  go_wp2
                  go_ret
                  exact ⟨ret_bool HG.out.symm, hwB⟩
      · go_wp2
        go_ret
        exact ⟨ret_bool (by rw [HM.out, HE.out, lines_end _ _ (by omega)]), hw1.trans (hw.mono hw1.size)⟩
end Go.Proofs.Ytkffeibjleiaoaa
