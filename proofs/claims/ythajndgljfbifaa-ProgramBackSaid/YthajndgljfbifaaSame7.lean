/-
  Two programs in memory: the document's Same.
-/
import Derived.Test.YthajndgljfbifaaPgm
import Derived.Laws.StructEq
import Derived.BigQuiet
namespace Go.Proofs.Ythajndgljfbifaa
open Go.RowKit
set_option maxRecDepth 100000

def eqIns (x y : Ins) : Bool := x.op == y.op && x.a == y.a && x.b == y.b && x.c == y.c && x.imm == y.imm

theorem eqIns_iff (x y : Ins) : eqIns x y = true ↔ x = y := by
  obtain ⟨a, b, c, d, e⟩ := x
  obtain ⟨a', b', c', d', e'⟩ := y
  simp [eqIns, and_assoc]

theorem neq_ins7 (x y : Ins) (w : World) :
    (binOp .neq 66 (.agg #[.int .i64 x.op, .int .i64 x.a, .int .i64 x.b, .int .i64 x.c, .int .i64 x.imm]) (.agg #[.int .i64 y.op, .int .i64 y.a, .int .i64 y.b, .int .i64 y.c, .int .i64 y.imm])).run Try.prog w = .ok (.bool (!eqIns x y)) w := by
  unfold eqIns
  obtain ⟨p0, h0⟩ : ∃ p, (x.op == y.op) = p := ⟨_, rfl⟩
  obtain ⟨p1, h1⟩ : ∃ p, (x.a == y.a) = p := ⟨_, rfl⟩
  obtain ⟨p2, h2⟩ : ∃ p, (x.b == y.b) = p := ⟨_, rfl⟩
  obtain ⟨p3, h3⟩ : ∃ p, (x.c == y.c) = p := ⟨_, rfl⟩
  obtain ⟨p4, h4⟩ : ∃ p, (x.imm == y.imm) = p := ⟨_, rfl⟩
  rw [h0, h1, h2, h3, h4]
  cases p0 <;> cases p1 <;> cases p2 <;> cases p3 <;> cases p4
  all_goals go_simp

/-- Lists of equal length that are equal up to k. -/
def UpTo {α : Type} (l m : List α) (k : Nat) : Prop := ∀ i (h : i < l.length) (h2 : i < m.length), i < k → l[i] = m[i]

theorem UpTo.zero {α : Type} (l m : List α) : UpTo l m 0 := fun _ _ _ h => by omega
theorem UpTo.next {α : Type} {l m : List α} {k : Nat} (h : UpTo l m k) (h1 : k < l.length) (h2 : k < m.length) (he : l[k] = m[k]) : UpTo l m (k + 1) := fun i hi hi2 hik => by
  by_cases e : i = k
  · subst e; exact he
  · exact h i hi hi2 (by omega)
theorem UpTo.all {α : Type} {l m : List α} (h : UpTo l m l.length) (he : l.length = m.length) : l = m := List.ext_getElem he fun i h1 h2 => h i h1 h2 h1
theorem at_ne {α : Type} {l m : List α} {k : Nat} (h1 : k < l.length) (h2 : k < m.length) (hn : l[k] ≠ m[k]) : l ≠ m := by rintro rfl; exact hn rfl

/-- What two programs are that Same takes for equal. -/
def SamePg (C C' : List Ins) (s s' : List Int) (L L' : List (List Nat)) : Prop := C = C' ∧ s = s' ∧ L = L'

set_option maxHeartbeats 2000000 in
theorem ref07_Same (ac a2 ad ac' a2' ad' : Option Addr) (C C' : List Ins) (s s' : List Int) (L L' : List (List Nat)) (cc c2 cd cc' c2' cd' : Nat) (w : World) (hc : CodeAt w ac C) (hs : IntsAt .i64 w a2 s) (hd : DatAt w ad L) (hc' : CodeAt w ac' C') (hs' : IntsAt .i64 w a2' s') (hd' : DatAt w ad' L')
    (lc : C.length ≤ 1000000) (ls : s.length ≤ 1000000) (ld : L.length ≤ 1000000) (lr : ∀ l ∈ L, l.length ≤ 1000000) (lr' : ∀ l ∈ L', l.length ≤ 1000000) :
    Calls Try.prog 25 #[.agg #[.slice ac C.length cc, .slice a2 s.length c2, .slice ad L.length cd], .agg #[.slice ac' C'.length cc', .slice a2' s'.length c2', .slice ad' L'.length cd']] w (Says (SamePg C C' s s' L L') w) := by
  have hB1 := Below.alloc (Below.refl w.heap.size w) (Nat.le_refl _) (.cells #[.slice ac C.length cc, .slice a2 s.length c2, .slice ad L.length cd] 26)
  have hB := hB1.alloc hB1.size (.cells #[.slice ac' C'.length cc', .slice a2' s'.length c2', .slice ad' L'.length cd'] 26)
  have X0 := (Blk.new (W := w) #[.slice ac C.length cc, .slice a2 s.length c2, .slice ad L.length cd] 26).later (Below.alloc (Below.refl _ _) (Nat.le_refl _) (.cells #[.slice ac' C'.length cc', .slice a2' s'.length c2', .slice ad' L'.length cd'] 26))
  have X1 := Blk.new (W := w.alloc (.cells #[.slice ac C.length cc, .slice a2 s.length c2, .slice ad L.length cd] 26)) #[.slice ac' C'.length cc', .slice a2' s'.length c2', .slice ad' L'.length cd'] 26
  rw [show (w.alloc (.cells #[.slice ac C.length cc, .slice a2 s.length c2, .slice ad L.length cd] 26)).heap.size = w.heap.size + 1 by simp] at X1
  have hc0 := hc.later hB
  have hs0 := ints_later7 hs hB
  have hd0 := hd.later hB
  have hc1 := hc'.later hB
  have hs1 := ints_later7 hs' hB
  have hd1 := hd'.later hB
  have hno := Lib.hid (fun W (h : Below w.heap.size w W) (hn : ¬ SamePg C C' s s' L L') => says_no h hn)
  have hyes := Lib.hid (fun W (h : Below w.heap.size w W) (hn : SamePg C C' s s' L L') => says_yes h hn)
  clear hc hs hd hc' hs' hd' hB1
  go_enter Try.func25, Try.ntmps25
  go_upto_region 1 with fail
  generalize (w.alloc (.cells #[.slice ac C.length cc, .slice a2 s.length c2, .slice ad L.length cd] 26)).alloc (.cells #[.slice ac' C'.length cc', .slice a2' s'.length c2', .slice ad' L'.length cd'] 26) = W0 at *
  have p0 := (X0 0 (by simp)).1
  have p1 := (X0 1 (by simp)).1
  have p2 := (X0 2 (by simp)).1
  have r0 := (X1 0 (by simp)).1
  have r1 := (X1 1 (by simp)).1
  have r2 := (X1 2 (by simp)).1
  have HB := Lib.hid hB
  clear X0 X1 hB
  by_cases e1 : C.length = C'.length
  · by_cases e2 : s.length = s'.length
    · by_cases e3 : L.length = L'.length
      · have g1 : ((C.length : Int) != (C'.length : Int)) = false := by rw [bne_eq_false_iff_eq]; omega
        have g2 : ((s.length : Int) != (s'.length : Int)) = false := by rw [bne_eq_false_iff_eq]; omega
        have g3 : ((L.length : Int) != (L'.length : Int)) = false := by rw [bne_eq_false_iff_eq]; omega
        have E1 := Lib.hid e1
        have E2 := Lib.hid e2
        have E3 := Lib.hid e3
        clear e1 e2 e3
        go_wp2_with fail
        clear g1 g2 g3
        go_loopw [37] (fun c wr => ∃ k : Nat, k ≤ C.length ∧ c = .int .i64 k ∧ Below W0.heap.size W0 wr ∧ UpTo C C' k) (fun c _ => C.length - (intOf c).toNat)
        case atStart => exact ⟨0, by omega, rfl, Below.refl _ _, UpTo.zero _ _⟩
        obtain ⟨k, hk, rfl, hw, hu0⟩ := hrel
        have hu := Lib.hid hu0
        have hW := Lib.hid hw
        have HB1 := Lib.hid (HB.out.trans (hw.mono HB.out.size))
        have p0 := cell_later hw p0
        have p1 := cell_later hw p1
        have p2 := cell_later hw p2
        have r0 := cell_later hw r0
        have r1 := cell_later hw r1
        have r2 := cell_later hw r2
        by_cases hlt : k < C.length
        · have hlt' : k < C'.length := by have := E1.out; omega
          obtain ⟨b, o, rfl, hh⟩ := (hc0.later hw).some hlt
          obtain ⟨b', o', rfl, hh'⟩ := (hc1.later hw).some hlt'
          obtain ⟨q0, q1, q2, q3, q4⟩ := hh k hlt
          obtain ⟨t0, t1, t2, t3, t4⟩ := hh' k hlt'
          have HN : Hid (C[k] ≠ C'[k] → ¬ SamePg C C' s s' L L') := Lib.hid (fun hn h => at_ne hlt hlt' hn h.1)
          have HY : Hid (C[k] = C'[k] → UpTo C C' (k + 1)) := Lib.hid (fun he => hu.out.next hlt hlt' he)
          have i1 : (k : Int) < (C.length : Int) := by omega
          have i2 : (k : Int) < (C'.length : Int) := by omega
          have i3 : 0 ≤ (k : Int) := by omega
          generalize C[k] = x at *
          generalize C'[k] = y at *
          clear hh hh' hc0 hc1 hs0 hs1 hd0 hd1 hw hu0 hu hlt hlt'
          have hq := Lib.hid (eqIns_iff x y)
          have hneq := fun W => neq_ins7 x y W
          obtain ⟨q, hqe⟩ : ∃ q, eqIns x y = q := ⟨_, rfl⟩
          rw [hqe] at hq hneq
          clear hqe
          cases q with
          | false =>
            have HE := Lib.hid (HN.out (fun h => by have := hq.out.2 h; cases this))
            clear HN HY hq
            go_wp2_with fail
            go_quiet (fail)
            go_wp2
            go_ret
            exact hno.out _ (below_drewN HB1.out _) HE.out
          | true =>
            have HY2 := Lib.hid (HY.out (hq.out.1 rfl))
            clear HN HY hq
            go_wp2_with fail
            go_quiet (fail)
            go_wp2_with fail
            go_roundw
            case rel => exact ⟨k + 1, by omega, by go_num, below_drewN hW.out _, HY2.out⟩
            case measure => simp [intOf]; omega
        · obtain rfl : k = C.length := by omega
          have HC : Hid (C = C') := Lib.hid (hu.out.all E1.out)
          clear hu hu0 hlt hc0 hc1
          have HB1' := HB1
          have hs0 := ints_later7 hs0 hw
          have hs1 := ints_later7 hs1 hw
          have hd0 := hd0.later hw
          have hd1 := hd1.later hw
          clear hw hW HB
          go_wp2_with fail
          generalize wr = W1 at *
          go_loopw [55] (fun c wr => ∃ k : Nat, k ≤ s.length ∧ c = .int .i64 k ∧ Below W1.heap.size W1 wr ∧ UpTo s s' k) (fun c _ => s.length - (intOf c).toNat)
          case atStart => exact ⟨0, by omega, rfl, Below.refl _ _, UpTo.zero _ _⟩
          obtain ⟨k, hk, rfl, hw, hu0⟩ := hrel
          have hu := Lib.hid hu0
          have hW := Lib.hid hw
          have HB2 := Lib.hid (HB1.out.trans (hw.mono HB1.out.size))
          have p0 := cell_later hw p0
          have p1 := cell_later hw p1
          have p2 := cell_later hw p2
          have r0 := cell_later hw r0
          have r1 := cell_later hw r1
          have r2 := cell_later hw r2
          by_cases hlt : k < s.length
          · have hlt' : k < s'.length := by have := E2.out; omega
            have HN : Hid (s[k] ≠ s'[k] → ¬ SamePg C C' s s' L L') := Lib.hid (fun hn h => at_ne hlt hlt' hn h.2.1)
            have HY : Hid (s[k] = s'[k] → UpTo s s' (k + 1)) := Lib.hid (fun he => hu.out.next hlt hlt' he)
            obtain ⟨b, o, rfl, hh⟩ := (ints_later7 hs0 hw).some hlt
            obtain ⟨b', o', rfl, hh'⟩ := (ints_later7 hs1 hw).some hlt'
            have q0 := hh k hlt
            have t0 := hh' k hlt'
            have i1 : (k : Int) < (s.length : Int) := by omega
            have i2 : (k : Int) < (s'.length : Int) := by omega
            have i3 : 0 ≤ (k : Int) := by omega
            generalize s[k] = x at *
            generalize s'[k] = y at *
            clear hh hh' hs0 hs1 hd0 hd1 hw hu0 hu hlt hlt'
            by_cases hxy : x = y
            · have HY2 := Lib.hid (HY.out hxy)
              have g1 : (x != y) = false := by rw [bne_eq_false_iff_eq]; exact hxy
              clear HN HY hxy
              go_wp2_with fail
              go_quiet (fail)
              go_wp2_with fail
              go_roundw
              case rel => exact ⟨k + 1, by omega, by go_num, below_drewN hW.out _, HY2.out⟩
              case measure => simp [intOf]; omega
            · have HE := Lib.hid (HN.out hxy)
              have g1 : (x != y) = true := by rw [bne_iff_ne]; exact hxy
              clear HN HY hxy
              go_wp2_with fail
              go_quiet (fail)
              go_wp2
              go_ret
              exact hno.out _ (below_drewN HB2.out _) HE.out
          · obtain rfl : k = s.length := by omega
            have HS : Hid (s = s') := Lib.hid (hu.out.all E2.out)
            clear hu hu0 hlt
            have hd0 := hd0.later hw
            have hd1 := hd1.later hw
            clear hw hW HB1 hs0 hs1
            go_wp2_with fail
            generalize wr = W2 at *
            go_loopw [73] (fun c wr => ∃ k : Nat, k ≤ L.length ∧ c = .int .i64 k ∧ Below W2.heap.size W2 wr ∧ UpTo L L' k) (fun c _ => L.length - (intOf c).toNat)
            case atStart => exact ⟨0, by omega, rfl, Below.refl _ _, UpTo.zero _ _⟩
            obtain ⟨k, hk, rfl, hw, hu0⟩ := hrel
            have hu := Lib.hid hu0
            have hW := Lib.hid hw
            have HB3 := Lib.hid (HB2.out.trans (hw.mono HB2.out.size))
            have p2 := cell_later hw p2
            have r2 := cell_later hw r2
            by_cases hlt : k < L.length
            · have hlt' : k < L'.length := by have := E3.out; omega
              have HN : Hid (L[k] ≠ L'[k] → ¬ SamePg C C' s s' L L') := Lib.hid (fun hn h => at_ne hlt hlt' hn h.2.2)
              have HY : Hid (L[k] = L'[k] → UpTo L L' (k + 1)) := Lib.hid (fun he => hu.out.next hlt hlt' he)
              have lk := lr _ (List.getElem_mem hlt)
              have lk' := lr' _ (List.getElem_mem hlt')
              obtain ⟨b, o, rfl, hh⟩ := (hd0.later hw).some hlt
              obtain ⟨b', o', rfl, hh'⟩ := (hd1.later hw).some hlt'
              obtain ⟨a5, c5, q0, m0⟩ := hh k hlt
              obtain ⟨a6, c6, t0, m1⟩ := hh' k hlt'
              have i1 : (k : Int) < (L.length : Int) := by omega
              have i2 : (k : Int) < (L'.length : Int) := by omega
              have i3 : 0 ≤ (k : Int) := by omega
              generalize L[k] = x at *
              generalize L'[k] = y at *
              clear hh hh' hd0 hd1 hw hu0 hu hlt hlt' p0 p1 r0 r1
              by_cases hxy : x.length = y.length
              · have g1 : ((x.length : Int) != (y.length : Int)) = false := by rw [bne_eq_false_iff_eq]; omega
                go_upto_region 18 with fail
                go_quiet (fail)
                go_wp2_with fail
                clear g1
                have hb3 : Below wr.heap.size wr (wr.drewN nq) := below_drewN (Below.refl _ _) _
                have HW3 : Hid (Below W2.heap.size W2 (wr.drewN nq)) := Lib.hid (below_drewN hW.out _)
                have HB4 : Hid (Below w.heap.size w (wr.drewN nq)) := Lib.hid (below_drewN HB3.out _)
                have p2 := cell_later hb3 p2
                have r2 := cell_later hb3 r2
                have q0 := cell_later hb3 q0
                have t0 := cell_later hb3 t0
                have m0 := m0.later hb3
                have m1 := m1.later hb3
                clear hb3 hW HB3
                have XY := Lib.hid hxy
                clear hxy
                generalize wr.drewN nq = W3 at *
                go_loopw [95] (fun c wr => ∃ j : Nat, j ≤ x.length ∧ c = .int .i64 j ∧ Below W3.heap.size W3 wr ∧ UpTo x y j) (fun c _ => x.length - (intOf c).toNat)
                case atStart => exact ⟨0, by omega, rfl, Below.refl _ _, UpTo.zero _ _⟩
                obtain ⟨j, hj, rfl, hw, hu0⟩ := hrel
                have hu := Lib.hid hu0
                have hW4 := Lib.hid hw
                have HB5 := Lib.hid (HB4.out.trans (hw.mono HB4.out.size))
                have p2 := cell_later hw p2
                have r2 := cell_later hw r2
                have q0 := cell_later hw q0
                have t0 := cell_later hw t0
                by_cases hlt : j < x.length
                · have hlt' : j < y.length := by have := XY.out; omega
                  have HN1 : Hid (x[j] ≠ y[j] → ¬ SamePg C C' s s' L L') := Lib.hid (fun hn => HN.out (at_ne hlt hlt' hn))
                  have HY1 : Hid (x[j] = y[j] → UpTo x y (j + 1)) := Lib.hid (fun he => hu.out.next hlt hlt' he)
                  obtain ⟨b5, o5, rfl, hh⟩ := (m0.later hw).some hlt
                  obtain ⟨b6, o6, rfl, hh'⟩ := (m1.later hw).some hlt'
                  have q5 := hh j hlt
                  have t5 := hh' j hlt'
                  have j1 : (j : Int) < (x.length : Int) := by omega
                  have j2 : (j : Int) < (y.length : Int) := by omega
                  have j3 : 0 ≤ (j : Int) := by omega
                  generalize x[j] = u at *
                  generalize y[j] = v at *
                  clear hh hh' m0 m1 hw hu0 hu hlt hlt' HN HY
                  by_cases huv : u = v
                  · have HY2 := Lib.hid (HY1.out huv)
                    have g1 : ((u : Int) != (v : Int)) = false := by rw [bne_eq_false_iff_eq]; omega
                    clear HN1 HY1 huv
                    go_wp2_with fail
                    go_quiet (fail)
                    go_wp2_with fail
                    go_roundw
                    case rel => exact ⟨j + 1, by omega, by go_num, below_drewN hW4.out _, HY2.out⟩
                    case measure => simp [intOf]; omega
                  · have HE := Lib.hid (HN1.out huv)
                    have g1 : ((u : Int) != (v : Int)) = true := by rw [bne_iff_ne]; omega
                    clear HN1 HY1 huv
                    go_wp2_with fail
                    go_quiet (fail)
                    go_wp2
                    go_ret
                    exact hno.out _ (below_drewN HB5.out _) HE.out
                · obtain rfl : j = x.length := by omega
                  have HY2 := Lib.hid (HY.out (hu.out.all XY.out))
                  have HW5 := Lib.hid (HW3.out.trans (hw.mono HW3.out.size))
                  clear HN HY hu hu0 hlt hw hW4 m0 m1
                  have jn : ¬ x.length < y.length := by have := XY.out; omega
                  go_wp2_with fail
                  go_roundw
                  case rel => exact ⟨k + 1, by omega, by go_num, HW5.out, HY2.out⟩
                  case measure => simp [intOf]; omega
              · have HE := Lib.hid (HN.out (fun h => hxy (by rw [h])))
                have g1 : ((x.length : Int) != (y.length : Int)) = true := by rw [bne_iff_ne]; omega
                clear HN HY hxy m0 m1
                go_wp2_with fail
                go_quiet (fail)
                go_wp2
                go_ret
                exact hno.out _ (below_drewN HB3.out _) HE.out
            · obtain rfl : k = L.length := by omega
              have HE : Hid (SamePg C C' s s' L L') := Lib.hid ⟨HC.out, HS.out, hu.out.all E3.out⟩
              clear hu hu0 hlt hd0 hd1
              go_wp2
              go_ret
              exact hyes.out _ HB3.out HE.out
      · have g1 : ((C.length : Int) != (C'.length : Int)) = false := by rw [bne_eq_false_iff_eq]; omega
        have g2 : ((s.length : Int) != (s'.length : Int)) = false := by rw [bne_eq_false_iff_eq]; omega
        have g3 : ((L.length : Int) != (L'.length : Int)) = true := by rw [bne_iff_ne]; omega
        have HE := Lib.hid (hno.out _ HB.out (fun h => e3 (by rw [h.2.2])))
        clear e1 e2 e3
        go_wp2
        go_ret
        exact HE.out
    · have g1 : ((C.length : Int) != (C'.length : Int)) = false := by rw [bne_eq_false_iff_eq]; omega
      have g2 : ((s.length : Int) != (s'.length : Int)) = true := by rw [bne_iff_ne]; omega
      have HE := Lib.hid (hno.out _ HB.out (fun h => e2 (by rw [h.2.1])))
      clear e1 e2
      go_wp2
      go_ret
      exact HE.out
  · have g1 : ((C.length : Int) != (C'.length : Int)) = true := by rw [bne_iff_ne]; omega
    have HE := Lib.hid (hno.out _ HB.out (fun h => e1 (by rw [h.1])))
    clear e1
    go_wp2
    go_ret
    exact HE.out
end Go.Proofs.Ythajndgljfbifaa
