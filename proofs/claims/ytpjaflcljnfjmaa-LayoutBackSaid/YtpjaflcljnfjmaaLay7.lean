/-
  Contracts: Resolve and Address.
-/
import Derived.Test.YtpjaflcljnfjmaaLay2
import Derived.Test.YtpjaflcljnfjmaaLayRes
import Derived.Test.YtpjaflcljnfjmaaReg4
namespace Go.Proofs.Ytpjaflcljnfjmaa
open Go.RowKit

theorem layB_true {bs : List Int} {s : List Nat} (hs : Sz s) (h : LV bs s) : layB bs (s.map fun x : Nat => (x : Int)) = true := by
  rw [layB_nat bs hs]; exact decide_eq_true h

/-- Valid of a valid layout. -/
theorem layout_Valid_true (a : Option Addr) (bs : List Int) (ca : Nat) (key : Int) (b : Option Addr) (s : List Nat) (cb : Nat) (w : World) (hs : Sz s) (hv : LV bs s) (ha : IntsAt .i64 w a bs) (hb : NatsAt .i64 w b s) :
    Calls Try.prog 11 #[.agg #[.slice a bs.length ca, .int .u16 key], .slice b s.length cb] w fun e w' => e = .returned (.bool true) ∧ Below w.heap.size w w' := by
  have h4 := hs.2.1
  have h1 := hv.1
  have := layout_Valid a bs ca key b (s.map fun x : Nat => (x : Int)) cb w (by omega) (by rw [List.length_map]; omega) ha hb.ints
  rw [layB_true hs hv, List.length_map] at this
  exact this

set_option maxHeartbeats 1000000 in
theorem layout_Address (a : Option Addr) (bs : List Int) (ca : Nat) (key : Int) (b : Option Addr) (s : List Nat) (cb : Nat) (r o : Int) (w : World) (hs : Sz s) (hv : LV bs s) (ha : IntsAt .i64 w a bs) (hb : NatsAt .i64 w b s) :
    Calls Try.prog 16 #[.agg #[.slice a bs.length ca, .int .u16 key], .slice b s.length cb, .agg #[.int .i64 r, .int .i64 o]] w fun e w' => e = .returned (.tuple #[.int .i64 (adr bs s r o), .int .i64 (adrE s r o)]) ∧ Below w.heap.size w w' := by
  have hB := Below.alloc (Below.alloc (Below.refl w.heap.size w) (Nat.le_refl _) (.cells #[.slice a bs.length ca, .int .u16 key] 25)) (by simp) (.cells #[.int .i64 r, .int .i64 o] 39)
  have HV := Lib.hid (layout_Valid_true a bs ca key b s cb _ hs hv (ha.later hB) (hb.later hB))
  have HI := Lib.hid (fun W (h : Below w.heap.size w W) => region_Inside b s cb r o W hs (hb.later h))
  rcases ins_split s r o with hi | ⟨k, j, hk, rfl, rfl, h4, hi⟩
  · obtain ⟨e1, e2⟩ := adr_out (bs := bs) hi
    rw [e1, e2]
    rw [hi] at HI
    clear e1 e2 hi ha hb hs hv
    go_enter Try.func16, Try.ntmps16
    go_wp2_with fail
    refine HV.out.mono ?_
    rintro e w1 ⟨rfl, hb1⟩
    have hs1 := hb1.size
    have hw1 := hB.trans (hb1.mono (by simp; omega))
    have q0 : w1.cell? ⟨w.heap.size + 1, 0, none⟩ = some (.int .i64 r) := (hb1.cell (p := ⟨w.heap.size + 1, 0, none⟩) (by simp)).trans (by go_simp)
    have q1 : w1.cell? ⟨w.heap.size + 1, 1, none⟩ = some (.int .i64 o) := (hb1.cell (p := ⟨w.heap.size + 1, 1, none⟩) (by simp)).trans (by go_simp)
    go_wp2_with fail
    refine (HI.out _ hw1).mono ?_
    rintro e w2 ⟨rfl, hb2⟩
    have hw2 := hw1.trans (hb2.mono hw1.size)
    go_wp2
    go_ret2
    exact ⟨rfl, hw2⟩
  · obtain ⟨e1, e2⟩ := adr_in (bs := bs) hi
    have hkb : k < bs.length := by have := hv.1; omega
    rw [e1, e2, Int.toNat_natCast, getD_at bs 0 hkb]
    rw [hi] at HI
    have hR := (inr_at hkb hk).1 (hv.2.1 k hkb)
    have hj32 := (hs.2.2 _ (List.getElem_mem hk)).2
    obtain ⟨b1, o1, rfl, hc⟩ := ha.some hkb
    have c0 := hc k hkb
    clear e1 e2 hi ha hb hs hv hc
    generalize bs[k] = x at *
    generalize s[k] = y at *
    have i1 : (k : Int) < (bs.length : Int) := by omega
    have i2 : 0 ≤ (k : Int) := by omega
    go_enter Try.func16, Try.ntmps16
    go_wp2_with fail
    refine HV.out.mono ?_
    rintro e w1 ⟨rfl, hb1⟩
    have hs1 := hb1.size
    have hw1 := hB.trans (hb1.mono (by simp; omega))
    have q0 : w1.cell? ⟨w.heap.size + 1, 0, none⟩ = some (.int .i64 (k : Int)) := (hb1.cell (p := ⟨w.heap.size + 1, 0, none⟩) (by simp)).trans (by go_simp)
    have q1 : w1.cell? ⟨w.heap.size + 1, 1, none⟩ = some (.int .i64 (j : Int)) := (hb1.cell (p := ⟨w.heap.size + 1, 1, none⟩) (by simp)).trans (by go_simp)
    have q2 : w1.cell? ⟨w.heap.size, 0, none⟩ = some (.slice (some ⟨b1, o1, none⟩) bs.length ca) := (hb1.cell (p := ⟨w.heap.size, 0, none⟩) (by simp; omega)).trans (by go_simp)
    go_wp2_with fail
    refine (HI.out _ hw1).mono ?_
    rintro e w2 ⟨rfl, hb2⟩
    have hw2 := hw1.trans (hb2.mono hw1.size)
    have c1 := cell_later hw2 c0
    have r0 := cell_later hb2 q0
    have r1 := cell_later hb2 q1
    have r2 := cell_later hb2 q2
    clear q0 q1 q2 c0
    go_wp2
    go_quiet (fail)
    go_wp2
    go_ret2
    exact ⟨rfl, below_drewN hw2 _⟩
end Go.Proofs.Ytpjaflcljnfjmaa
