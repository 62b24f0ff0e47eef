/-
  Contract: Resolve.
-/
import Derived.Test.YtpjaflcljnfjmaaLay7
namespace Go.Proofs.Ytpjaflcljnfjmaa
open Go.RowKit

set_option maxHeartbeats 1000000 in
theorem layout_Resolve (a : Option Addr) (bs : List Int) (ca : Nat) (key : Int) (b : Option Addr) (s : List Nat) (cb : Nat) (x : Int) (w : World) (hs : Sz s) (hv : LV bs s) (ha : IntsAt .i64 w a bs) (hb : NatsAt .i64 w b s) :
    Calls Try.prog 15 #[.agg #[.slice a bs.length ca, .int .u16 key], .slice b s.length cb, .int .i64 x] w fun e w' => e = .returned (.tuple #[.agg #[.int .i64 (resR bs s x), .int .i64 (resOf bs s x)], .bool (resB bs s x)]) ∧ Below w.heap.size w w' := by
  have hA := Below.alloc (Below.refl w.heap.size w) (Nat.le_refl _) (.cells #[.slice a bs.length ca, .int .u16 key] 25)
  have hB := Below.alloc hA (by simp) (.cells #[.int .i64 0, .int .i64 0] 39)
  by_cases hx : x < 0 ∨ 512 ≤ x
  · obtain ⟨e1, e2, e3⟩ := res_none (res_out hv hx)
    rw [e1, e2, e3]
    clear e1 e2 e3 ha hb hs hv
    by_cases h1 : x < 0
    · clear hx
      go_enter Try.func15, Try.ntmps15
      go_wp2
      refine bodyPost_ret (v := .tuple #[.agg #[.int .i64 0, .int .i64 0], .bool false]) (by simp [results, Try.results15, go_sem]) rfl ⟨rfl, ?_⟩
      exact Below.alloc hA (by simp) _
    · have h2 : 512 ≤ x := by omega
      clear hx
      go_enter Try.func15, Try.ntmps15
      go_wp2
      refine bodyPost_ret (v := .tuple #[.agg #[.int .i64 0, .int .i64 0], .bool false]) (by simp [results, Try.results15, go_sem]) rfl ⟨rfl, ?_⟩
      exact Below.alloc hA (by simp) _
  · have h1 : 0 ≤ x := by omega
    have h2 : x < 512 := by omega
    clear hx
    have HV := Lib.hid (layout_Valid_true a bs ca key b s cb _ hs hv (ha.later hB) (hb.later hB))
    have HI := Lib.hid (fun (r o : Int) W (h : Below w.heap.size w W) => region_Inside b s cb r o W hs (hb.later h))
    have hl4 : bs.length ≤ 4 := by have := hs.2.1; have := hv.1; omega
    have HS := Lib.hid hs
    have HL := Lib.hid hv
    clear hs hv hb
    go_enter Try.func15, Try.ntmps15
    go_wp2_with fail
    refine HV.out.mono ?_
    rintro e w1 ⟨rfl, hb1⟩
    have p0 : w1.cell? ⟨w.heap.size, 0, none⟩ = some (.slice a bs.length ca) := (hb1.cell (p := ⟨w.heap.size, 0, none⟩) (by simp; omega)).trans (by go_simp)
    go_wp2
    go_loopw [7, 8, 9, 10, 27] (fun _ _ _ _ c wr => ∃ k : Nat, k ≤ bs.length ∧ c = .int .i64 k ∧ resF 0 bs s x = resF k (bs.drop k) (s.drop k) x ∧ Below (w.heap.size + 2) ((w.alloc (.cells #[.slice a bs.length ca, .int .u16 key] 25)).alloc (.cells #[.int .i64 0, .int .i64 0] 39)) wr) (fun _ _ _ _ c _ => bs.length - (intOf c).toNat)
    case atStart => exact ⟨0, by omega, rfl, rfl, by simpa using hb1⟩
    case round =>
      clear hb1 p0
      obtain ⟨k, hk, rfl, heq, hw⟩ := hrel
      have HE := Lib.hid heq
      clear heq
      have hws : Below w.heap.size w wr := hB.trans (hw.mono (by omega))
      have hsz : w.heap.size + 2 ≤ wr.heap.size := by have := hw.size; simpa using this
      have k0 : wr.cell? ⟨w.heap.size + 1, 0, none⟩ = some (.int .i64 0) := (hw.cell (p := ⟨w.heap.size + 1, 0, none⟩) (by simp)).trans (by go_simp)
      have k1 : wr.cell? ⟨w.heap.size + 1, 1, none⟩ = some (.int .i64 0) := (hw.cell (p := ⟨w.heap.size + 1, 1, none⟩) (by simp)).trans (by go_simp)
      have k2 : wr.frozen? ⟨w.heap.size + 1, 0, none⟩ = false := (hw.frozen (p := ⟨w.heap.size + 1, 0, none⟩) (by simp)).trans (by go_simp)
      have k3 : wr.frozen? ⟨w.heap.size + 1, 1, none⟩ = false := (hw.frozen (p := ⟨w.heap.size + 1, 1, none⟩) (by simp)).trans (by go_simp)
      by_cases hlt : k < bs.length
      · have hsk : k < s.length := by have := HL.out.1; omega
        obtain ⟨b1, o1, rfl, hc⟩ := ha.some hlt
        have c1 := cell_later hws (hc k hlt)
        clear hc
        have i1 : (k : Int) < (bs.length : Int) := by omega
        have hR := (inr_at hlt hsk).1 (HL.out.2.1 k hlt)
        have hH := Lib.hid (resF_here bs s k x hlt hsk)
        have hN := Lib.hid (resF_next bs s k x hlt hsk)
        have hI := ins_at hsk (x - bs[k])
        have hy := (HS.out.2.2 _ (List.getElem_mem hsk)).2
        generalize bs[k] = z at *
        generalize s[k] = y at *
        have HB : Below w.heap.size w (wr.alloc (.cells #[.int .i64 (k : Int), .int .i64 (x - z)] 39)) := hws.alloc hws.size _
        have hQ := HI.out (k : Int) (x - z) _ HB
        rw [hI] at hQ
        clear hI HI hsk
        by_cases hj : z ≤ x ∧ x < z + (y : Int)
        · rw [decide_eq_true (show 0 ≤ x - z ∧ x - z < (y : Int) by omega)] at hQ
          have HO : Hid (resO bs s x = some (k, (x - z).toNat)) := Lib.hid (HE.out.trans (hH.out hj))
          have HQ := Lib.hid hQ
          clear hQ
          go_wp2_with fail
          refine HQ.out.mono ?_
          rintro e w2 ⟨rfl, hb2⟩
          obtain ⟨q0, q1⟩ := boxed hb2 (by simp)
          have K0 := cell_later (hb2.mono (by simp)) (cell_later ((Below.refl _ _).alloc (Nat.le_refl _) (.cells #[.int .i64 (k : Int), .int .i64 (x - z)] 39)) k0)
          have K1 := cell_later (hb2.mono (by simp)) (cell_later ((Below.refl _ _).alloc (Nat.le_refl _) (.cells #[.int .i64 (k : Int), .int .i64 (x - z)] 39)) k1)
          have hw2 := HB.trans (hb2.mono (by simp; omega))
          have F0 : w2.frozen? ⟨w.heap.size + 1, 0, none⟩ = false := (hb2.frozen (p := ⟨w.heap.size + 1, 0, none⟩) (by simp; omega)).trans ((((Below.refl wr.heap.size wr).alloc (Nat.le_refl _) _).frozen (p := ⟨w.heap.size + 1, 0, none⟩) (by show w.heap.size + 1 < _; omega)).trans k2)
          have F1 : w2.frozen? ⟨w.heap.size + 1, 1, none⟩ = false := (hb2.frozen (p := ⟨w.heap.size + 1, 1, none⟩) (by simp; omega)).trans ((((Below.refl wr.heap.size wr).alloc (Nat.le_refl _) _).frozen (p := ⟨w.heap.size + 1, 1, none⟩) (by show w.heap.size + 1 < _; omega)).trans k3)
          have hsz2 : w.heap.size + 1 < w2.heap.size := World.block_lt_of_cell? _ _ K0
          have hfin := (hw2.setCell (p := ⟨w.heap.size + 1, 0, none⟩) (by simp) (.int .i64 (k : Int))).setCell (p := ⟨w.heap.size + 1, 1, none⟩) (by simp) (.int .i64 (x - z))
          have HF := Lib.hid hfin
          clear hfin hw2 hb2 k0 k1 k2 k3 HB hws hw
          go_wp2
          obtain ⟨e1, e2, e3⟩ := res_some HO.out
          refine bodyPost_ret (v := .tuple #[.agg #[.int .i64 (k : Int), .int .i64 (x - z)], .bool true]) (by simp [results, Try.results15, go_sem, K0, K1]) rfl ⟨by rw [e1, e2, e3, Int.toNat_of_nonneg (by omega)], HF.out⟩
        · rw [decide_eq_false (show ¬ (0 ≤ x - z ∧ x - z < (y : Int)) by omega)] at hQ
          have HO := Lib.hid (HE.out.trans (hN.out hj))
          have HQ := Lib.hid hQ
          clear hQ hj
          go_wp2_with fail
          refine HQ.out.mono ?_
          rintro e w2 ⟨rfl, hb2⟩
          have hw2 := (hw.alloc hsz (.cells #[.int .i64 (k : Int), .int .i64 (x - z)] 39)).trans (hb2.mono (by simp; omega))
          clear k0 k1 k2 k3 HB hws hw hb2
          go_wp2
          go_roundw
          case rel => exact ⟨k + 1, by omega, by go_num, HO.out, hw2⟩
          case measure => simp [intOf]; omega
      · have HO : Hid (resO bs s x = none) := Lib.hid (HE.out.trans (resF_end bs s k x (by omega)))
        have hfin := (hws.setCell (p := ⟨w.heap.size + 1, 0, none⟩) (by simp) (.int .i64 0)).setCell (p := ⟨w.heap.size + 1, 1, none⟩) (by simp) (.int .i64 0)
        have HF := Lib.hid hfin
        clear hfin HI
        go_wp2
        obtain ⟨e1, e2, e3⟩ := res_none HO.out
        refine bodyPost_ret (v := .tuple #[.agg #[.int .i64 0, .int .i64 0], .bool false]) (by simp [results, Try.results15, go_sem, k0, k1]) rfl ⟨by rw [e1, e2, e3], HF.out⟩
end Go.Proofs.Ytpjaflcljnfjmaa
