/-
  Contract: the document's own Resolve.
-/
import Derived.Test.YtaigkplalcnelaaLay1
import Derived.Test.YtaigkplalcnelaaLayRes
namespace Go.Proofs.Ytaigkplalcnelaa
open Go.RowKit

set_option maxHeartbeats 1000000 in
theorem ref03_Resolve (a : Option Addr) (bs : List Int) (ca : Nat) (key : Int) (b : Option Addr) (s : List Nat) (cb : Nat) (x : Int) (w : World) (hs : Sz s) (hv : LV bs s) (ha : IntsAt .i64 w a bs) (hb : NatsAt .i64 w b s) :
    Calls Try.prog 9 #[.agg #[.slice a bs.length ca, .int .u16 key], .slice b s.length cb, .int .i64 x] w fun e w' => e = .returned (.tuple #[.agg #[.int .i64 (resR bs s x), .int .i64 (resOf bs s x)], .bool (resB bs s x)]) ∧ Below w.heap.size w w' := by
  have hA := Below.alloc (Below.refl w.heap.size w) (Nat.le_refl _) (.cells #[.slice a bs.length ca, .int .u16 key] 32)
  have hB := Below.alloc hA (by simp) (.cells #[.int .i64 0, .int .i64 0] 46)
  have hl4 : bs.length ≤ 4 := by have := hs.2.1; have := hv.1; omega
  have HS := Lib.hid hs
  have HL := Lib.hid hv
  have ha1 := ha.later hB
  have hb1 := hb.later hB
  clear hs hv ha hb
  go_enter Try.func9, Try.ntmps9
  go_wp2
  go_loop [7, 8, 9, 13] (fun _ _ _ c => ∃ k : Nat, k ≤ bs.length ∧ c = .int .i64 k ∧ resF 0 bs s x = resF k (bs.drop k) (s.drop k) x) (fun _ _ _ c => bs.length - (intOf c).toNat)
  case atStart => exact ⟨0, by omega, rfl, rfl⟩
  case round =>
    obtain ⟨k, hk, rfl, heq⟩ := hrel
    have HE := Lib.hid heq
    clear heq
    by_cases hlt : k < bs.length
    · have hsk : k < s.length := by have := HL.out.1; omega
      obtain ⟨b1, o1, rfl, hc⟩ := ha1.some hlt
      obtain ⟨b2, o2, rfl, hd⟩ := hb1.some hsk
      have c1 := hc k hlt
      have c2 := hd k hsk
      clear hc hd
      have i1 : (k : Int) < (bs.length : Int) := by omega
      have i2 : (k : Int) < (s.length : Int) := by omega
      have i3 : 0 ≤ (k : Int) := by omega
      have hR := (inr_at hlt hsk).1 (HL.out.2.1 k hlt)
      have hH := Lib.hid (resF_here bs s k x hlt hsk)
      have hN := Lib.hid (resF_next bs s k x hlt hsk)
      have hy := (HS.out.2.2 _ (List.getElem_mem hsk)).2
      generalize bs[k] = z at *
      generalize s[k] = y at *
      clear hsk
      by_cases h1 : z ≤ x
      · by_cases h2 : x < z + (y : Int)
        · have HO : Hid (resO bs s x = some (k, (x - z).toNat)) := Lib.hid (HE.out.trans (hH.out ⟨h1, h2⟩))
          go_wp2
          obtain ⟨e1, e2, e3⟩ := res_some HO.out
          refine bodyPost_ret (v := .tuple #[.agg #[.int .i64 (k : Int), .int .i64 (x - z)], .bool true]) (by simp [results, Try.results9, go_sem]) rfl ⟨by rw [e1, e2, e3, Int.toNat_of_nonneg (by omega)], ?_⟩
          exact Below.alloc hA (by simp) _
        · have HO := Lib.hid (HE.out.trans (hN.out (fun h => h2 h.2)))
          go_wp2
          go_round
          case rel => exact ⟨k + 1, by omega, by go_num, HO.out⟩
          case measure => simp [intOf]; omega
      · have HO := Lib.hid (HE.out.trans (hN.out (fun h => h1 h.1)))
        have h1b : ¬ z ≤ x := h1
        go_wp2
        go_round
        case rel => exact ⟨k + 1, by omega, by go_num, HO.out⟩
        case measure => simp [intOf]; omega
    · have HO : Hid (resO bs s x = none) := Lib.hid (HE.out.trans (resF_end bs s k x (by omega)))
      go_wp2
      obtain ⟨e1, e2, e3⟩ := res_none HO.out
      refine bodyPost_ret (v := .tuple #[.agg #[.int .i64 0, .int .i64 0], .bool false]) (by simp [results, Try.results9, go_sem]) rfl ⟨by rw [e1, e2, e3], ?_⟩
      exact Below.alloc hA (by simp) _
end Go.Proofs.Ytaigkplalcnelaa
