/-
  Contract: Canon.
-/
import Derived.Test.YtpjaflcljnfjmaaLay9
namespace Go.Proofs.Ytpjaflcljnfjmaa
open Go.RowKit

/-- The canonical cell of a cell: value, region, offset (the tag is the cell's own). -/
def canV (key t v : Nat) : Nat := if t = 2 then (v + 65536 - key) % 65536 else if t = 1 then 0 else v
def canR (bs : List Int) (s : List Nat) (t v : Nat) : Int := if t = 1 then cpR bs s (v : Int) else 0
def canO (bs : List Int) (s : List Nat) (t v : Nat) : Int := if t = 1 then cpO bs s (v : Int) else 0

theorem wrap_sub16 (v key : Nat) (hv : v < 65536) (hk : key < 65536) : IntKind.u16.wrap ((v : Int) - (key : Int)) = (((v + 65536 - key) % 65536 : Nat) : Int) := by
  rw [IntKind.wrap_u16]; omega

set_option maxHeartbeats 1000000 in
theorem layout_Canon (a : Option Addr) (bs : List Int) (ca : Nat) (key : Nat) (b : Option Addr) (s : List Nat) (cb : Nat) (t v : Nat) (w : World) (hk : key < 65536) (ht : t < 256) (hv6 : v < 65536) (hs : Sz s) (hv : LV bs s) (ha : IntsAt .i64 w a bs) (hb : NatsAt .i64 w b s) :
    Calls Try.prog 21 #[.agg #[.slice a bs.length ca, .int .u16 (key : Int)], .slice b s.length cb, .agg #[.int .u8 (t : Int), .int .u16 (v : Int)]] w fun e w' => e = .returned (.agg #[.int .u8 (t : Int), .int .u16 ((canV key t v : Nat) : Int), .int .i64 (canR bs s t v), .int .i64 (canO bs s t v)]) ∧ Below w.heap.size w w' := by
  have hA := Below.alloc (Below.refl w.heap.size w) (Nat.le_refl _) (.cells #[.slice a bs.length ca, .int .u16 (key : Int)] 25)
  have hB := Below.alloc hA (by simp) (.cells #[.int .u8 (t : Int), .int .u16 (v : Int)] 51)
  by_cases h2 : t = 2
  · subst h2
    have e1 : canV key 2 v = (v + 65536 - key) % 65536 := rfl
    have e2 : canR bs s 2 v = 0 := rfl
    have e3 : canO bs s 2 v = 0 := rfl
    have e4 := wrap_sub16 v key hv6 hk
    rw [e1, e2, e3]
    generalize (v + 65536 - key) % 65536 = c at *
    clear e1 e2 e3 ha hb hs hv
    go_enter Try.func21, Try.ntmps21
    go_wp2
    refine bodyPost_ret (v := .agg #[.int .u8 2, .int .u16 (c : Int), .int .i64 0, .int .i64 0]) (by simp [results, Try.results21, go_sem]) rfl ⟨rfl, ?_⟩
    exact Below.alloc hB (by simp; omega) _
  · by_cases h1 : t = 1
    · subst h1
      have e1 : canV key 1 v = 0 := rfl
      have e2 : canR bs s 1 v = cpR bs s (v : Int) := rfl
      have e3 : canO bs s 1 v = cpO bs s (v : Int) := rfl
      rw [e1, e2, e3]
      have hC := Below.alloc hB (by simp; omega) (.cells #[.int .u8 0, .int .u16 0, .int .i64 0, .int .i64 0] 48)
      have hbox := BoxN.new4 ((w.alloc (.cells #[.slice a bs.length ca, .int .u16 (key : Int)] 25)).alloc (.cells #[.int .u8 ((1 : Nat) : Int), .int .u16 (v : Int)] 51)) (.int .u8 0) (.int .u16 0) (.int .i64 0) (.int .i64 0) 48
      have hQ := Lib.hid (layout_canonicalPointer a bs ca (key : Int) b s cb (v : Int) _ hs hv (ha.later hC) (hb.later hC))
      have hsz : ((w.alloc (.cells #[.slice a bs.length ca, .int .u16 (key : Int)] 25)).alloc (.cells #[.int .u8 ((1 : Nat) : Int), .int .u16 (v : Int)] 51)).heap.size = w.heap.size + 2 := by simp
      rw [hsz] at hbox
      generalize cpR bs s (v : Int) = r at *
      generalize cpO bs s (v : Int) = o at *
      clear e1 e2 e3 ha hb hs hv h2 hsz
      go_enter Try.func21, Try.ntmps21
      go_wp2_with fail
      refine hQ.out.mono ?_
      rintro e w1 ⟨rfl, hb1⟩
      have hw1 := hC.trans (hb1.mono (by simp; omega))
      have bx := hbox.below hb1 (by simp)
      obtain ⟨⟨p0, k0⟩, g0⟩ := bx 0 (by omega)
      obtain ⟨⟨p1, k1⟩, g1⟩ := bx 1 (by omega)
      obtain ⟨⟨p2, k2⟩, g2⟩ := bx 2 (by omega)
      obtain ⟨⟨p3, k3⟩, g3⟩ := bx 3 (by omega)
      have hfin := (((hw1.setCell (p := ⟨w.heap.size + 2, 0, none⟩) (by simp) (.int .u8 1)).setCell (p := ⟨w.heap.size + 2, 1, none⟩) (by simp) (.int .u16 0)).setCell (p := ⟨w.heap.size + 2, 2, none⟩) (by simp) (.int .i64 r)).setCell (p := ⟨w.heap.size + 2, 3, none⟩) (by simp) (.int .i64 o)
      have HF := Lib.hid hfin
      clear hfin hw1 bx hb1 hbox hA hB hC
      go_wp2
      refine bodyPost_ret (v := .agg #[.int .u8 1, .int .u16 0, .int .i64 r, .int .i64 o]) (by simp [results, Try.results21, go_sem, k0, k1, k2, k3]) rfl ⟨rfl, HF.out⟩
    · have e1 : canV key t v = v := by unfold canV; rw [if_neg h2, if_neg h1]
      have e2 : canR bs s t v = 0 := by unfold canR; rw [if_neg h1]
      have e3 : canO bs s t v = 0 := by unfold canO; rw [if_neg h1]
      have g1 : ((t : Int) == 1) = false := by rw [beq_eq_false_iff_ne]; omega
      have g2 : ((t : Int) == 2) = false := by rw [beq_eq_false_iff_ne]; omega
      rw [e1, e2, e3]
      clear e1 e2 e3 ha hb hs hv
      go_enter Try.func21, Try.ntmps21
      go_wp2
      refine bodyPost_ret (v := .agg #[.int .u8 (t : Int), .int .u16 (v : Int), .int .i64 0, .int .i64 0]) (by simp [results, Try.results21, go_sem]) rfl ⟨rfl, ?_⟩
      exact Below.alloc hB (by simp; omega) _
end Go.Proofs.Ytpjaflcljnfjmaa
