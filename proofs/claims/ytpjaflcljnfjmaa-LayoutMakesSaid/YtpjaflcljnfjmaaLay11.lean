/-
  Contracts: rawPointer and Raw.
-/
import Derived.Test.YtpjaflcljnfjmaaLay10
namespace Go.Proofs.Ytpjaflcljnfjmaa
open Go.RowKit

/-- A canonical cell is proper. -/
def rawOK (s : List Nat) (t v : Nat) (r o : Int) : Bool :=
  if t = 1 then decide (v = 0) && insB s r o else decide (r = 0 ∧ o = 0 ∧ (t = 0 ∨ t = 2))

/-- What Raw answers: tag, value, error. -/
def rawT (s : List Nat) (t v : Nat) (r o : Int) : Nat := if rawOK s t v r o then t else 0
def rawV (bs : List Int) (s : List Nat) (key t v : Nat) (r o : Int) : Nat :=
  if rawOK s t v r o then (if t = 1 then (adr bs s r o).toNat else if t = 2 then (v + key) % 65536 else v) else 0
def rawE (s : List Nat) (t v : Nat) (r o : Int) : Int := if rawOK s t v r o then 0 else 1

theorem raw_bad {bs : List Int} {s : List Nat} {key t v : Nat} {r o : Int} (h : rawOK s t v r o = false) : rawT s t v r o = 0 ∧ rawV bs s key t v r o = 0 ∧ rawE s t v r o = 1 := by
  unfold rawT rawV rawE; rw [h]; exact ⟨rfl, rfl, rfl⟩

theorem raw_ptr {bs : List Int} {s : List Nat} {key : Nat} {r o : Int} (h : insB s r o = true) : rawT s 1 0 r o = 1 ∧ rawV bs s key 1 0 r o = (adr bs s r o).toNat ∧ rawE s 1 0 r o = 0 := by
  have h2 : rawOK s 1 0 r o = true := by unfold rawOK; simp [h]
  unfold rawT rawV rawE; rw [h2]; exact ⟨rfl, rfl, rfl⟩

theorem raw_num {bs : List Int} {s : List Nat} {key v : Nat} : rawT s 0 v 0 0 = 0 ∧ rawV bs s key 0 v 0 0 = v ∧ rawE s 0 v 0 0 = 0 := ⟨rfl, rfl, rfl⟩
theorem raw_handle {bs : List Int} {s : List Nat} {key v : Nat} : rawT s 2 v 0 0 = 2 ∧ rawV bs s key 2 v 0 0 = (v + key) % 65536 ∧ rawE s 2 v 0 0 = 0 := ⟨rfl, rfl, rfl⟩

theorem adr_range {bs : List Int} {s : List Nat} (hv : LV bs s) {r o : Int} (h : insB s r o = true) : 0 ≤ adr bs s r o ∧ adr bs s r o < 512 := by
  rcases ins_split s r o with hi | ⟨k, j, hk, rfl, rfl, h4, hi⟩
  · rw [hi] at h; cases h
  · rw [(adr_in (bs := bs) hi).1, Int.toNat_natCast]
    exact holds_range hv (ins_holds hv.1 hk h4)

set_option maxHeartbeats 1000000 in
theorem layout_rawPointer (a : Option Addr) (bs : List Int) (ca : Nat) (key : Nat) (b : Option Addr) (s : List Nat) (cb : Nat) (v : Nat) (r o : Int) (w : World) (hs : Sz s) (hv : LV bs s) (ha : IntsAt .i64 w a bs) (hb : NatsAt .i64 w b s) :
    Calls Try.prog 31 #[.agg #[.slice a bs.length ca, .int .u16 (key : Int)], .slice b s.length cb, .agg #[.int .u8 1, .int .u16 (v : Int), .int .i64 r, .int .i64 o]] w
      fun e w' => e = .returned (.tuple #[.agg #[.int .u8 ((rawT s 1 v r o : Nat) : Int), .int .u16 ((rawV bs s key 1 v r o : Nat) : Int)], .int .i64 (rawE s 1 v r o)]) ∧ Below w.heap.size w w' := by
  have hA := Below.alloc (Below.refl w.heap.size w) (Nat.le_refl _) (.cells #[.slice a bs.length ca, .int .u16 (key : Int)] 25)
  have hB := Below.alloc hA (by simp) (.cells #[.int .u8 1, .int .u16 (v : Int), .int .i64 r, .int .i64 o] 48)
  have hC := Below.alloc hB (by simp; omega) (.cells #[.int .u8 0, .int .u16 0] 51)
  have hbox := BoxN.new2 ((w.alloc (.cells #[.slice a bs.length ca, .int .u16 (key : Int)] 25)).alloc (.cells #[.int .u8 1, .int .u16 (v : Int), .int .i64 r, .int .i64 o] 48)) (.int .u8 0) (.int .u16 0) 51
  have hsz : ((w.alloc (.cells #[.slice a bs.length ca, .int .u16 (key : Int)] 25)).alloc (.cells #[.int .u8 1, .int .u16 (v : Int), .int .i64 r, .int .i64 o] 48)).heap.size = w.heap.size + 2 := by simp
  rw [hsz] at hbox
  have hQ := layout_Address a bs ca (key : Int) b s cb r o _ hs hv (ha.later hC) (hb.later hC)
  have q0 : (((w.alloc (.cells #[.slice a bs.length ca, .int .u16 (key : Int)] 25)).alloc (.cells #[.int .u8 1, .int .u16 (v : Int), .int .i64 r, .int .i64 o] 48)).alloc (.cells #[.int .u8 0, .int .u16 0] 51)).cell? ⟨w.heap.size + 1, 0, none⟩ = some (.int .u8 1) := by go_simp
  have q1 : (((w.alloc (.cells #[.slice a bs.length ca, .int .u16 (key : Int)] 25)).alloc (.cells #[.int .u8 1, .int .u16 (v : Int), .int .i64 r, .int .i64 o] 48)).alloc (.cells #[.int .u8 0, .int .u16 0] 51)).cell? ⟨w.heap.size + 1, 1, none⟩ = some (.int .u16 (v : Int)) := by go_simp
  cases hi : insB s r o with
  | false =>
    obtain ⟨f1, f2⟩ := adr_out (bs := bs) hi
    have hr : rawOK s 1 v r o = false := by unfold rawOK; rw [if_pos rfl, hi, Bool.and_false]
    obtain ⟨e1, e2, e3⟩ := raw_bad (bs := bs) (key := key) hr
    rw [f1, f2] at hQ
    rw [e1, e2, e3]
    have HQ := Lib.hid hQ
    clear hQ f1 f2 e1 e2 e3 hr hi ha hb hs hv hsz hA hB
    by_cases h0 : v = 0
    · subst h0
      go_enter Try.func31, Try.ntmps31
      go_wp2_with fail
      refine HQ.out.mono ?_
      rintro e w1 ⟨rfl, hb1⟩
      have hw1 := hC.trans (hb1.mono (by simp; omega))
      have bx := hbox.below hb1 (by simp)
      have r0 := (hb1.cell (p := ⟨w.heap.size + 1, 0, none⟩) (by simp)).trans q0
      have r1 := (hb1.cell (p := ⟨w.heap.size + 1, 1, none⟩) (by simp)).trans q1
      obtain ⟨⟨p0, k0⟩, g2⟩ := bx 0 (by omega)
      obtain ⟨⟨p1, k1⟩, g3⟩ := bx 1 (by omega)
      have hfin := (hw1.setCell (p := ⟨w.heap.size + 2, 0, none⟩) (by simp) (.int .u8 0)).setCell (p := ⟨w.heap.size + 2, 1, none⟩) (by simp) (.int .u16 0)
      have HF := Lib.hid hfin
      clear hfin hw1 bx hb1 hbox hC q0 q1
      go_wp2
      refine bodyPost_ret (v := .tuple #[.agg #[.int .u8 0, .int .u16 0], .int .i64 1]) (by simp [results, Try.results31, go_sem, k0, k1]) rfl ⟨rfl, HF.out⟩
    · have g0 : ((v : Int) != 0) = true := by simp; omega
      go_enter Try.func31, Try.ntmps31
      go_wp2_with fail
      refine HQ.out.mono ?_
      rintro e w1 ⟨rfl, hb1⟩
      have hw1 := hC.trans (hb1.mono (by simp; omega))
      have bx := hbox.below hb1 (by simp)
      have r0 := (hb1.cell (p := ⟨w.heap.size + 1, 0, none⟩) (by simp)).trans q0
      have r1 := (hb1.cell (p := ⟨w.heap.size + 1, 1, none⟩) (by simp)).trans q1
      obtain ⟨⟨p0, k0⟩, g2⟩ := bx 0 (by omega)
      obtain ⟨⟨p1, k1⟩, g3⟩ := bx 1 (by omega)
      have hfin := (hw1.setCell (p := ⟨w.heap.size + 2, 0, none⟩) (by simp) (.int .u8 0)).setCell (p := ⟨w.heap.size + 2, 1, none⟩) (by simp) (.int .u16 0)
      have HF := Lib.hid hfin
      clear hfin hw1 bx hb1 hbox hC q0 q1
      go_wp2
      refine bodyPost_ret (v := .tuple #[.agg #[.int .u8 0, .int .u16 0], .int .i64 1]) (by simp [results, Try.results31, go_sem, k0, k1]) rfl ⟨rfl, HF.out⟩
  | true =>
    obtain ⟨f1, f2⟩ := adr_in (bs := bs) hi
    have hrg := adr_range hv hi
    rw [f2] at hQ
    by_cases h0 : v = 0
    · subst h0
      obtain ⟨e1, e2, e3⟩ := raw_ptr (bs := bs) (key := key) hi
      rw [e1, e2, e3, Int.toNat_of_nonneg hrg.1]
      have HQ := Lib.hid hQ
      clear hQ f1 f2 e1 e2 e3 hi ha hb hs hv hsz hA hB
      generalize adr bs s r o = x at *
      have hwx : IntKind.u16.wrap x = x := by rw [IntKind.wrap_u16]; omega
      go_enter Try.func31, Try.ntmps31
      go_wp2_with fail
      refine HQ.out.mono ?_
      rintro e w1 ⟨rfl, hb1⟩
      have hw1 := hC.trans (hb1.mono (by simp; omega))
      have bx := hbox.below hb1 (by simp)
      have r0 := (hb1.cell (p := ⟨w.heap.size + 1, 0, none⟩) (by simp)).trans q0
      have r1 := (hb1.cell (p := ⟨w.heap.size + 1, 1, none⟩) (by simp)).trans q1
      obtain ⟨⟨p0, k0⟩, g0⟩ := bx 0 (by omega)
      obtain ⟨⟨p1, k1⟩, g1⟩ := bx 1 (by omega)
      have hfin := (hw1.setCell (p := ⟨w.heap.size + 2, 0, none⟩) (by simp) (.int .u8 1)).setCell (p := ⟨w.heap.size + 2, 1, none⟩) (by simp) (.int .u16 x)
      have HF := Lib.hid hfin
      clear hfin hw1 bx hb1 hbox hC q0 q1
      go_wp2
      refine bodyPost_ret (v := .tuple #[.agg #[.int .u8 1, .int .u16 x], .int .i64 0]) (by simp [results, Try.results31, go_sem, k0, k1]) rfl ⟨rfl, HF.out⟩
    · have hr : rawOK s 1 v r o = false := by unfold rawOK; rw [if_pos rfl, decide_eq_false h0, Bool.false_and]
      obtain ⟨e1, e2, e3⟩ := raw_bad (bs := bs) (key := key) hr
      rw [e1, e2, e3]
      have HQ := Lib.hid hQ
      have g0 : ((v : Int) != 0) = true := by simp; omega
      clear hQ f1 f2 e1 e2 e3 hr hi ha hb hs hv hsz hA hB
      generalize adr bs s r o = x at *
      go_enter Try.func31, Try.ntmps31
      go_wp2_with fail
      refine HQ.out.mono ?_
      rintro e w1 ⟨rfl, hb1⟩
      have hw1 := hC.trans (hb1.mono (by simp; omega))
      have bx := hbox.below hb1 (by simp)
      have r0 := (hb1.cell (p := ⟨w.heap.size + 1, 0, none⟩) (by simp)).trans q0
      have r1 := (hb1.cell (p := ⟨w.heap.size + 1, 1, none⟩) (by simp)).trans q1
      obtain ⟨⟨p0, k0⟩, g2⟩ := bx 0 (by omega)
      obtain ⟨⟨p1, k1⟩, g3⟩ := bx 1 (by omega)
      have hfin := (hw1.setCell (p := ⟨w.heap.size + 2, 0, none⟩) (by simp) (.int .u8 0)).setCell (p := ⟨w.heap.size + 2, 1, none⟩) (by simp) (.int .u16 0)
      have HF := Lib.hid hfin
      clear hfin hw1 bx hb1 hbox hC q0 q1
      go_wp2
      refine bodyPost_ret (v := .tuple #[.agg #[.int .u8 0, .int .u16 0], .int .i64 1]) (by simp [results, Try.results31, go_sem, k0, k1]) rfl ⟨rfl, HF.out⟩
end Go.Proofs.Ytpjaflcljnfjmaa
