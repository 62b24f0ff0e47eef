/-
  Contract: Raw.
-/
import Derived.Test.YtpjaflcljnfjmaaLay11
namespace Go.Proofs.Ytpjaflcljnfjmaa
open Go.RowKit

theorem wrap_add16 (v key : Nat) : IntKind.u16.wrap ((v : Int) + (key : Int)) = (((v + key) % 65536 : Nat) : Int) := by
  rw [IntKind.wrap_u16]; omega

set_option maxHeartbeats 2000000 in
theorem layout_Raw (a : Option Addr) (bs : List Int) (ca : Nat) (key : Nat) (b : Option Addr) (s : List Nat) (cb : Nat) (t v : Nat) (r o : Int) (w : World) (hs : Sz s) (hv : LV bs s) (ha : IntsAt .i64 w a bs) (hb : NatsAt .i64 w b s) :
    Calls Try.prog 20 #[.agg #[.slice a bs.length ca, .int .u16 (key : Int)], .slice b s.length cb, .agg #[.int .u8 (t : Int), .int .u16 (v : Int), .int .i64 r, .int .i64 o]] w
      fun e w' => e = .returned (.tuple #[.agg #[.int .u8 ((rawT s t v r o : Nat) : Int), .int .u16 ((rawV bs s key t v r o : Nat) : Int)], .int .i64 (rawE s t v r o)]) ∧ Below w.heap.size w w' := by
  have hA := Below.alloc (Below.refl w.heap.size w) (Nat.le_refl _) (.cells #[.slice a bs.length ca, .int .u16 (key : Int)] 25)
  have hB := Below.alloc hA (by simp) (.cells #[.int .u8 (t : Int), .int .u16 (v : Int), .int .i64 r, .int .i64 o] 48)
  by_cases h1 : t = 1
  · subst h1
    have hC := Below.alloc hB (by simp; omega) (.cells #[.int .u8 0, .int .u16 0] 51)
    have hbox := BoxN.new2 ((w.alloc (.cells #[.slice a bs.length ca, .int .u16 (key : Int)] 25)).alloc (.cells #[.int .u8 ((1 : Nat) : Int), .int .u16 (v : Int), .int .i64 r, .int .i64 o] 48)) (.int .u8 0) (.int .u16 0) 51
    have hsz : ((w.alloc (.cells #[.slice a bs.length ca, .int .u16 (key : Int)] 25)).alloc (.cells #[.int .u8 ((1 : Nat) : Int), .int .u16 (v : Int), .int .i64 r, .int .i64 o] 48)).heap.size = w.heap.size + 2 := by simp
    rw [hsz] at hbox
    have hQ := Lib.hid (layout_rawPointer a bs ca key b s cb v r o _ hs hv (ha.later hC) (hb.later hC))
    generalize rawT s 1 v r o = T at *
    generalize rawV bs s key 1 v r o = V at *
    generalize rawE s 1 v r o = E at *
    clear ha hb hs hv hsz hA hB
    go_enter Try.func20, Try.ntmps20
    go_wp2_with fail
    refine hQ.out.mono ?_
    rintro e w1 ⟨rfl, hb1⟩
    have hw1 := hC.trans (hb1.mono (by simp; omega))
    have bx := hbox.below hb1 (by simp)
    obtain ⟨⟨p0, k0⟩, g2⟩ := bx 0 (by omega)
    obtain ⟨⟨p1, k1⟩, g3⟩ := bx 1 (by omega)
    have hfin := (hw1.setCell (p := ⟨w.heap.size + 2, 0, none⟩) (by simp) (.int .u8 (T : Int))).setCell (p := ⟨w.heap.size + 2, 1, none⟩) (by simp) (.int .u16 (V : Int))
    have HF := Lib.hid hfin
    clear hfin hw1 bx hb1 hbox hC
    go_wp2
    refine bodyPost_ret (v := .tuple #[.agg #[.int .u8 (T : Int), .int .u16 (V : Int)], .int .i64 E]) (by simp [results, Try.results20, go_sem, k0, k1]) rfl ⟨rfl, HF.out⟩
  · have g1 : ((t : Int) == 1) = false := by rw [beq_eq_false_iff_ne]; omega
    clear ha hb hs hv
    by_cases hr : r = 0
    · by_cases ho : o = 0
      · subst hr ho
        by_cases h0 : t = 0
        · subst h0
          obtain ⟨e1, e2, e3⟩ := @raw_num bs s key v
          rw [e1, e2, e3]
          clear e1 e2 e3 h1 g1
          go_enter Try.func20, Try.ntmps20
          go_wp2
          refine bodyPost_ret (v := .tuple #[.agg #[.int .u8 0, .int .u16 (v : Int)], .int .i64 0]) (by simp [results, Try.results20, go_sem]) rfl ⟨rfl, ?_⟩
          exact Below.alloc hB (by simp; omega) _
        · by_cases h2 : t = 2
          · subst h2
            obtain ⟨e1, e2, e3⟩ := @raw_handle bs s key v
            have e4 := wrap_add16 v key
            rw [e1, e2, e3]
            generalize (v + key) % 65536 = V at *
            clear e1 e2 e3 h1 g1 h0
            go_enter Try.func20, Try.ntmps20
            go_wp2
            refine bodyPost_ret (v := .tuple #[.agg #[.int .u8 2, .int .u16 (V : Int)], .int .i64 0]) (by simp [results, Try.results20, go_sem]) rfl ⟨rfl, ?_⟩
            exact Below.alloc hB (by simp; omega) _
          · have hk : rawOK s t v 0 0 = false := by unfold rawOK; rw [if_neg h1]; exact decide_eq_false (fun h => by omega)
            obtain ⟨e1, e2, e3⟩ := raw_bad (bs := bs) (key := key) hk
            have g0 : ((t : Int) == 0) = false := by rw [beq_eq_false_iff_ne]; omega
            have g2 : ((t : Int) == 2) = false := by rw [beq_eq_false_iff_ne]; omega
            rw [e1, e2, e3]
            clear e1 e2 e3 hk
            go_enter Try.func20, Try.ntmps20
            go_wp2
            refine bodyPost_ret (v := .tuple #[.agg #[.int .u8 0, .int .u16 0], .int .i64 1]) (by simp [results, Try.results20, go_sem]) rfl ⟨rfl, ?_⟩
            exact Below.alloc hB (by simp; omega) _
      · have hk : rawOK s t v r o = false := by unfold rawOK; rw [if_neg h1]; exact decide_eq_false (fun h => ho h.2.1)
        obtain ⟨e1, e2, e3⟩ := raw_bad (bs := bs) (key := key) hk
        have go : (o != 0) = true := by simpa using ho
        subst hr
        rw [e1, e2, e3]
        clear e1 e2 e3 hk ho
        go_enter Try.func20, Try.ntmps20
        go_wp2
        refine bodyPost_ret (v := .tuple #[.agg #[.int .u8 0, .int .u16 0], .int .i64 1]) (by simp [results, Try.results20, go_sem]) rfl ⟨rfl, ?_⟩
        exact Below.alloc hB (by simp; omega) _
    · have hk : rawOK s t v r o = false := by unfold rawOK; rw [if_neg h1]; exact decide_eq_false (fun h => hr h.1)
      obtain ⟨e1, e2, e3⟩ := raw_bad (bs := bs) (key := key) hk
      have gr : (r != 0) = true := by simpa using hr
      rw [e1, e2, e3]
      clear e1 e2 e3 hk hr
      go_enter Try.func20, Try.ntmps20
      go_wp2
      refine bodyPost_ret (v := .tuple #[.agg #[.int .u8 0, .int .u16 0], .int .i64 1]) (by simp [results, Try.results20, go_sem]) rfl ⟨rfl, ?_⟩
      exact Below.alloc hB (by simp; omega) _
end Go.Proofs.Ytpjaflcljnfjmaa
