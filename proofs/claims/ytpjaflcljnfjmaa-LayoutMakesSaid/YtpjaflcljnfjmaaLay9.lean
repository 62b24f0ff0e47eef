/-
  Contracts: canonicalPointer and Canon.
-/
import Derived.Test.YtpjaflcljnfjmaaLay8
import Derived.Deep.DeepCutAuto
namespace Go.Proofs.Ytpjaflcljnfjmaa
open Go.RowKit

/-- A block of n cells of the call's own. -/
def BoxN (w : World) (B n : Nat) : Prop := ∀ i, i < n → (∃ t, w.cell? ⟨B, i, none⟩ = some t) ∧ w.frozen? ⟨B, i, none⟩ = false

theorem BoxN.kept {w w' : World} {B n : Nat} {r : Option Nat} (h : BoxN w B n) (hg : w.grownBy w' r) (hne : some B ≠ r) : BoxN w' B n := by
  intro i hi
  obtain ⟨⟨t, h0⟩, h2⟩ := h i hi
  have hB := World.block_lt_of_cell? _ _ h0
  exact ⟨⟨t, hg.cell h0 hne⟩, by rw [World.frozen?_of_block (w := w) (hg.block B hB hne)]; exact h2⟩

theorem BoxN.below {w w' : World} {B n C : Nat} (h : BoxN w B n) (hb : Below C w w') (hB : B < C) : BoxN w' B n := by
  intro i hi
  obtain ⟨⟨t, h0⟩, h2⟩ := h i hi
  exact ⟨⟨t, (hb.cell (p := ⟨B, i, none⟩) hB).trans h0⟩, (hb.frozen (p := ⟨B, i, none⟩) hB).trans h2⟩

theorem BoxN.new4 (w : World) (a b c d : Value) (T : TypeId) : BoxN (w.alloc (.cells #[a, b, c, d] T)) w.heap.size 4 := by
  intro i hi
  have hi4 : i = 0 ∨ i = 1 ∨ i = 2 ∨ i = 3 := by omega
  rcases hi4 with rfl | rfl | rfl | rfl
  · exact ⟨⟨a, by rw [World.cell?_alloc_at _ _ _ _ rfl]; rfl⟩, by go_simp⟩
  · exact ⟨⟨b, by rw [World.cell?_alloc_at _ _ _ _ rfl]; rfl⟩, by go_simp⟩
  · exact ⟨⟨c, by rw [World.cell?_alloc_at _ _ _ _ rfl]; rfl⟩, by go_simp⟩
  · exact ⟨⟨d, by rw [World.cell?_alloc_at _ _ _ _ rfl]; rfl⟩, by go_simp⟩

theorem BoxN.new2 (w : World) (a b : Value) (T : TypeId) : BoxN (w.alloc (.cells #[a, b] T)) w.heap.size 2 := by
  intro i hi
  have hi4 : i = 0 ∨ i = 1 := by omega
  rcases hi4 with rfl | rfl
  · exact ⟨⟨a, by rw [World.cell?_alloc_at _ _ _ _ rfl]; rfl⟩, by go_simp⟩
  · exact ⟨⟨b, by rw [World.cell?_alloc_at _ _ _ _ rfl]; rfl⟩, by go_simp⟩

/-- What a pointer's canonical cell says: the region and the offset, or -1 and the address. -/
def cpR (bs : List Int) (s : List Nat) (x : Int) : Int := match resO bs s x with | some p => (p.1 : Int) | none => -1
def cpO (bs : List Int) (s : List Nat) (x : Int) : Int := match resO bs s x with | some p => (p.2 : Int) | none => x

theorem cp_some {bs : List Int} {s : List Nat} {a : Int} {r o : Nat} (h : resO bs s a = some (r, o)) : cpR bs s a = (r : Int) ∧ cpO bs s a = (o : Int) := by
  unfold cpR cpO; rw [h]; exact ⟨rfl, rfl⟩
theorem cp_none {bs : List Int} {s : List Nat} {a : Int} (h : resO bs s a = none) : cpR bs s a = -1 ∧ cpO bs s a = a := by
  unfold cpR cpO; rw [h]; exact ⟨rfl, rfl⟩

set_option maxHeartbeats 1000000 in
theorem layout_canonicalPointer (a : Option Addr) (bs : List Int) (ca : Nat) (key : Int) (b : Option Addr) (s : List Nat) (cb : Nat) (x : Int) (w : World) (hs : Sz s) (hv : LV bs s) (ha : IntsAt .i64 w a bs) (hb : NatsAt .i64 w b s) :
    Calls Try.prog 32 #[.agg #[.slice a bs.length ca, .int .u16 key], .slice b s.length cb, .int .i64 x] w fun e w' => e = .returned (.agg #[.int .u8 1, .int .u16 0, .int .i64 (cpR bs s x), .int .i64 (cpO bs s x)]) ∧ Below w.heap.size w w' := by
  have hA := Below.alloc (Below.refl w.heap.size w) (Nat.le_refl _) (.cells #[.slice a bs.length ca, .int .u16 key] 25)
  have hB := Below.alloc hA (by simp) (.cells #[.int .u8 0, .int .u16 0, .int .i64 0, .int .i64 0] 48)
  have hbox := BoxN.new4 (w.alloc (.cells #[.slice a bs.length ca, .int .u16 key] 25)) (.int .u8 0) (.int .u16 0) (.int .i64 0) (.int .i64 0) 48
  have hsz : (w.alloc (.cells #[.slice a bs.length ca, .int .u16 key] 25)).heap.size = w.heap.size + 1 := by simp
  rw [hsz] at hbox
  have hQ := layout_Resolve a bs ca key b s cb x _ hs hv (ha.later hB) (hb.later hB)
  cases hr : resO bs s x with
  | none =>
    obtain ⟨e1, e2, e3⟩ := res_none hr
    obtain ⟨f1, f2⟩ := cp_none hr
    rw [e1, e2, e3] at hQ
    rw [f1, f2]
    have HQ := Lib.hid hQ
    clear hQ e1 e2 e3 f1 f2 hr ha hb hs hv hsz
    go_enter Try.func32, Try.ntmps32
    go_wp2_with fail
    refine HQ.out.mono ?_
    rintro e w1 ⟨rfl, hb1⟩
    have hw1 := hB.trans (hb1.mono (by simp; omega))
    have hw2 := hw1.alloc hw1.size (.cells #[.int .i64 0, .int .i64 0] 39)
    have bx := (hbox.below hb1 (by simp)).below (Below.alloc (Below.refl w1.heap.size w1) (Nat.le_refl _) (.cells #[.int .i64 0, .int .i64 0] 39)) (by have := hb1.size; simp at this; omega)
    obtain ⟨⟨p0, k0⟩, g0⟩ := bx 0 (by omega)
    obtain ⟨⟨p1, k1⟩, g1⟩ := bx 1 (by omega)
    obtain ⟨⟨p2, k2⟩, g2⟩ := bx 2 (by omega)
    obtain ⟨⟨p3, k3⟩, g3⟩ := bx 3 (by omega)
    have hfin := (((hw2.setCell (p := ⟨w.heap.size + 1, 0, none⟩) (by simp) (.int .u8 1)).setCell (p := ⟨w.heap.size + 1, 1, none⟩) (by simp) (.int .u16 0)).setCell (p := ⟨w.heap.size + 1, 2, none⟩) (by simp) (.int .i64 (-1))).setCell (p := ⟨w.heap.size + 1, 3, none⟩) (by simp) (.int .i64 x)
    have HF := Lib.hid hfin
    have sz : w.heap.size + 1 < w1.heap.size := by have := hb1.size; simp at this; omega
    have u0 : (w1.alloc (.cells #[.int .i64 0, .int .i64 0] 39)).cell? ⟨w1.heap.size, 0, none⟩ = some (.int .i64 0) := by rw [World.cell?_alloc_at _ _ _ _ rfl]; rfl
    have u1 : (w1.alloc (.cells #[.int .i64 0, .int .i64 0] 39)).cell? ⟨w1.heap.size, 1, none⟩ = some (.int .i64 0) := by rw [World.cell?_alloc_at _ _ _ _ rfl]; rfl
    clear hfin hw1 hw2 bx hb1 hbox hA hB
    go_upto_region 2 with fail
    generalize w1.alloc (.cells #[.int .i64 0, .int .i64 0] 39) = W1 at *
    generalize w1.heap.size = P at *
    go_wp2
    refine bodyPost_ret (v := .agg #[.int .u8 1, .int .u16 0, .int .i64 (-1), .int .i64 x]) (by simp [results, Try.results32, go_sem, k0, k1, k2, k3]) rfl ⟨rfl, HF.out⟩
  | some p =>
    obtain ⟨r, o⟩ := p
    obtain ⟨e1, e2, e3⟩ := res_some hr
    obtain ⟨f1, f2⟩ := cp_some hr
    rw [e1, e2, e3] at hQ
    rw [f1, f2]
    have HQ := Lib.hid hQ
    clear hQ e1 e2 e3 f1 f2 hr ha hb hs hv hsz
    go_enter Try.func32, Try.ntmps32
    go_wp2_with fail
    refine HQ.out.mono ?_
    rintro e w1 ⟨rfl, hb1⟩
    have hw1 := hB.trans (hb1.mono (by simp; omega))
    have hw2 := hw1.alloc hw1.size (.cells #[.int .i64 (r : Int), .int .i64 (o : Int)] 39)
    have bx := (hbox.below hb1 (by simp)).below (Below.alloc (Below.refl w1.heap.size w1) (Nat.le_refl _) (.cells #[.int .i64 (r : Int), .int .i64 (o : Int)] 39)) (by have := hb1.size; simp at this; omega)
    obtain ⟨⟨p0, k0⟩, g0⟩ := bx 0 (by omega)
    obtain ⟨⟨p1, k1⟩, g1⟩ := bx 1 (by omega)
    obtain ⟨⟨p2, k2⟩, g2⟩ := bx 2 (by omega)
    obtain ⟨⟨p3, k3⟩, g3⟩ := bx 3 (by omega)
    have hfin := (((hw2.setCell (p := ⟨w.heap.size + 1, 0, none⟩) (by simp) (.int .u8 1)).setCell (p := ⟨w.heap.size + 1, 1, none⟩) (by simp) (.int .u16 0)).setCell (p := ⟨w.heap.size + 1, 2, none⟩) (by simp) (.int .i64 (r : Int))).setCell (p := ⟨w.heap.size + 1, 3, none⟩) (by simp) (.int .i64 (o : Int))
    have HF := Lib.hid hfin
    have sz : w.heap.size + 1 < w1.heap.size := by have := hb1.size; simp at this; omega
    have u0 : (w1.alloc (.cells #[.int .i64 (r : Int), .int .i64 (o : Int)] 39)).cell? ⟨w1.heap.size, 0, none⟩ = some (.int .i64 (r : Int)) := by rw [World.cell?_alloc_at _ _ _ _ rfl]; rfl
    have u1 : (w1.alloc (.cells #[.int .i64 (r : Int), .int .i64 (o : Int)] 39)).cell? ⟨w1.heap.size, 1, none⟩ = some (.int .i64 (o : Int)) := by rw [World.cell?_alloc_at _ _ _ _ rfl]; rfl
    clear hfin hw1 hw2 bx hb1 hbox hA hB
    go_upto_region 2 with fail
    generalize w1.alloc (.cells #[.int .i64 (r : Int), .int .i64 (o : Int)] 39) = W1 at *
    generalize w1.heap.size = P at *
    go_wp2
    refine bodyPost_ret (v := .agg #[.int .u8 1, .int .u16 0, .int .i64 (r : Int), .int .i64 (o : Int)]) (by simp [results, Try.results32, go_sem, k0, k1, k2, k3]) rfl ⟨rfl, HF.out⟩
end Go.Proofs.Ytpjaflcljnfjmaa
