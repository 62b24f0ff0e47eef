/-
  Contract: awake of the law of the memory; Load of a program's own data.
-/
import Derived.Test.YtaigkplalcnelaaMem1
import Derived.Test.YtaigkplalcnelaaMem2
import Derived.Test.YtaigkplalcnelaaMem3
import Derived.Deep.DeepCutAuto
namespace Go.Proofs.Ytaigkplalcnelaa
open Go.RowKit

theorem memOk_load (bs : List Int) (s : List Nat) (L : List (List Nat)) : memOk ⟨loadTo bs s L L.length 0, emptyM⟩ = true := by
  have h : linesOk 0 emptyM = true := rfl
  have h1 := length_loadTo bs s L L.length 0
  have h2 := all_loadTo bs s L L.length 0
  generalize loadTo bs s L L.length 0 = cs at *
  unfold memOk
  show (decide (cs.length = 512 ∧ emptyM.length = 4) && (cs.all okW && linesOk 0 emptyM)) = true
  rw [h2, h, decide_eq_true ⟨h1, rfl⟩]
  rfl

theorem empty_cells : ∀ x ∈ emptyM, x.cells = [] := fun x hx => by
  have : x = ⟨-1, false, []⟩ := (List.mem_replicate.1 hx).2
  subst this
  rfl

/-- Valid of what Load has made. -/
theorem memory_Valid_load (a al : Option Addr) (bs : List Int) (s : List Nat) (L : List (List Nat)) (ca cl : Nat) (w : World) (hL : ∀ l ∈ L, ∀ x ∈ l, x < 65536) (ha : CellsAt w a (loadTo bs s L L.length 0)) (hl : LinesAt w al emptyM) :
    Calls Try.prog 10 #[.agg #[.slice a 512 ca, .slice al 4 cl]] w fun e w' => e = .returned (.bool true) ∧ Below w.heap.size w w' := by
  have h0 := memOk_load bs s L
  have h1 := length_loadTo bs s L L.length 0
  have h2 := ok_loadTo bs s L hL L.length 0
  generalize loadTo bs s L L.length 0 = cs at *
  have h := memory_Valid a al cs emptyM ca cl w ha hl h2 (fun x hx c hc => by rw [empty_cells x hx] at hc; simp at hc) (by omega) (by simp [emptyM]) (fun x hx => by rw [empty_cells x hx]; simp)
  rw [h0, h1] at h
  exact h

theorem con42 : loadOk [1] [3] [[7, 8]] = true ∧ loadAt [1] [3] [[7, 8]] 1 0 2 = 8 := by decide +kernel

theorem awakeLoad (w : World) (B : Nat) (hB : B = w.heap.size) :
    Calls Try.prog 8 #[.agg #[.slice none 0 0, .slice (some ⟨B, 0, none⟩) 1 1, .slice (some ⟨B + 1 + 1, 0, none⟩) 1 1], .agg #[.slice (some ⟨B + 1 + 1 + 1, 0, none⟩) 1 1, .int .u16 0]]
      ((((w.alloc (.cells #[.int .i64 3] 3)).alloc (.cells #[.int .u16 7, .int .u16 8] 30)).alloc (.cells #[.slice (some ⟨B + 1, 0, none⟩) 2 2] 49)).alloc (.cells #[.int .i64 1] 3)) fun e w' =>
      ∃ ac cc al cl, e = .returned (.tuple #[.agg #[.slice ac 512 cc, .slice al 4 cl], .int .i64 0]) ∧ CellsAt w' ac (loadTo [1] [3] [[7, 8]] 1 0) ∧ LinesAt w' al emptyM ∧ Below w.heap.size w w' := by
  subst hB
  refine (memory_Load none (some ⟨w.heap.size, 0, none⟩) (some ⟨w.heap.size + 1 + 1 + 1, 0, none⟩) (some ⟨w.heap.size + 1 + 1, 0, none⟩) 0 0 1 1 1 [3] [1] [[7, 8]] 0 _ ?_ ?_ ?_ (by simp) (by simp) (by simp) (by simp)).mono ?_
  · refine .inr ⟨_, _, rfl, fun i hi => ?_⟩
    obtain rfl : i = 0 := by simpa using hi
    go_simp
  · refine .inr ⟨_, _, rfl, fun i hi => ?_⟩
    obtain rfl : i = 0 := by simpa using hi
    go_simp
  · refine .inr ⟨_, _, rfl, fun i hi => ?_⟩
    obtain rfl : i = 0 := by simpa using hi
    refine ⟨some ⟨w.heap.size + 1, 0, none⟩, 2, by go_simp, .inr ⟨_, _, rfl, fun j hj => ?_⟩⟩
    have h2 : j = 0 ∨ j = 1 := by simp at hj; omega
    rcases h2 with rfl | rfl
    · go_simp
    · go_simp
  · rintro e w' ⟨hb, h⟩
    rcases h with ⟨h, _⟩ | ⟨_, ac, cc, al, cl, he, h1, h2⟩
    · rw [con42.1] at h; cases h
    · refine ⟨ac, cc, al, cl, he, h1, h2, ?_⟩
      refine Below.trans ?_ (hb.mono ?_)
      · exact (((Below.alloc (Below.refl w.heap.size w) (Nat.le_refl _) _).alloc (by simp) _).alloc (by simp; omega) _).alloc (by simp; omega) _
      · simp; omega

set_option maxHeartbeats 1000000 in
theorem law04_awake (w : World) :
    Calls Try.prog 11 #[] w fun e w' => e = .returned (.bool true) ∧ Below w.heap.size w w' := by
  have K0 := Lib.hid awakeLoad
  go_enter Try.func11, Try.ntmps11
  go_wp2_with fail
  with_reducible refine (K0.out w w.heap.size rfl).mono ?_
  rintro e w1 ⟨ac, cc, al, cl, rfl, hC, hL, hb1⟩
  have hA := Below.alloc (Below.refl w1.heap.size w1) (Nat.le_refl _) (.cells #[.slice ac 512 cc, .slice al 4 cl] 40)
  have hW := hb1.trans (hA.mono hb1.size)
  have hC1 := hC.later hA
  have hL1 := hL.later hA
  have x0 : (w1.alloc (.cells #[.slice ac 512 cc, .slice al 4 cl] 40)).cell? ⟨w1.heap.size, 0, none⟩ = some (.slice ac 512 cc) := by rw [World.cell?_alloc_at _ _ _ _ rfl]; rfl
  have x1 : (w1.alloc (.cells #[.slice ac 512 cc, .slice al 4 cl] 40)).cell? ⟨w1.heap.size, 1, none⟩ = some (.slice al 4 cl) := by rw [World.cell?_alloc_at _ _ _ _ rfl]; rfl
  clear hC hL hb1 hA
  go_upto_region 2 with fail
  generalize w1.alloc (.cells #[.slice ac 512 cc, .slice al 4 cl] 40) = W1 at *
  generalize w1.heap.size = B1 at *
  have hP := Lib.hid (memory_Peek ac al (loadTo [1] [3] [[7, 8]] 1 0) cc 4 cl 2 W1 hC1 (length_loadTo _ _ _ _ _))
  have hp8 : peekC (loadTo [1] [3] [[7, 8]] 1 0) 2 = (0, 8) := by
    unfold peekC
    rw [if_pos (by omega), getD_at _ _ (by rw [length_loadTo]; decide), loadTo_at _ _ _ _ _ _ (by decide)]
    show (0, loadAt [1] [3] [[7, 8]] 1 0 2) = (0, 8)
    rw [con42.2]
  have hpe : peekE 2 = 0 := rfl
  rw [hp8, hpe, length_loadTo] at hP
  clear hp8 hpe
  go_wp2_with fail
  refine hP.out.mono ?_
  rintro e w2 ⟨rfl, hb2⟩
  have hA := Below.alloc (Below.refl w2.heap.size w2) (Nat.le_refl _) (.cells #[.int .u8 0, .int .u16 8] 44)
  have hbA := hb2.trans (hA.mono hb2.size)
  have hW2 := hW.trans (hbA.mono hW.size)
  have hC2 := hC1.later hbA
  have hL2 := hL1.later hbA
  have x0 := cell_later hbA x0
  have x1 := cell_later hbA x1
  have y1 : (w2.alloc (.cells #[.int .u8 0, .int .u16 8] 44)).cell? ⟨w2.heap.size, 1, none⟩ = some (.int .u16 8) := by rw [World.cell?_alloc_at _ _ _ _ rfl]; rfl
  clear hP hb2 hA hbA hC1 hL1
  go_upto_region 3 with fail
  generalize w2.alloc (.cells #[.int .u8 0, .int .u16 8] 44) = W2 at *
  generalize w2.heap.size = B2 at *
  have hV := Lib.hid (memory_Valid_load ac al [1] [3] [[7, 8]] cc cl W2 (by simp) hC2 hL2)
  go_wp2_with fail
  refine hV.out.mono ?_
  rintro e w3 ⟨rfl, hb3⟩
  have hW3 := hW2.trans (hb3.mono hW2.size)
  go_wp2
  go_ret
  exact ⟨rfl, hW3⟩
end Go.Proofs.Ytaigkplalcnelaa
