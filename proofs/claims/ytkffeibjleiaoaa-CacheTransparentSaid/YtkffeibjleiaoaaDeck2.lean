/-
  Contracts of the deck: Cell, New, cells of the law.
-/
import Derived.Test.YtkffeibjleiaoaaDeck
import Derived.Test.YtkffeibjleiaoaaCells2
import Derived.Deep.RegionWith
namespace Go.Proofs.Ytkffeibjleiaoaa
open Go.RowKit

/-- The call gives some valid cell and writes to the deck alone. -/
def GivesCell (D : Nat) (w : World) (e : Ending) (w' : World) : Prop :=
  ∃ t v : Nat, t < 3 ∧ v < 65536 ∧ e = .returned (.agg #[.int .u8 (t : Int), .int .u16 (v : Int)]) ∧ Deck w' D ∧ w.grownBy w' (some D)

theorem wrap_tag (t : Nat) (h : t < 3) : IntKind.u8.wrap (t : Int) = (t : Int) := by rw [IntKind.wrap_u8']; omega

theorem tag_of (r : Nat) (hr : (r : Int) < 5) : ∃ t : Nat, t < 3 ∧ ∀ w : World, (w.alloc (.cells #[.int .i64 0, .int .i64 0, .int .i64 0, .int .i64 1, .int .i64 2] 3)).cell? ⟨w.heap.size, r, none⟩ = some (.int .i64 (t : Int)) := by
  have hr5 : r = 0 ∨ r = 1 ∨ r = 2 ∨ r = 3 ∨ r = 4 := by omega
  rcases hr5 with rfl | rfl | rfl | rfl | rfl
  · exact ⟨0, by omega, fun w => by rw [World.cell?_alloc_at _ _ _ _ rfl]; rfl⟩
  · exact ⟨0, by omega, fun w => by rw [World.cell?_alloc_at _ _ _ _ rfl]; rfl⟩
  · exact ⟨0, by omega, fun w => by rw [World.cell?_alloc_at _ _ _ _ rfl]; rfl⟩
  · exact ⟨1, by omega, fun w => by rw [World.cell?_alloc_at _ _ _ _ rfl]; rfl⟩
  · exact ⟨2, by omega, fun w => by rw [World.cell?_alloc_at _ _ _ _ rfl]; rfl⟩

set_option maxHeartbeats 2000000 in
theorem deck_Cell (D : Nat) (w : World) (hd : Deck w D) :
    Calls Try.prog 17 #[.pointer (some ⟨D, 0, none⟩)] w (GivesCell D w) := by
  have hDl := hd.lt
  have hN := Lib.hid (fun W (h : Deck W D) => deck_Next D 5 W h (by omega) (by omega))
  have hW := Lib.hid (fun W (h : Deck W D) => deck_Word D W h)
  have hd0 : Deck (w.alloc (.cells #[.int .u8 0, .int .u16 0] 25)) D := hd.kept (World.grownBy_alloc w _ none) (fun k hk => by cases hk)
  have hdB : Deck (w.alloc (.cells #[.int .u8 0, .int .u16 0] 25)).drew D := hd0.kept (grownBy_drewN _ none 1) (fun k hk => by cases hk)
  have hdA : Deck ((w.alloc (.cells #[.int .u8 0, .int .u16 0] 25)).alloc (.cells #[.int .i64 0, .int .i64 0, .int .i64 0, .int .i64 1, .int .i64 2] 3)).drew D :=
    (hd0.kept (World.grownBy_alloc _ (.cells #[.int .i64 0, .int .i64 0, .int .i64 0, .int .i64 1, .int .i64 2] 3) none) (fun k hk => by cases hk)).kept (grownBy_drewN _ none 1) (fun k hk => by cases hk)
  clear hd0
  have GB := Lib.hid (grownBy_trans (World.grownBy_alloc w (.cells #[.int .u8 0, .int .u16 0] 25) (some D)) (grownBy_drewN _ (some D) 1))
  have GA := Lib.hid (grownBy_trans (grownBy_trans (World.grownBy_alloc w (.cells #[.int .u8 0, .int .u16 0] 25) (some D)) (World.grownBy_alloc _ (.cells #[.int .i64 0, .int .i64 0, .int .i64 0, .int .i64 1, .int .i64 2] 3) (some D))) (grownBy_drewN _ (some D) 1))
  have hb0 := Box.new w (.int .u8 0) (.int .u16 0) 25
  have hbB := hb0.kept (grownBy_drewN _ none 1) (by simp)
  have hbA := (hb0.kept (World.grownBy_alloc _ (.cells #[.int .i64 0, .int .i64 0, .int .i64 0, .int .i64 1, .int .i64 2] 3) none) (by simp)).kept (grownBy_drewN _ none 1) (by simp)
  clear hb0
  go_enter Try.func17, Try.ntmps17
  go_wp2
  go_region_with (first
    | (go_at_call 11; (with_reducible refine (hN.out _ hdA).mono ?_); rintro e w1 ⟨r, hr, rfl, hd1, hg1⟩; obtain ⟨t, ht, hAny⟩ := tag_of r hr; have hr0 : 0 ≤ (r : Int) := (by omega); have hw8 := wrap_tag t ht
       have hA1 : w1.cell? ⟨w.heap.size + 1, r, none⟩ = some (.int .i64 (t : Int)) := hg1.cell (by have := hAny (w.alloc (.cells #[.int .u8 0, .int .u16 0] 25)); simpa using this) (by simp; omega)
       have hb1 := hbA.kept hg1 (by simp; omega)
       have hb1c := hb1; obtain ⟨⟨p0, p1, k0, k1⟩, k2, k3⟩ := hb1c; have sz1 : w.heap.size < w1.heap.size := World.block_lt_of_cell? _ _ k0)
    | (go_at_call 11; (with_reducible refine (hN.out _ hdB).mono ?_); rintro e w1 ⟨r, hr, rfl, hd1, hg1⟩; obtain ⟨t, ht, hAny⟩ := tag_of r hr; have hr0 : 0 ≤ (r : Int) := (by omega); have hw8 := wrap_tag t ht
       have hb1 := hbB.kept hg1 (by simp; omega)
       have hd1a := hd1.kept (World.grownBy_alloc w1 (.cells #[.int .i64 0, .int .i64 0, .int .i64 0, .int .i64 1, .int .i64 2] 3) none) (fun k hk => by cases hk)
       have hb1a := hb1.kept (World.grownBy_alloc w1 (.cells #[.int .i64 0, .int .i64 0, .int .i64 0, .int .i64 1, .int .i64 2] 3) none) (by simp)
       have hb1c := hb1; obtain ⟨⟨p0, p1, k0, k1⟩, k2, k3⟩ := hb1c; have sz1 : w.heap.size < w1.heap.size := World.block_lt_of_cell? _ _ k0)
    | (go_at_call 36; (with_reducible refine (hW.out _ hd1).mono ?_); rintro e w2 ⟨v, hv, rfl, hd2, hg2⟩; have hA2 := hg2.cell hA1 (by simp; omega)
       have hb2 := hb1.kept hg2 (by simp; omega)
       obtain ⟨⟨q0, q1, l0, l1⟩, l2, l3⟩ := hb2; have sz2 : w.heap.size < w2.heap.size := World.block_lt_of_cell? _ _ l0)
    | (go_at_call 36; (with_reducible refine (hW.out _ hd1).mono ?_); rintro e w2 ⟨v, hv, rfl, hd2, hg2⟩
       have hb2 := hb1.kept hg2 (by simp; omega)
       obtain ⟨⟨q0, q1, l0, l1⟩, l2, l3⟩ := hb2; have sz2 : w.heap.size < w2.heap.size := World.block_lt_of_cell? _ _ l0)
    | (go_at_call 36; (with_reducible refine (hW.out _ hd1a).mono ?_); rintro e w2 ⟨v, hv, rfl, hd2, hg2⟩; have hl1 := hd1.lt; have hA2 := hg2.cell (hAny w1) (by simp; omega)
       have hb2 := hb1a.kept hg2 (by simp; omega)
       obtain ⟨⟨q0, q1, l0, l1⟩, l2, l3⟩ := hb2; have sz2 : w.heap.size < w2.heap.size := World.block_lt_of_cell? _ _ l0))
  all_goals go_wp2
  all_goals
    have G2 : w.grownBy w2 (some D) := by
      first
        | exact grownBy_trans (grownBy_trans GA.out hg1) hg2
        | exact grownBy_trans (grownBy_trans GB.out hg1) hg2
        | exact grownBy_trans (grownBy_trans GB.out hg1) (grownBy_trans (World.grownBy_alloc w1 _ _) hg2)
    have hDs : ∀ k, some w.heap.size = some k → D < k := fun k hk => by cases hk; exact hDl
    have K1 := (hd2.kept (grownBy_cell w2 w.heap.size 0 (.int .u8 (t : Int))) hDs).kept (grownBy_cell _ w.heap.size 1 (.int .u16 (v : Int))) hDs
    have K2 := grownBy_new (grownBy_new G2 (Nat.le_refl _) 0 (.int .u8 (t : Int))) (Nat.le_refl _) 1 (.int .u16 (v : Int))
    refine bodyPost_ret (v := .agg #[.int .u8 (t : Int), .int .u16 (v : Int)]) (by simp [results, Try.results17, go_sem, l0, l1, sz2]) rfl ⟨t, v, ht, hv, rfl, ?_, ?_⟩
    · first | exact K1 | exact K1.kept (World.grownBy_alloc _ _ none) (fun k hk => by cases hk)
    · first | exact K2 | exact grownBy_more K2 _
end Go.Proofs.Ytkffeibjleiaoaa
