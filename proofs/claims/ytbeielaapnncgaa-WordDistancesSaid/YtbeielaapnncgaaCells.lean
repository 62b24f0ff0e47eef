/-
  Contracts of the functions on lists of cells: cellDistance, Distance, Same and the document's own Distance, Same.
-/
import Derived.Test.YtbeielaapnncgaaWords
import Derived.Test.YtbeielaapnncgaaCellMath
import Derived.WalkKit
import Derived.WalkSpells
import Derived.Lib.Hide
import Derived.Outline
import Derived.Deep.RegionHeld3
import Derived.Deep.DeepFit
namespace Go.Proofs.Ytbeielaapnncgaa
open Go.RowKit

/-- The cells xs lie in memory from address a on (a slice of them); where there are none nothing is asked. -/
def CellsAt (w : World) (a : Option Addr) (xs : List (Nat × Nat)) : Prop :=
  xs = [] ∨ ∃ b off, a = some ⟨b, off, none⟩ ∧ ∀ i (h : i < xs.length), w.cell? ⟨b, off + i * 2, none⟩ = some (.int .u8 (xs[i].1 : Int)) ∧ w.cell? ⟨b, off + i * 2 + 1, none⟩ = some (.int .u16 (xs[i].2 : Int))

theorem CellsAt.later {w w' : World} {a : Option Addr} {xs : List (Nat × Nat)} (h : CellsAt w a xs) (hb : Below w.heap.size w w') : CellsAt w' a xs := by
  rcases h with h | ⟨b, off, ha, h⟩
  · exact .inl h
  · exact .inr ⟨b, off, ha, fun i hi => ⟨cell_later hb (h i hi).1, cell_later hb (h i hi).2⟩⟩

theorem CellsAt.some {w : World} {a : Option Addr} {xs : List (Nat × Nat)} (h : CellsAt w a xs) {k : Nat} (hk : k < xs.length) :
    ∃ b off, a = some ⟨b, off, none⟩ ∧ ∀ i (h : i < xs.length), w.cell? ⟨b, off + i * 2, none⟩ = some (.int .u8 (xs[i].1 : Int)) ∧ w.cell? ⟨b, off + i * 2 + 1, none⟩ = some (.int .u16 (xs[i].2 : Int)) := by
  rcases h with rfl | h
  · simp at hk
  · exact h

theorem CellsAt.new1 (w : World) (t v : Nat) (T : TypeId) : CellsAt (w.alloc (.cells #[.int .u8 (t : Int), .int .u16 (v : Int)] T)) (Option.some ⟨w.heap.size, 0, none⟩) [(t, v)] := by
  refine .inr ⟨w.heap.size, 0, rfl, fun i h => ?_⟩
  obtain rfl : i = 0 := by simpa using h
  refine ⟨?_, ?_⟩
  · rw [World.cell?_alloc_at _ _ _ _ rfl]; rfl
  · rw [World.cell?_alloc_at _ _ _ _ rfl]; rfl

theorem celld_any (x y : Nat × Nat) (w : World) (hx : x.2 < 65536) (hy : y.2 < 65536) :
    Calls Try.prog 33 #[.agg #[.int .u8 (x.1 : Int), .int .u16 (x.2 : Int)], .agg #[.int .u8 (y.1 : Int), .int .u16 (y.2 : Int)]] w
      fun e w' => e = .returned (.int .i64 (cellD x y : Nat)) ∧ Below w.heap.size w w' := by
  have hX := xor_words x.2 y.2 hx hy
  have hl := xor_lt _ _ hx hy
  have ho := ones_le (x.2 ^^^ y.2)
  have hD : Hid (cellD x y = ones (x.2 ^^^ y.2) + if x.1 = y.1 then 0 else 1) := Lib.hid rfl
  obtain ⟨t, v⟩ := x
  obtain ⟨s, u⟩ := y
  simp only at *
  generalize v ^^^ u = z at *
  by_cases e : t = s
  · subst e
    have e1 : ((t : Int) != (t : Int)) = false := by simp
    go_enter Try.func33, Try.ntmps33
    go_wp2_with (go_at_call 14; refine (ones_any z _ hl).mono ?_; rintro e w' ⟨rfl, rfl⟩)
    go_ret
    exact ⟨ret_int (by rw [hD.out]; simp), ((Below.refl _ _).alloc (Nat.le_refl _) _).alloc (by simp) _⟩
  · have e1 : ((t : Int) != (s : Int)) = true := by simp; omega
    go_enter Try.func33, Try.ntmps33
    go_wp2_with (go_at_call 14; refine (ones_any z _ hl).mono ?_; rintro e w' ⟨rfl, rfl⟩)
    go_ret
    exact ⟨ret_int (by rw [hD.out, if_neg e]; omega), ((Below.refl _ _).alloc (Nat.le_refl _) _).alloc (by simp) _⟩

set_option maxHeartbeats 1000000 in
theorem dist_any (a b : Option Addr) (xs ys : List (Nat × Nat)) (ca cb : Nat) (w : World) (ha : CellsAt w a xs) (hb : CellsAt w b ys) (ox : OkCells xs) (oy : OkCells ys) (lx : xs.length ≤ 100000) (ly : ys.length ≤ 100000) :
    Calls Try.prog 20 #[.slice a xs.length ca, .slice b ys.length cb] w fun e w' => e = .returned (.int .i64 (dist xs ys : Nat)) ∧ Below w.heap.size w w' := by
  have hE := Lib.hid (dist_eq xs ys)
  have hcase : (xs.length < ys.length) ∨ (xs.length ≤ ys.length ∧ ys.length ≤ xs.length) ∨ (ys.length < xs.length) := by omega
  rcases hcase with hle | ⟨hle, hle2⟩ | hle
  all_goals
    go_enter Try.func20, Try.ntmps20
    go_wp2
    go_loopw [6, 7, 22] (fun d _ c wr => ∃ k : Nat, k ≤ xs.length ∧ k ≤ ys.length ∧ c = .int .i64 k ∧ d = .int .i64 ((17 * (max xs.length ys.length - min xs.length ys.length) + distTo xs ys k : Nat) : Int) ∧ Below w.heap.size w wr) (fun _ _ c _ => xs.length + ys.length - (intOf c).toNat)
    case atStart => exact ⟨0, by omega, by omega, rfl, by simp only [distTo]; congr 1; omega, Below.refl _ _⟩
    case round =>
      obtain ⟨k, hk1, hk2, rfl, rfl, hw⟩ := hrel
      have hdl := distTo_le xs ys k
      by_cases hlt : k < xs.length ∧ k < ys.length
      · obtain ⟨hlt1, hlt2⟩ := hlt
        have hS := Lib.hid (show distTo xs ys (k + 1) = distTo xs ys k + cellD xs[k] ys[k] by rw [distTo, placeD_both xs ys k hlt1 hlt2])
        have hcl := cellD_le xs[k] ys[k]
        obtain ⟨ba, oa, rfl, ca2⟩ := (ha.later hw).some hlt1
        obtain ⟨bb, ob, rfl, cb2⟩ := (hb.later hw).some hlt2
        obtain ⟨c1, c2⟩ := ca2 k hlt1
        obtain ⟨c3, c4⟩ := cb2 k hlt2
        clear ca2 cb2
        have ox1 := ox _ (List.getElem_mem hlt1)
        have oy1 := oy _ (List.getElem_mem hlt2)
        generalize xs[k] = x at *
        generalize ys[k] = y at *
        generalize hG : 17 * (max xs.length ys.length - min xs.length ys.length) = G at *
        have hG2 : G ≤ 1700000 := by omega
        clear hG
        have hW := Lib.hid (show IntKind.i64.wrap ((G : Int) + (distTo xs ys k : Nat) + (cellD x y : Nat)) = ((G + (distTo xs ys k + cellD x y) : Nat) : Int) by rw [IntWalk.i64_in _ (by omega)]; omega)
        go_wp2
        go_region_held3 (fun w' => w'.cell? ⟨ba, oa + k * 2, none⟩ = some (.int .u8 (x.1 : Int)) ∧ w'.cell? ⟨ba, oa + k * 2 + 1, none⟩ = some (.int .u16 (x.2 : Int)) ∧ w'.cell? ⟨bb, ob + k * 2, none⟩ = some (.int .u8 (y.1 : Int)) ∧ w'.cell? ⟨bb, ob + k * 2 + 1, none⟩ = some (.int .u16 (y.2 : Int)))
          (first | go_keep | (go_split_ands; exact ⟨cell_later hb5 (by assumption), cell_later hb5 (by assumption), cell_later hb5 (by assumption), cell_later hb5 (by assumption)⟩))
          (first | (go_at_call 33; refine (celld_any x y _ ox1.2 oy1.2).mono ?_; rintro e w' ⟨rfl, hb5⟩))
        rw [hW.out]
        go_wp2
        go_roundw
        case rel => exact ⟨k + 1, by omega, by omega, by go_num, by rw [hS.out], hw.drew.trans (hb5.mono hw.size)⟩
        case measure => simp [intOf]; omega
      · go_wp2
        go_ret
        refine ⟨ret_int ?_, hw⟩
        rw [← hE.out]
        obtain rfl : k = min xs.length ys.length := by omega
        rfl
end Go.Proofs.Ytbeielaapnncgaa
