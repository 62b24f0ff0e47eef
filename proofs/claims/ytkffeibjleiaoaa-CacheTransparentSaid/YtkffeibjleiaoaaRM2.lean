/-
  Contracts of the document's own memory: Empty, Load.
-/
import Derived.Test.YtkffeibjleiaoaaRM1
import Derived.Test.YtkffeibjleiaoaaDeckIns
import Derived.Test.YtkffeibjleiaoaaLay3
import Derived.Test.YtkffeibjleiaoaaLay7
import Derived.OwnWalk
import Derived.Deep.Onto
import Derived.RegionTactic
import Derived.BigRegion
import Derived.Deep.RegionWith
import Derived.Deep.DeepCutAuto
import Derived.Deep.CutBlock
namespace Go.Proofs.Ytkffeibjleiaoaa
open Go.RowKit

theorem info_line : (Try.prog.info? 53).map (fun i => (i.zero, i.size, i.bytes)) = some (some (.agg #[.int .i64 0, .bool false, .slice none 0 0]), 3, 40) := by kernel_rfl

/-- Lines of which the first k are empty, the others zero. -/
def emptyRows (k : Nat) : List (List Value) := List.replicate k [.int .i64 (-1), .bool false, .slice none 0 0] ++ List.replicate (4 - k) [.int .i64 0, .bool false, .slice none 0 0]

theorem emptyRows_set (k : Nat) (hk : k < 4) : (emptyRows k).flatten.set (k * 3) (.int .i64 (-1)) = (emptyRows (k + 1)).flatten := by
  have h : k = 0 ∨ k = 1 ∨ k = 2 ∨ k = 3 := by omega
  rcases h with rfl | rfl | rfl | rfl <;> rfl

theorem emptyRows_get (k : Nat) (hk : k < 4) : ∃ u, (emptyRows k).flatten[k * 3]? = some u := by
  have h : k = 0 ∨ k = 1 ∨ k = 2 ∨ k = 3 := by omega
  rcases h with rfl | rfl | rfl | rfl <;> exact ⟨_, rfl⟩

/-- Empty lines. -/
def emptyM : List MLine := List.replicate 4 ⟨-1, false, []⟩

theorem wide_empty : Wide 3 (emptyRows 4) := fun r hr => by
  simp [emptyRows] at hr
  subst hr; rfl

theorem LinesAt.of_empty {B : Nat} {w : World} {a : Option Addr} (h : RowsAt B w a 3 (emptyRows 4)) : LinesAt w a emptyM := by
  rcases h with h | ⟨b, off, ha, _, h⟩
  · simp [emptyRows] at h
  · refine .inr ⟨b, off, ha, fun i hi => ?_⟩
    have hi4 : i < 4 := by simpa [emptyM] using hi
    have h0 := h i (by simp [emptyRows]; omega) 0 (by omega)
    have h1 := h i (by simp [emptyRows]; omega) 1 (by omega)
    have h2 := h i (by simp [emptyRows]; omega) 2 (by omega)
    have hi5 : i = 0 ∨ i = 1 ∨ i = 2 ∨ i = 3 := by omega
    rcases hi5 with rfl | rfl | rfl | rfl <;> exact ⟨h0, h1, none, 0, h2, .inl rfl⟩

/-- The call gives empty lines in new memory. -/
def GivesEmpty (w : World) (e : Ending) (w' : World) : Prop :=
  ∃ g cap, e = .returned (.slice (some ⟨g, 0, none⟩) 4 cap) ∧ w'.ownsRow w.heap.size 53 3 (.slice (some ⟨g, 0, none⟩) 4 cap) 4 (emptyRows 4).flatten ∧ Below w.heap.size w w'

set_option maxHeartbeats 1000000 in
theorem ref04_Empty (w : World) : Calls Try.prog 44 #[] w (GivesEmpty w) := by
  obtain ⟨i0, hi, hz0, hz1, hz2⟩ := info_parts info_line
  go_enter Try.func44, Try.ntmps44
  go_wp2_with (first
    | (at_make; refine wpList_make_full _ rfl _ _ 29 rfl w.heap.size 53 i0 (.agg #[.int .i64 0, .bool false, .slice none 0 0]) 3 Try.underlying29 hi hz0 hz1 .i64 .i64 _ _ 4 rfl rfl rfl rfl ?c1 ?c2 ?c3 ?_))
  case c1 => rw [hz2]; omega
  case c2 => unfold maxLen; omega
  case c3 => exact Nat.le_refl _
  intro w1 hown hg
  have hown0 : w1.ownsRow w.heap.size 53 3 (.slice (some ⟨w.heap.size, 0, none⟩) 4 4) 4 (emptyRows 0).flatten := by rw [show (madeCells #[Value.int .i64 0, .bool false, .slice none 0 0] 12).toList = (emptyRows 0).flatten from made_rows [.int .i64 0, .bool false, .slice none 0 0] 4] at hown; exact hown
  have hb0 : Below w.heap.size w w1 := (Below.refl _ _).grown hg (Nat.le_refl _) (fun k hk => by cases hk)
  clear hown hg
  go_wp2
  go_loopw [6] (fun c wr => ∃ k : Nat, k ≤ 4 ∧ c = .int .i64 k ∧ wr.ownsRow w.heap.size 53 3 (.slice (some ⟨w.heap.size, 0, none⟩) 4 4) 4 (emptyRows k).flatten ∧ Below w.heap.size w wr) (fun c _ => 4 - (intOf c).toNat)
  case atStart => exact ⟨0, by omega, rfl, hown0, hb0⟩
  case round =>
    clear hown0 hb0
    obtain ⟨k, hk, rfl, hown, hb⟩ := hrel
    by_cases hlt : k < 4
    · have i1 : (k : Int) < 4 := by omega
      have i2 : 0 ≤ (k : Int) := by omega
      obtain ⟨u, hu⟩ := emptyRows_get k hlt
      have c0 := (hown.cellAt (k * 3) (by omega)).trans hu
      have fr := hown.frozenAt (k * 3)
      have hst := hown.stored (k * 3) (.int .i64 (-1))
      rw [emptyRows_set k hlt] at hst
      have R1 := Lib.hid hst.1
      have R2 := Lib.hid (hb.grown hst.2 hb.size (fun j hj => by cases hj; exact Nat.le_refl _))
      clear hst hown hu
      go_wp2
      go_roundw
      case rel => exact ⟨k + 1, by omega, by go_num, R1.out, R2.out⟩
      case measure => simp [intOf]; omega
    · obtain rfl : k = 4 := by omega
      go_wp2
      go_ret
      exact ⟨w.heap.size, 4, rfl, hown, hb⟩

theorem info_cell4 : (Try.prog.info? 25).map (fun i => (i.zero, i.size, i.bytes)) = some (some (.agg #[.int .u8 0, .int .u16 0]), 2, 4) := by kernel_rfl

/-- Lists of words lie in memory. -/
def DataAt (w : World) (a : Option Addr) (L : List (List Nat)) : Prop :=
  L = [] ∨ ∃ b off, a = some ⟨b, off, none⟩ ∧ ∀ i (h : i < L.length), ∃ a2 c, w.cell? ⟨b, off + i, none⟩ = some (.slice a2 L[i].length c) ∧ NatsAt .u16 w a2 L[i]

theorem DataAt.later {w w' : World} {a : Option Addr} {L : List (List Nat)} (h : DataAt w a L) (hb : Below w.heap.size w w') : DataAt w' a L := by
  rcases h with h | ⟨b, off, ha, h⟩
  · exact .inl h
  · refine .inr ⟨b, off, ha, fun i hi => ?_⟩
    obtain ⟨a2, c, h1, h2⟩ := h i hi
    exact ⟨a2, c, cell_later hb h1, h2.later hb⟩

theorem DataAt.some {w : World} {a : Option Addr} {L : List (List Nat)} (h : DataAt w a L) {k : Nat} (hk : k < L.length) :
    ∃ b off, a = some ⟨b, off, none⟩ ∧ ∀ i (h : i < L.length), ∃ a2 c, w.cell? ⟨b, off + i, none⟩ = some (.slice a2 L[i].length c) ∧ NatsAt .u16 w a2 L[i] := by
  rcases h with rfl | h
  · simp at hk
  · exact h

/-- No list is longer than its region. -/
def fitsL : List Int → List (List Nat) → Bool
  | x :: xs, l :: L => decide ((l.length : Int) ≤ x) && fitsL xs L
  | _, _ => true

/-- Load takes the program's data and the layout. -/
def loadOk (bs xs : List Int) (L : List (List Nat)) : Bool := layB bs xs && (decide (L.length = xs.length) && fitsL xs L)

theorem fits_here (xs : List Int) (L : List (List Nat)) (k : Nat) (h : k < xs.length) (h2 : k < L.length) : fitsL (xs.drop k) (L.drop k) = (decide ((L[k].length : Int) ≤ xs[k]) && fitsL (xs.drop (k + 1)) (L.drop (k + 1))) := by
  rw [List.drop_eq_getElem_cons h, List.drop_eq_getElem_cons h2, fitsL]

theorem fits_end (xs : List Int) (L : List (List Nat)) (k : Nat) (h : L.length ≤ k) : fitsL (xs.drop k) (L.drop k) = true := by
  rw [List.drop_eq_nil_of_le h]; cases xs.drop k <;> rfl

/-- What Load gives. -/
def GivesLoad (bs xs : List Int) (L : List (List Nat)) (w : World) (e : Ending) (w' : World) : Prop :=
  Below w.heap.size w w' ∧ ((loadOk bs xs L = false ∧ e = .returned (.tuple #[.agg #[.slice none 0 0, .slice none 0 0], .int .i64 1])) ∨
    (loadOk bs xs L = true ∧ ∃ ac cc al cl, e = .returned (.tuple #[.agg #[.slice ac 512 cc, .slice al 4 cl], .int .i64 0]) ∧ CellsAt w' ac (loadTo bs (xs.map Int.toNat) L L.length 0) ∧ LinesAt w' al emptyM))

/-- While Load goes on: the words, the lines and the box of both. -/
structure LoadS (base mb c g cl : Nat) (xs : List (Nat × Nat)) (W : World) : Prop where
  own : W.ownsRow base 25 2 (.slice (some ⟨c, 0, none⟩) 512 512) 512 (cellRows xs).flatten
  lines : W.ownsRow base 53 3 (.slice (some ⟨g, 0, none⟩) 4 cl) 4 (emptyRows 4).flatten
  box : Blk W mb [.slice (some ⟨c, 0, none⟩) 512 512, .slice (some ⟨g, 0, none⟩) 4 cl]
  hb : base ≤ mb
  n1 : mb ≠ c
  n2 : g ≠ c

theorem LoadS.put {base mb c g cl : Nat} {xs : List (Nat × Nat)} {W : World} (h : LoadS base mb c g cl xs W) (i : Nat) (hi : i < xs.length) (v : Nat) :
    LoadS base mb c g cl (xs.set i (xs[i].1, v)) (W.setCell ⟨c, i * 2 + 1, none⟩ (.int .u16 (v : Int))) ∧ W.grownBy (W.setCell ⟨c, i * 2 + 1, none⟩ (.int .u16 (v : Int))) (some c) := by
  have hst := h.own.stored (i * 2 + 1) (.int .u16 (v : Int))
  rw [cellRows_set xs i hi v] at hst
  exact ⟨⟨hst.1, h.lines.kept hst.2 (.inr (fun e => h.n2 (Option.some.inj e))), h.box.kept hst.2 (fun e => h.n1 (Option.some.inj e)), h.hb, h.n1, h.n2⟩, hst.2⟩

theorem LoadS.drew {base mb c g cl : Nat} {xs : List (Nat × Nat)} {W : World} (h : LoadS base mb c g cl xs W) : LoadS base mb c g cl xs W.drew :=
  ⟨h.own.drew, h.lines.drew, h.box.kept (grownBy_drewN W none 1) (by simp), h.hb, h.n1, h.n2⟩

theorem made512 : ∃ Z : Array Value, Z.toList = (cellRows (List.replicate 512 (0, 0))).flatten ∧ Z.size = 512 * 2 ∧ ∀ W, Sem.run Try.prog (Instr.makeSlice 28 (.int .i64 512) (.int .i64 512)) W = .ok (.slice (some ⟨W.heap.size, 0, none⟩) 512 512) (W.alloc (.cells Z 25)) := by
  obtain ⟨i0, hi, hz0, hz1, hz2⟩ := info_parts info_cell4
  refine ⟨madeCells #[.int .u8 0, .int .u16 0] (512 * 2), ?_, size_madeCells _ _, fun W => ?_⟩
  · rw [show (cellRows (List.replicate 512 (0, 0))) = List.replicate 512 [.int .u8 0, .int .u16 0] by simp only [cellRows, List.map_replicate]; rfl]
    exact made_rows [.int .u8 0, .int .u16 0] 512
  · have := run_make (P := Try.prog) W 28 25 i0 _ Try.underlying28 hi hz0 .i64 .i64 512 512 (by omega) (by omega) (by rw [hz2]; omega) (by omega)
    rw [hz1] at this
    exact this

theorem box_a {W1 w2 : World} (hb2 : Below (W1.drew.alloc (.cells #[.slice none 0 0, .slice none 0 0] 31)).heap.size (W1.drew.alloc (.cells #[.slice none 0 0, .slice none 0 0] 31)) w2) : Blk w2 W1.heap.size [.slice none 0 0, .slice none 0 0] :=
  (Blk.new (W := W1.drew) #[.slice none 0 0, .slice none 0 0] 31).later hb2

theorem box_b {W1 w2 : World} {Z : Array Value} (hb2 : Below ((W1.drew.alloc (.cells #[.slice none 0 0, .slice none 0 0] 31)).alloc (.cells Z 25)).heap.size ((W1.drew.alloc (.cells #[.slice none 0 0, .slice none 0 0] 31)).alloc (.cells Z 25)) w2) : Blk w2 W1.heap.size [.slice none 0 0, .slice none 0 0] :=
  ((Blk.new (W := W1.drew) #[.slice none 0 0, .slice none 0 0] 31).kept (World.grownBy_alloc _ (.cells Z 25) none) (by simp)).later hb2

theorem box_c {W1 w2 : World} {Z : Array Value} (hb2 : Below ((W1.drew.alloc (.cells Z 25)).alloc (.cells #[.slice none 0 0, .slice none 0 0] 31)).heap.size ((W1.drew.alloc (.cells Z 25)).alloc (.cells #[.slice none 0 0, .slice none 0 0] 31)) w2) : Blk w2 (W1.heap.size + 1) [.slice none 0 0, .slice none 0 0] := by
  have h := (Blk.new (W := W1.drew.alloc (.cells Z 25)) #[.slice none 0 0, .slice none 0 0] 31).later hb2
  have e : (W1.drew.alloc (.cells Z 25)).heap.size = W1.heap.size + 1 := by simp
  rw [e] at h
  exact h


theorem own512 (W : World) {Z : Array Value} (hZ : Z.toList = (cellRows (List.replicate 512 (0, 0))).flatten ∧ Z.size = 512 * 2) {b : Nat} (hb : b ≤ W.heap.size) :
    (W.alloc (.cells Z 25)).ownsRow b 25 2 (.slice (some ⟨W.heap.size, 0, none⟩) 512 512) 512 (cellRows (List.replicate 512 (0, 0))).flatten := by
  have h := World.ownsRow_lit (base := b) (e := 25) (size := 2) W Z 512 hb (by unfold maxLen; omega) hZ.2
  rw [hZ.1] at h
  exact h

/-- What Load has made. -/
def LoadM (W1 : World) (mb : Nat) (wf : World) : Prop := ∃ c g cl, LoadS W1.heap.size mb c g cl (List.replicate 512 (0, 0)) wf ∧ Below W1.heap.size W1 wf

theorem load_close {W1 V w2 wf : World} {c g cl mb b2 : Nat}
    (hV : V.ownsRow W1.heap.size 25 2 (.slice (some ⟨c, 0, none⟩) 512 512) 512 (cellRows (List.replicate 512 (0, 0))).flatten) (k1 : V.grownBy wf (some mb))
    (h2 : w2.ownsRow b2 53 3 (.slice (some ⟨g, 0, none⟩) 4 cl) 4 (emptyRows 4).flatten) (hb2 : W1.heap.size ≤ b2) (k2 : w2.grownBy wf (some mb))
    (k0 : W1.grownBy wf (some mb)) (bx : Blk wf mb [.slice (some ⟨c, 0, none⟩) 512 512, .slice (some ⟨g, 0, none⟩) 4 cl]) (n0 : W1.heap.size ≤ mb) (n1 : mb ≠ c) (n2 : g ≠ c) (n3 : g ≠ mb) : LoadM W1 mb wf :=
  ⟨c, g, cl, ⟨hV.kept k1 (.inr (fun e => n1 (Option.some.inj e).symm)), (h2.kept k2 (.inr (fun e => n3 (Option.some.inj e)))).mono hb2, bx, n0, n1, n2⟩, (Below.refl _ _).grown k0 (Nat.le_refl _) (fun k hk => by cases hk; exact n0)⟩

variable {W1 w2 : World} {Z : Array Value} {g cl : Nat}

theorem load_o1 (hZ : Z.toList = (cellRows (List.replicate 512 (0, 0))).flatten ∧ Z.size = 512 * 2) (hb2 : Below (W1.drew.alloc (.cells Z 25)).heap.size (W1.drew.alloc (.cells Z 25)) w2) (hown2 : w2.ownsRow (W1.drew.alloc (.cells Z 25)).heap.size 53 3 (.slice (some ⟨g, 0, none⟩) 4 cl) 4 (emptyRows 4).flatten) : LoadM W1 w2.heap.size (w2.alloc (.cells #[.slice (some ⟨W1.heap.size, 0, none⟩) 512 512, .slice (some ⟨g, 0, none⟩) 4 cl] 31)) := by
  have hg := hown2.lt g rfl
  have hs := hb2.size
  have e0 : (W1.drew.alloc (.cells Z 25)).heap.size = W1.heap.size + 1 := by simp
  rw [e0] at hg hs
  have K := grownBy_trans (grownBy_below hb2 rfl (some w2.heap.size)) (World.grownBy_alloc w2 (.cells #[.slice (some ⟨W1.heap.size, 0, none⟩) 512 512, .slice (some ⟨g, 0, none⟩) 4 cl] 31) (some w2.heap.size))
  exact load_close (own512 W1.drew hZ (Nat.le_refl _)) K hown2 (by rw [e0]; omega) (World.grownBy_alloc w2 _ _) (grownBy_trans (grownBy_trans (grownBy_drewN W1 _ 1) (World.grownBy_alloc W1.drew _ _)) K) (Blk.new _ _) (by omega) (by show w2.heap.size ≠ W1.heap.size; omega) (by show g ≠ W1.heap.size; omega) (by omega)

theorem load_o2 (hZ : Z.toList = (cellRows (List.replicate 512 (0, 0))).flatten ∧ Z.size = 512 * 2) (hb2 : Below ((W1.drew.alloc (.cells Z 25)).alloc (.cells #[.slice none 0 0, .slice none 0 0] 31)).heap.size ((W1.drew.alloc (.cells Z 25)).alloc (.cells #[.slice none 0 0, .slice none 0 0] 31)) w2) (hown2 : w2.ownsRow ((W1.drew.alloc (.cells Z 25)).alloc (.cells #[.slice none 0 0, .slice none 0 0] 31)).heap.size 53 3 (.slice (some ⟨g, 0, none⟩) 4 cl) 4 (emptyRows 4).flatten) : LoadM W1 (W1.heap.size + 1) ((w2.setCell ⟨W1.heap.size + 1, 0, none⟩ (.slice (some ⟨W1.heap.size, 0, none⟩) 512 512)).setCell ⟨W1.heap.size + 1, 1, none⟩ (.slice (some ⟨g, 0, none⟩) 4 cl)) := by
  have hg := hown2.lt g rfl
  have hs := hb2.size
  have e0 : ((W1.drew.alloc (.cells Z 25)).alloc (.cells #[.slice none 0 0, .slice none 0 0] 31)).heap.size = W1.heap.size + 2 := by simp
  rw [e0] at hg hs
  have K2 := grownBy_trans (grownBy_cell w2 (W1.heap.size + 1) 0 (.slice (some ⟨W1.heap.size, 0, none⟩) 512 512)) (grownBy_cell _ (W1.heap.size + 1) 1 (.slice (some ⟨g, 0, none⟩) 4 cl))
  have K := grownBy_trans (grownBy_trans (World.grownBy_alloc (W1.drew.alloc (.cells Z 25)) (.cells #[.slice none 0 0, .slice none 0 0] 31) (some (W1.heap.size + 1))) (grownBy_below hb2 rfl (some (W1.heap.size + 1)))) K2
  exact load_close (own512 W1.drew hZ (Nat.le_refl _)) K hown2 (by rw [e0]; omega) K2 (grownBy_trans (grownBy_trans (grownBy_drewN W1 _ 1) (World.grownBy_alloc W1.drew _ _)) K) (((box_c hb2).put 0 (.slice (some ⟨W1.heap.size, 0, none⟩) 512 512)).put 1 (.slice (some ⟨g, 0, none⟩) 4 cl)) (by omega) (by show W1.heap.size + 1 ≠ W1.heap.size; omega) (by show g ≠ W1.heap.size; omega) (by omega)

theorem load_o3 (hZ : Z.toList = (cellRows (List.replicate 512 (0, 0))).flatten ∧ Z.size = 512 * 2) (hb2 : Below (W1.drew).heap.size (W1.drew) w2) (hown2 : w2.ownsRow (W1.drew).heap.size 53 3 (.slice (some ⟨g, 0, none⟩) 4 cl) 4 (emptyRows 4).flatten) : LoadM W1 (w2.heap.size + 1) ((w2.alloc (.cells Z 25)).alloc (.cells #[.slice (some ⟨w2.heap.size, 0, none⟩) 512 512, .slice (some ⟨g, 0, none⟩) 4 cl] 31)) := by
  have hg := hown2.lt g rfl
  have hs := hb2.size
  have e0 : W1.drew.heap.size = W1.heap.size := rfl
  rw [e0] at hg hs
  have e1 : (w2.alloc (.cells Z 25)).heap.size = w2.heap.size + 1 := by simp
  have K2 := grownBy_trans (World.grownBy_alloc w2 (.cells Z 25) (some (w2.heap.size + 1))) (World.grownBy_alloc (w2.alloc (.cells Z 25)) (.cells #[.slice (some ⟨w2.heap.size, 0, none⟩) 512 512, .slice (some ⟨g, 0, none⟩) 4 cl] 31) (some (w2.heap.size + 1)))
  have bx := Blk.new (W := w2.alloc (.cells Z 25)) #[.slice (some ⟨w2.heap.size, 0, none⟩) 512 512, .slice (some ⟨g, 0, none⟩) 4 cl] 31
  rw [e1] at bx
  exact load_close (own512 w2 hZ hs) (World.grownBy_alloc _ _ _) hown2 (Nat.le_refl _) K2 (grownBy_trans (grownBy_trans (grownBy_drewN W1 _ 1) (grownBy_below hb2 rfl _)) K2) bx (by omega) (by omega) (by omega) (by omega)

theorem load_o4 (hZ : Z.toList = (cellRows (List.replicate 512 (0, 0))).flatten ∧ Z.size = 512 * 2) (hb2 : Below (W1.drew).heap.size (W1.drew) w2) (hown2 : w2.ownsRow (W1.drew).heap.size 53 3 (.slice (some ⟨g, 0, none⟩) 4 cl) 4 (emptyRows 4).flatten) : LoadM W1 w2.heap.size ((w2.alloc (.cells #[.slice (some ⟨(w2.heap.size + 1), 0, none⟩) 512 512, .slice (some ⟨g, 0, none⟩) 4 cl] 31)).alloc (.cells Z 25)) := by
  have hg := hown2.lt g rfl
  have hs := hb2.size
  have e0 : W1.drew.heap.size = W1.heap.size := rfl
  rw [e0] at hg hs
  have e1 : (w2.alloc (.cells #[.slice (some ⟨(w2.heap.size + 1), 0, none⟩) 512 512, .slice (some ⟨g, 0, none⟩) 4 cl] 31)).heap.size = w2.heap.size + 1 := by simp
  have K2 := grownBy_trans (World.grownBy_alloc w2 (.cells #[.slice (some ⟨(w2.heap.size + 1), 0, none⟩) 512 512, .slice (some ⟨g, 0, none⟩) 4 cl] 31) (some w2.heap.size)) (World.grownBy_alloc (w2.alloc (.cells #[.slice (some ⟨(w2.heap.size + 1), 0, none⟩) 512 512, .slice (some ⟨g, 0, none⟩) 4 cl] 31)) (.cells Z 25) (some w2.heap.size))
  have hO := own512 (w2.alloc (.cells #[.slice (some ⟨(w2.heap.size + 1), 0, none⟩) 512 512, .slice (some ⟨g, 0, none⟩) 4 cl] 31)) hZ (b := W1.heap.size) (by omega)
  rw [e1] at hO
  exact load_close hO (grownBy_drewN _ _ 0) hown2 (Nat.le_refl _) K2 (grownBy_trans (grownBy_trans (grownBy_drewN W1 _ 1) (grownBy_below hb2 rfl _)) K2) ((Blk.new _ _).kept (World.grownBy_alloc _ _ none) (by simp)) (by omega) (by omega) (by omega) (by omega)

theorem load_o5 (hZ : Z.toList = (cellRows (List.replicate 512 (0, 0))).flatten ∧ Z.size = 512 * 2) (hb2 : Below ((W1.drew.alloc (.cells #[.slice none 0 0, .slice none 0 0] 31)).alloc (.cells Z 25)).heap.size ((W1.drew.alloc (.cells #[.slice none 0 0, .slice none 0 0] 31)).alloc (.cells Z 25)) w2) (hown2 : w2.ownsRow ((W1.drew.alloc (.cells #[.slice none 0 0, .slice none 0 0] 31)).alloc (.cells Z 25)).heap.size 53 3 (.slice (some ⟨g, 0, none⟩) 4 cl) 4 (emptyRows 4).flatten) : LoadM W1 W1.heap.size ((w2.setCell ⟨W1.heap.size, 0, none⟩ (.slice (some ⟨(W1.heap.size + 1), 0, none⟩) 512 512)).setCell ⟨W1.heap.size, 1, none⟩ (.slice (some ⟨g, 0, none⟩) 4 cl)) := by
  have hg := hown2.lt g rfl
  have hs := hb2.size
  have e0 : ((W1.drew.alloc (.cells #[.slice none 0 0, .slice none 0 0] 31)).alloc (.cells Z 25)).heap.size = W1.heap.size + 2 := by simp
  rw [e0] at hg hs
  have e1 : (W1.drew.alloc (.cells #[.slice none 0 0, .slice none 0 0] 31)).heap.size = W1.heap.size + 1 := by simp
  have K2 := grownBy_trans (grownBy_cell w2 W1.heap.size 0 (.slice (some ⟨(W1.heap.size + 1), 0, none⟩) 512 512)) (grownBy_cell _ W1.heap.size 1 (.slice (some ⟨g, 0, none⟩) 4 cl))
  have K := grownBy_trans (grownBy_below hb2 rfl (some W1.heap.size)) K2
  have hO := own512 (W1.drew.alloc (.cells #[.slice none 0 0, .slice none 0 0] 31)) hZ (b := W1.heap.size) (by omega)
  rw [e1] at hO
  exact load_close hO K hown2 (by rw [e0]; omega) K2 (grownBy_trans (grownBy_trans (grownBy_trans (grownBy_drewN W1 _ 1) (World.grownBy_alloc W1.drew _ _)) (World.grownBy_alloc _ _ _)) K) (((box_b hb2).put 0 (.slice (some ⟨(W1.heap.size + 1), 0, none⟩) 512 512)).put 1 (.slice (some ⟨g, 0, none⟩) 4 cl)) (by omega) (by omega) (by omega) (by omega)

theorem load_o6 (hZ : Z.toList = (cellRows (List.replicate 512 (0, 0))).flatten ∧ Z.size = 512 * 2) (hb2 : Below (W1.drew.alloc (.cells #[.slice none 0 0, .slice none 0 0] 31)).heap.size (W1.drew.alloc (.cells #[.slice none 0 0, .slice none 0 0] 31)) w2) (hown2 : w2.ownsRow (W1.drew.alloc (.cells #[.slice none 0 0, .slice none 0 0] 31)).heap.size 53 3 (.slice (some ⟨g, 0, none⟩) 4 cl) 4 (emptyRows 4).flatten) : LoadM W1 W1.heap.size (((w2.alloc (.cells Z 25)).setCell ⟨W1.heap.size, 0, none⟩ (.slice (some ⟨w2.heap.size, 0, none⟩) 512 512)).setCell ⟨W1.heap.size, 1, none⟩ (.slice (some ⟨g, 0, none⟩) 4 cl)) := by
  have hg := hown2.lt g rfl
  have hs := hb2.size
  have e0 : (W1.drew.alloc (.cells #[.slice none 0 0, .slice none 0 0] 31)).heap.size = W1.heap.size + 1 := by simp
  rw [e0] at hg hs
  have K3 := grownBy_trans (grownBy_cell (w2.alloc (.cells Z 25)) W1.heap.size 0 (.slice (some ⟨w2.heap.size, 0, none⟩) 512 512)) (grownBy_cell _ W1.heap.size 1 (.slice (some ⟨g, 0, none⟩) 4 cl))
  have K2 := grownBy_trans (World.grownBy_alloc w2 (.cells Z 25) (some W1.heap.size)) K3
  have K := grownBy_trans (grownBy_below hb2 rfl (some W1.heap.size)) K2
  have bx := (((box_a hb2).kept (World.grownBy_alloc w2 (.cells Z 25) none) (by simp)).put 0 (.slice (some ⟨w2.heap.size, 0, none⟩) 512 512)).put 1 (.slice (some ⟨g, 0, none⟩) 4 cl)
  exact load_close (own512 w2 hZ (b := W1.heap.size) (by omega)) K3 hown2 (by rw [e0]; omega) K2 (grownBy_trans (grownBy_trans (grownBy_drewN W1 _ 1) (World.grownBy_alloc W1.drew _ _)) K) bx (by omega) (by omega) (by omega) (by omega)


end Go.Proofs.Ytkffeibjleiaoaa
