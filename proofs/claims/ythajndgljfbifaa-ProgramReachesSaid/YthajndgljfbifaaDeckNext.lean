/-
  Contracts of the deck: New, Next. What is drawn is some number in its range; only the deck's own block is written.
-/
import Derived.Test.YthajndgljfbifaaOpenInts
import Derived.WalkSmall
import Derived.OwnWalk
namespace Go.Proofs.Ythajndgljfbifaa
open Go.RowKit

/-- Block D is a deck: a list of ints that lies below it, and how many of them have been taken. -/
def Deck (w : World) (D : Nat) : Prop :=
  ∃ (a : Option Addr) (xs : List Int) (cap i : Nat), w.cell? ⟨D, 0, none⟩ = some (.slice a xs.length cap) ∧ w.cell? ⟨D, 1, none⟩ = some (.int .i64 (i : Int)) ∧ w.frozen? ⟨D, 1, none⟩ = false ∧ i ≤ xs.length ∧ xs.length ≤ 9223372036854775807 ∧
    (∀ x ∈ xs, -9223372036854775808 ≤ x ∧ x ≤ 9223372036854775807) ∧ (xs = [] ∨ ∃ b off, a = some ⟨b, off, none⟩ ∧ b < D ∧ ∀ j (h : j < xs.length), w.cell? ⟨b, off + j, none⟩ = some (.int .i64 xs[j]))

theorem Deck.lt {w : World} {D : Nat} (h : Deck w D) : D < w.heap.size := by
  obtain ⟨a, xs, cap, i, h0, _⟩ := h
  exact World.block_lt_of_cell? _ _ h0

theorem grownBy_trans {a b c : World} {r : Option Nat} (h : a.grownBy b r) (k : b.grownBy c r) : a.grownBy c r :=
  ⟨k.os.trans h.os, k.tape.trans h.tape, k.output.trans h.output, Nat.le_trans h.size k.size, fun j hj hne => (k.block j (Nat.lt_of_lt_of_le hj h.size) hne).trans (h.block j hj hne)⟩

theorem grownBy_drewN (w : World) (r : Option Nat) (n : Nat) : w.grownBy (w.drewN n) r := ⟨rfl, rfl, rfl, Nat.le_refl _, fun _ _ _ => rfl⟩

theorem grownBy_cell (w : World) (D j : Nat) (u : Value) : w.grownBy (w.setCell ⟨D, j, none⟩ u) (some D) :=
  ⟨rfl, rfl, rfl, by simp [World.setCell], fun k _ hk => Below.heap_setCell w ⟨D, j, none⟩ u k (fun e => hk (by simp [e]))⟩

theorem grownBy_below {w w' : World} {B : Nat} (h : Below B w w') (hB : B = w.heap.size) (r : Option Nat) : w.grownBy w' r :=
  ⟨h.os, h.tape, h.output, h.size, fun k hk _ => h.block k (by omega)⟩

/-- A deck stays one where only other blocks are written. -/
theorem Deck.kept {w w' : World} {D : Nat} {r : Option Nat} (h : Deck w D) (hg : w.grownBy w' r) (hr : ∀ k, r = some k → D < k) : Deck w' D := by
  obtain ⟨a, xs, cap, i, h0, h1, h2, h3, h4, h5, h6⟩ := h
  have hne : some D ≠ r := fun e => by have := hr D e.symm; omega
  have hD := World.block_lt_of_cell? _ _ h0
  refine ⟨a, xs, cap, i, hg.cell h0 hne, hg.cell h1 hne, ?_, h3, h4, h5, ?_⟩
  · rw [World.frozen?_of_block (w := w) (hg.block D hD hne)]; exact h2
  · rcases h6 with h6 | ⟨b, off, ha, hb, hc⟩
    · exact .inl h6
    · exact .inr ⟨b, off, ha, hb, fun j hj => hg.cell (hc j hj) (fun e => by have := hr b e.symm; omega)⟩

/-- The call gives some number below n and writes to the deck alone. -/
def GivesBelow (n : Int) (D : Nat) (w : World) (e : Ending) (w' : World) : Prop :=
  ∃ r : Nat, (r : Int) < n ∧ e = .returned (.int .i64 (r : Int)) ∧ Deck w' D ∧ w.grownBy w' (some D)

theorem deck_Next (D : Nat) (n : Int) (w : World) (hd : Deck w D) (h1 : 1 ≤ n) (h2 : n ≤ 4000000000) :
    Calls Try.prog 36 #[.pointer (some ⟨D, 0, none⟩), .int .i64 n] w (GivesBelow n D w) := by
  obtain ⟨a, xs, cap, i, c0, c1, f1, hi, hl, hx, hc⟩ := hd
  have hD := World.block_lt_of_cell? _ _ c0
  by_cases hlt : i < xs.length
  · rcases hc with rfl | ⟨b, off, rfl, hb, hc⟩
    · simp at hlt
    have hxi := hx _ (List.getElem_mem hlt)
    have ci := hc i hlt
    have hM := Lib.hid (fun W => (make_Mod xs[i] n W (by omega) (by omega) hxi.1 hxi.2).mono (fun e w' (h : _ ∧ W = w') => (⟨h.1, h.2.symm⟩ : _ ∧ w' = W)))
    have HC := Lib.hid hc
    have HX := Lib.hid hx
    clear hc hx hxi
    have i1 : ¬ (xs.length : Int) ≤ (i : Int) := by omega
    have i2 : (i : Int) < (xs.length : Int) := by omega
    go_enter Try.func36, Try.ntmps36
    go_wp2
    go_quiet (fail)
    go_wp2
    have hg : w.grownBy ((w.drewN nq).setCell ⟨D, 1, none⟩ (.int .i64 ((i : Int) + 1))) (some D) := grownBy_trans (grownBy_drewN w _ nq) (grownBy_cell _ D 1 _)
    have k0 : ((w.drewN nq).setCell ⟨D, 1, none⟩ (.int .i64 ((i : Int) + 1))).cell? ⟨D, 0, none⟩ = some (.slice (some ⟨b, off, none⟩) xs.length cap) := by go_simp
    have k1 : ((w.drewN nq).setCell ⟨D, 1, none⟩ (.int .i64 ((i : Int) + 1))).cell? ⟨D, 1, none⟩ = some (.int .i64 ((i : Int) + 1)) := by go_simp
    have k2 : ((w.drewN nq).setCell ⟨D, 1, none⟩ (.int .i64 ((i : Int) + 1))).frozen? ⟨D, 1, none⟩ = false := by go_simp
    have k3 := hg.cell ci (by simp; omega)
    have HG := Lib.hid hg
    clear hg
    generalize (w.drewN nq).setCell ⟨D, 1, none⟩ (.int .i64 ((i : Int) + 1)) = W2 at *
    clear c0 c1 f1 ci
    have j1 : IntKind.i64.wrap ((i : Int) + 1 - 1) = (i : Int) := by rw [IntWalk.i64_in _ (by omega)]; omega
    have j2 : 0 ≤ (i : Int) := by omega
    go_quiet ((go_at_call 22; exact Calls.quiet_of_same (hM.out _)))
    go_wp2
    go_ret
    have hr0 : 0 ≤ xs[i] % n := Int.emod_nonneg _ (by omega)
    have hr1 : xs[i] % n < n := Int.emod_lt_of_pos _ (by omega)
    have hfin : W2.grownBy (W2.drewN nq) none := grownBy_drewN _ _ _
    refine ⟨(xs[i] % n).toNat, by omega, by rw [Int.toNat_of_nonneg hr0]; rfl, ?_, grownBy_trans HG.out (grownBy_drewN _ _ _)⟩
    refine Deck.kept ⟨_, xs, cap, i + 1, k0, k1, k2, by omega, hl, HX.out, .inr ⟨b, off, rfl, hb, fun j hj => ?_⟩⟩ hfin (fun k hk => by cases hk)
    exact HG.out.cell (HC.out j hj) (by simp; omega)
  · have i1 : (xs.length : Int) ≤ (i : Int) := by omega
    go_enter Try.func36, Try.ntmps36
    go_wp2
    go_quiet (fail)
    go_wp2
    go_ret
    refine ⟨0, by omega, rfl, ?_, grownBy_drewN _ _ _⟩
    exact Deck.kept ⟨a, xs, cap, i, c0, c1, f1, hi, hl, hx, hc⟩ (grownBy_drewN _ none _) (fun k hk => by cases hk)

theorem grownBy_new {w w' : World} {r : Option Nat} (h : w.grownBy w' r) {B : Nat} (hB : w.heap.size ≤ B) (j : Nat) (u : Value) : w.grownBy (w'.setCell ⟨B, j, none⟩ u) r :=
  ⟨h.os, h.tape, h.output, by have := h.size; simpa [World.setCell] using this, fun k hk hne => (Below.heap_setCell w' ⟨B, j, none⟩ u k (by simp; omega)).trans (h.block k hk hne)⟩

theorem grownBy_more {w w' : World} {r : Option Nat} (h : w.grownBy w' r) (o : Obj) : w.grownBy (w'.alloc o) r := grownBy_trans h (World.grownBy_alloc w' o r)

theorem make_New (a : Option Addr) (xs : List Int) (cap : Nat) (w : World) (ha : IntsAt .i64 w a xs) (hx : ∀ x ∈ xs, -9223372036854775808 ≤ x ∧ x ≤ 9223372036854775807) (hl : xs.length ≤ 9223372036854775807) :
    Calls Try.prog 11 #[.slice a xs.length cap] w fun e w' => e = .returned (.pointer (some ⟨w.heap.size, 0, none⟩)) ∧ Deck w' w.heap.size ∧ Below w.heap.size w w' := by
  have hD : Deck (w.alloc (.cells #[.slice a xs.length cap, .int .i64 0] 88)) w.heap.size := by
    refine ⟨a, xs, cap, 0, ?_, ?_, ?_, by omega, hl, hx, ?_⟩
    · rw [World.cell?_alloc_at _ _ _ _ rfl]; rfl
    · rw [World.cell?_alloc_at _ _ _ _ rfl]; rfl
    · go_simp
    · rcases ha with h | ⟨b, off, ha, hc⟩
      · exact .inl h
      · by_cases h0 : xs = []
        · exact .inl h0
        · have hpos : 0 < xs.length := by cases xs with | nil => exact absurd rfl h0 | cons x r => simp
          have hb := World.block_lt_of_cell? _ _ (hc 0 hpos)
          exact .inr ⟨b, off, ha, hb, fun j hj => cell_later ((Below.refl _ _).alloc (Nat.le_refl _) _) (hc j hj)⟩
  have HD := Lib.hid hD
  clear hD ha hx
  go_enter Try.func11, Try.ntmps11
  go_wp2
  go_ret
  exact ⟨rfl, HD.out, (Below.refl _ _).alloc (Nat.le_refl _) _⟩

/-- Writes to a block of the call's own do not count. -/
theorem grown_own {w w1 w2 : World} {D : Nat} {r : Option Nat} (h : w.grownBy w1 (some D)) (k : w1.grownBy w2 r) (hr : ∀ b, r = some b → w.heap.size ≤ b) : w.grownBy w2 (some D) :=
  ⟨k.os.trans h.os, k.tape.trans h.tape, k.output.trans h.output, Nat.le_trans h.size k.size, fun j hj hne =>
    (k.block j (Nat.lt_of_lt_of_le hj h.size) (fun e => by have := hr j e.symm; omega)).trans (h.block j hj hne)⟩


/-- A block of two cells of the call's own. -/
def Box (w : World) (B : Nat) : Prop :=
  (∃ t v, w.cell? ⟨B, 0, none⟩ = some t ∧ w.cell? ⟨B, 1, none⟩ = some v) ∧ w.frozen? ⟨B, 0, none⟩ = false ∧ w.frozen? ⟨B, 1, none⟩ = false

theorem Box.kept {w w' : World} {B : Nat} {r : Option Nat} (h : Box w B) (hg : w.grownBy w' r) (hne : some B ≠ r) : Box w' B := by
  obtain ⟨⟨t, v, h0, h1⟩, h2, h3⟩ := h
  have hB := World.block_lt_of_cell? _ _ h0
  exact ⟨⟨t, v, hg.cell h0 hne, hg.cell h1 hne⟩, by rw [World.frozen?_of_block (w := w) (hg.block B hB hne)]; exact h2, by rw [World.frozen?_of_block (w := w) (hg.block B hB hne)]; exact h3⟩

theorem Box.new (w : World) (t v : Value) (T : TypeId) : Box (w.alloc (.cells #[t, v] T)) w.heap.size := by
  refine ⟨⟨t, v, ?_, ?_⟩, ?_, ?_⟩
  · rw [World.cell?_alloc_at _ _ _ _ rfl]; rfl
  · rw [World.cell?_alloc_at _ _ _ _ rfl]; rfl
  · go_simp
  · go_simp

end Go.Proofs.Ythajndgljfbifaa
