/-
  Texts for the deck's part: what it keeps, how it ends.
-/
import Derived.Test.YthajndgljfbifaaDeckIns
import Derived.Deep.RegionWith
namespace Go.Proofs.Ythajndgljfbifaa
open Go.RowKit
set_option maxRecDepth 100000

theorem info_instr : (Try.prog.info? 66).map (fun i => (i.zero, i.size, i.bytes)) = some (some (.agg #[.int .i64 0, .int .i64 0, .int .i64 0, .int .i64 0, .int .i64 0]), 5, 40) := by kernel_rfl

/-- The rows of instructions. -/
def insRows (xs : List Ins) : List (List Value) := xs.map insRow

theorem wide_ins (xs : List Ins) : Wide 5 (insRows xs) := Wide.map insRow length_insRow xs

theorem length_insRows (xs : List Ins) : (insRows xs).length = xs.length := by simp [insRows]

/-- While part goes on: the deck, the buffer's instructions. -/
structure PartS (D : Nat) (w : World) (Bb : Nat) (buf : List Ins) (W : World) : Prop where
  deck : Deck W D
  grown : w.grownBy W (some D)
  cells : Blk W Bb (insRows buf).flatten
  hD : D < w.heap.size
  hb : w.heap.size ≤ Bb

variable {D Bb : Nat} {w W W' : World} {buf : List Ins}

theorem PartS.draw (h : PartS D w Bb buf W) (hg : W.grownBy W' (some D)) (hd : Deck W' D) : PartS D w Bb buf W' := by
  have h1 := h.hD
  have h2 := h.hb
  exact ⟨hd, grownBy_trans h.grown hg, h.cells.kept hg (by simp; omega), h1, h2⟩

theorem PartS.later (h : PartS D w Bb buf W) (hb : Below W.heap.size W W') : PartS D w Bb buf W' :=
  ⟨h.deck.kept (grownBy_below hb rfl none) (fun k hk => by cases hk), grownBy_trans h.grown (grownBy_below hb rfl (some D)), h.cells.later hb, h.hD, h.hb⟩

theorem PartS.new (h : PartS D w Bb buf W) (o : Obj) : PartS D w Bb buf (W.alloc o) := h.later (Below.alloc (Below.refl _ _) (Nat.le_refl _) o)

/-- A row of the call's own is written, or a new one made. -/
theorem PartS.own (h : PartS D w Bb buf W) {r : Option Nat} (hg : W.grownBy W' r) (hr : ∀ b, r = some b → Bb < b) : PartS D w Bb buf W' := by
  have h1 := h.hD
  have h2 := h.hb
  exact ⟨h.deck.kept hg (fun k hk => by have := hr k hk; omega), grown_own h.grown hg (fun b hb => by have := hr b hb; omega), h.cells.kept hg (fun e => by have := hr Bb e.symm; omega), h1, h2⟩

theorem PartS.size (h : PartS D w Bb buf W) : w.heap.size ≤ W.heap.size := h.grown.size

theorem Blk.lt {W : World} {B : Nat} {l : List Value} (h : Blk W B l) (h0 : 0 < l.length) : B < W.heap.size := World.block_lt_of_cell? _ _ (h 0 h0).1

theorem Blk.news {W : World} {B : Nat} {l : List Value} (h : Blk W B l) : ∀ j u, l[j]? = some u → W.cell? ((⟨B, 0, none⟩ : Addr).add j) = some u := fun j u hj => by
  obtain ⟨h1, rfl⟩ := List.getElem?_eq_some_iff.1 hj
  have e : (⟨B, 0, none⟩ : Addr).add j = ⟨B, j, none⟩ := by unfold Addr.add; split <;> simp_all
  rw [e]; exact (h j h1).1

/-- What part gives: one to six instructions in new memory. -/
def GivesPart (n at_ D : Nat) (w : World) (e : Ending) (w' : World) : Prop :=
  ∃ (a : Option Addr) (cap : Nat) (xs : List Ins), e = .returned (.slice a xs.length cap) ∧ RowsAt w.heap.size w' a 5 (insRows xs) ∧ 1 ≤ xs.length ∧ xs.length ≤ 6 ∧ (∀ x ∈ xs, InsIn n (at_ + xs.length) x) ∧ Deck w' D ∧ w.grownBy w' (some D)

/-- Rows that a new block holds. -/
theorem rows_new {k : Nat} {rows : List (List Value)} (hw : Wide k rows) (W : World) (cs : Array Value) (hcs : cs.toList = rows.flatten) (T : TypeId) {B : Nat} (hB : B ≤ W.heap.size) :
    RowsAt B (W.alloc (.cells cs T)) (some ⟨W.heap.size, 0, none⟩) k rows := by
  refine .inr ⟨_, _, rfl, hB, fun i hi j hj => ?_⟩
  have h := Blk.new (W := W) cs T
  rw [hcs] at h
  have hm : i * k + k ≤ rows.length * k := by rw [← Nat.succ_mul]; exact Nat.mul_le_mul_right k hi
  have hl : i * k + j < rows.flatten.length := by rw [length_flatten hw]; omega
  rw [Nat.zero_add, (h _ hl).1, ← flatten_at hw i j hi hj, List.getElem?_eq_getElem hl]

/-- It ends with instructions written out. -/
theorem part_lit {n at_ : Nat} (h : PartS D w Bb buf W) (xs : List Ins) (cs : Array Value) (hcs : cs.toList = (insRows xs).flatten) (h1 : 1 ≤ xs.length) (h6 : xs.length ≤ 6) (hin : ∀ x ∈ xs, InsIn n (at_ + xs.length) x) (T : TypeId) :
    GivesPart n at_ D w (.returned (.slice (some ⟨W.heap.size, 0, none⟩) xs.length xs.length)) (W.alloc (.cells cs T)) :=
  ⟨_, _, xs, rfl, rows_new (wide_ins xs) W cs hcs T h.size, h1, h6, hin, (h.new _).deck, (h.new _).grown⟩

/-- It ends with a row of the call's own. -/
theorem part_own {n at_ m C : Nat} {T : TypeId} {v : Value} (h : PartS D w Bb buf W) (hC : w.heap.size ≤ C) (xs : List Ins) {l : List Value} (hl : l = (insRows xs).flatten) (ho : W.ownsRow C T 5 v m l) (h1 : 1 ≤ xs.length) (h6 : xs.length ≤ 6) (hin : ∀ x ∈ xs, InsIn n (at_ + xs.length) x) :
    GivesPart n at_ D w (.returned v) W := by
  subst hl
  obtain ⟨_, a, cap, rfl, hr, _⟩ := RowsAt.of_row (by omega) (wide_ins xs) ho
  rw [length_insRows]
  exact ⟨a, cap, xs, rfl, hr.mono hC, h1, h6, hin, h.deck, h.grown⟩

/-- A table of numbers in a new block. -/
theorem tab_at (W : World) (cs : Array Value) (l : List Int) (hcs : cs.toList = l.map fun x => Value.int .i64 x) (T : TypeId) {i : Nat} (hi : i < l.length) :
    ∃ x ∈ l, (W.alloc (.cells cs T)).cell? ⟨W.heap.size, i, none⟩ = some (.int .i64 x) := by
  have h := Blk.new (W := W) cs T
  rw [hcs] at h
  have := (h i (by simpa using hi)).1
  rw [List.getElem_map] at this
  exact ⟨_, List.getElem_mem hi, this⟩

theorem tab_any (cs : Array Value) (l : List Int) (hcs : cs.toList = l.map fun x => Value.int .i64 x) (T : TypeId) {i : Nat} (hi : i < l.length) :
    ∃ x ∈ l, ∀ W : World, (W.alloc (.cells cs T)).cell? ⟨W.heap.size, i, none⟩ = some (.int .i64 x) := by
  refine ⟨l[i], List.getElem_mem hi, fun W => ?_⟩
  have h := Blk.new (W := W) cs T
  rw [hcs] at h
  have := (h i (by simpa using hi)).1
  rw [List.getElem_map] at this
  exact this

theorem PartS.ne (h : PartS D w Bb buf W) : some W.heap.size ≠ some D := by have := h.size; have := h.hD; simp; omega

theorem ins_lea {n m : Nat} {r k : Int} (h1 : 0 ≤ r ∧ r < 8) (h2 : 0 ≤ k ∧ k < (n : Int)) (hn : n ≤ 4) : InsIn n m ⟨15, r, 0, 0, k⟩ := by
  refine ⟨by simp, by simp, h1.1, h1.2, by simp, by simp, by simp, by simp, h2.1, by show k ≤ 65535; omega, fun h => by simp [usA] at h, fun _ => rfl, fun _ => rfl, fun h => by simp [usI] at h, fun h => by simp [jumpB] at h, fun _ => h2.2, fun h => by simp at h⟩

theorem ins_three {n m : Nat} {op a b c : Int} (h0 : 3 ≤ op ∧ op ≤ 14) (h1 : 0 ≤ a ∧ a < 8) (h2 : 0 ≤ b ∧ b < 8) (h3 : 0 ≤ c ∧ c < 8) : InsIn n m ⟨op, a, b, c, 0⟩ := by
  refine ⟨by show 0 ≤ op; omega, by show op ≤ 24; omega, h1.1, h1.2, h2.1, h2.2, h3.1, h3.2, by simp, by simp, fun h => ?_, fun h => ?_, fun h => ?_, fun _ => rfl, fun h => ?_, fun h => ?_, fun h => ?_⟩
  · have := of_decide_eq_false h; dsimp only at this ⊢; omega
  · have := of_decide_eq_false h; dsimp only at this ⊢; omega
  · have := of_decide_eq_false h; dsimp only at this ⊢; omega
  · have := of_decide_eq_true h; dsimp only at this ⊢; omega
  · have : op = 15 := h; omega
  · have : op = 23 := h; omega

theorem ins_mem {n m : Nat} {op a b k : Int} (h0 : op = 16 ∨ op = 17) (h1 : 0 ≤ a ∧ a < 8) (h2 : 0 ≤ b ∧ b < 8) (h3 : 0 ≤ k ∧ k ≤ 65535) : InsIn n m ⟨op, a, b, 0, k⟩ := by
  refine ⟨by show 0 ≤ op; omega, by show op ≤ 24; omega, h1.1, h1.2, h2.1, h2.2, by simp, by simp, h3.1, h3.2, fun h => ?_, fun h => ?_, fun _ => rfl, fun h => ?_, fun h => ?_, fun h => ?_, fun h => ?_⟩
  · have := of_decide_eq_false h; dsimp only at this ⊢; omega
  · have := of_decide_eq_false h; dsimp only at this ⊢; omega
  · have := of_decide_eq_false h; dsimp only at this ⊢; omega
  · have := of_decide_eq_true h; dsimp only at this ⊢; omega
  · have : op = 15 := h; omega
  · have : op = 23 := h; omega

theorem ins_jnz {n m : Nat} {a k : Int} (h1 : 0 ≤ a ∧ a < 8) (h3 : 0 ≤ k ∧ k ≤ 65535) (h4 : k < (m : Int)) : InsIn n m ⟨20, a, 0, 0, k⟩ := by
  refine ⟨by simp, by simp, h1.1, h1.2, by simp, by simp, by simp, by simp, h3.1, h3.2, fun h => by simp [usA] at h, fun _ => rfl, fun _ => rfl, fun h => by simp [usI] at h, fun _ => h4, fun h => by simp at h, fun h => by simp at h⟩

theorem all_one {p : Ins → Prop} {a : Ins} (ha : p a) : ∀ x ∈ [a], p x := by intro x hx; simp at hx; subst hx; exact ha
theorem all_cons {p : Ins → Prop} {a : Ins} {l : List Ins} (ha : p a) (hl : ∀ x ∈ l, p x) : ∀ x ∈ a :: l, p x := by
  intro x hx
  rcases List.mem_cons.1 hx with rfl | hx
  · exact ha
  · exact hl x hx
end Go.Proofs.Ythajndgljfbifaa
