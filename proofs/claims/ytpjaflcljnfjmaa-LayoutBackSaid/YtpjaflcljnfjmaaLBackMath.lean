/-
  Layouts: canonical and raw cells belong together; cells of memory that a law keeps.
-/
import Derived.Test.YtpjaflcljnfjmaaLayDeck
namespace Go.Proofs.Ytpjaflcljnfjmaa
open Go.RowKit

theorem can_num (bs : List Int) (s : List Nat) (key v : Nat) : canV key 0 v = v ∧ canR bs s 0 v = 0 ∧ canO bs s 0 v = 0 := ⟨rfl, rfl, rfl⟩
theorem can_handle (bs : List Int) (s : List Nat) (key v : Nat) : canV key 2 v = (v + 65536 - key) % 65536 ∧ canR bs s 2 v = 0 ∧ canO bs s 2 v = 0 := ⟨rfl, rfl, rfl⟩
theorem can_ptr (bs : List Int) (s : List Nat) (key v : Nat) : canV key 1 v = 0 ∧ canR bs s 1 v = cpR bs s (v : Int) ∧ canO bs s 1 v = cpO bs s (v : Int) := ⟨rfl, rfl, rfl⟩

/-- Raw takes a proper canonical cell, and Canon gives it back. -/
theorem raw_can {bs : List Int} {s : List Nat} {key t v : Nat} {r o : Int} (hv : LV bs s) (hk : key < 65536) (h : PropC s t v r o) :
    rawE s t v r o = 0 ∧ rawT s t v r o = t ∧ t < 256 ∧ rawV bs s key t v r o < 65536 ∧ canV key t (rawV bs s key t v r o) = v ∧ canR bs s t (rawV bs s key t v r o) = r ∧ canO bs s t (rawV bs s key t v r o) = o := by
  obtain ⟨h6, h⟩ := h
  rcases h with ⟨rfl, rfl, rfl⟩ | ⟨rfl, rfl, rfl⟩ | ⟨rfl, rfl, hi⟩
  · obtain ⟨e1, e2, e3⟩ := @raw_num bs s key v
    rw [e1, e2, e3]
    obtain ⟨f1, f2, f3⟩ := can_num bs s key v
    rw [f1, f2, f3]
    exact ⟨rfl, rfl, by omega, h6, rfl, rfl, rfl⟩
  · obtain ⟨e1, e2, e3⟩ := @raw_handle bs s key v
    rw [e1, e2, e3]
    obtain ⟨f1, f2, f3⟩ := can_handle bs s key ((v + key) % 65536)
    rw [f1, f2, f3]
    exact ⟨rfl, rfl, by omega, by omega, by omega, rfl, rfl⟩
  · obtain ⟨e1, e2, e3⟩ := raw_ptr (bs := bs) (key := key) hi
    obtain ⟨g1, g2⟩ := adr_range hv hi
    rw [e1, e2, e3]
    obtain ⟨f1, f2, f3⟩ := can_ptr bs s key (adr bs s r o).toNat
    rw [f1, f2, f3, Int.toNat_of_nonneg g1]
    rcases ins_split s r o with hn | ⟨k, j, hk, rfl, rfl, h4, _⟩
    · rw [hn] at hi; cases hi
    · rw [(adr_in (bs := bs) hi).1, Int.toNat_natCast]
      have hres := res_at hv (ins_holds hv.1 hk h4)
      rw [show bs.getD k 0 + (j : Int) - bs.getD k 0 = (j : Int) by omega, Int.toNat_natCast] at hres
      obtain ⟨p1, p2⟩ := cp_some hres
      rw [p1, p2]
      rw [(adr_in (bs := bs) hi).1, Int.toNat_natCast] at g2
      exact ⟨rfl, rfl, by omega, by omega, rfl, rfl, rfl⟩

/-- Canon of a valid cell: Raw gives it back, or it is a wild pointer. -/
theorem can_raw {bs : List Int} {s : List Nat} {key t v : Nat} (hv : LV bs s) (hk : key < 65536) (ht : t < 3) (h6 : v < 65536) :
    (0 ≤ canR bs s t v ∧ rawE s t (canV key t v) (canR bs s t v) (canO bs s t v) = 0 ∧ rawT s t (canV key t v) (canR bs s t v) (canO bs s t v) = t ∧ rawV bs s key t (canV key t v) (canR bs s t v) (canO bs s t v) = v) ∨
    (canR bs s t v < 0 ∧ rawE s t (canV key t v) (canR bs s t v) (canO bs s t v) = 1) := by
  have h3 : t = 0 ∨ t = 1 ∨ t = 2 := by omega
  rcases h3 with rfl | rfl | rfl
  · obtain ⟨f1, f2, f3⟩ := can_num bs s key v
    rw [f1, f2, f3]
    obtain ⟨e1, e2, e3⟩ := @raw_num bs s key v
    rw [e1, e2, e3]
    exact .inl ⟨by omega, rfl, rfl, rfl⟩
  · obtain ⟨f1, f2, f3⟩ := can_ptr bs s key v
    rw [f1, f2, f3]
    cases hr : resO bs s (v : Int) with
    | none =>
      obtain ⟨p1, p2⟩ := cp_none hr
      rw [p1, p2]
      refine .inr ⟨by omega, ?_⟩
      exact (raw_bad (bs := bs) (key := key) (by unfold rawOK insB; simp)).2.2
    | some p =>
      obtain ⟨r, o⟩ := p
      obtain ⟨p1, p2⟩ := cp_some hr
      obtain ⟨hh, ho⟩ := res_holds hv.1 hr
      have hi : insB s (r : Int) (o : Int) = true := holds_ins (bs := bs) hv.1 (by rw [ho]; exact hh)
      obtain ⟨e1, e2, e3⟩ := raw_ptr (bs := bs) (key := key) hi
      rw [p1, p2, e1, e2, e3, (adr_in (bs := bs) hi).1, Int.toNat_natCast, ho, Int.toNat_natCast]
      exact .inl ⟨by omega, rfl, rfl, rfl⟩
  · obtain ⟨f1, f2, f3⟩ := can_handle bs s key v
    rw [f1, f2, f3]
    obtain ⟨e1, e2, e3⟩ := @raw_handle bs s key ((v + 65536 - key) % 65536)
    rw [e1, e2, e3]
    exact .inl ⟨by omega, rfl, rfl, by omega⟩

/-- Cells of blocks above D. -/
def Cs (D : Nat) (W : World) (l : List (Addr × Value)) : Prop := ∀ p ∈ l, W.cell? p.1 = some p.2 ∧ D < p.1.block

theorem Cs.later {D : Nat} {W W' : World} {l : List (Addr × Value)} (h : Cs D W l) (hb : Below W.heap.size W W') : Cs D W' l :=
  fun p hp => ⟨cell_later hb (h p hp).1, (h p hp).2⟩

theorem Cs.kept {D : Nat} {W W' : World} {l : List (Addr × Value)} (h : Cs D W l) (hg : W.grownBy W' (some D)) : Cs D W' l :=
  fun p hp => ⟨hg.cell (h p hp).1 (fun e => by have := (h p hp).2; simp only [Option.some.injEq] at e; omega), (h p hp).2⟩

theorem Cs.new2 {D : Nat} {W : World} {l : List (Addr × Value)} (h : Cs D W l) (hD : D < W.heap.size) (a b : Value) (T : TypeId) :
    Cs D (W.alloc (.cells #[a, b] T)) ((⟨W.heap.size, 0, none⟩, a) :: (⟨W.heap.size, 1, none⟩, b) :: l) := by
  intro p hp
  simp only [List.mem_cons] at hp
  rcases hp with rfl | rfl | hp
  · exact ⟨by rw [World.cell?_alloc_at _ _ _ _ rfl]; rfl, hD⟩
  · exact ⟨by rw [World.cell?_alloc_at _ _ _ _ rfl]; rfl, hD⟩
  · exact (h.later (Below.alloc (Below.refl _ _) (Nat.le_refl _) _)) p hp

theorem Cs.new4 {D : Nat} {W : World} {l : List (Addr × Value)} (h : Cs D W l) (hD : D < W.heap.size) (a b c d : Value) (T : TypeId) :
    Cs D (W.alloc (.cells #[a, b, c, d] T)) ((⟨W.heap.size, 0, none⟩, a) :: (⟨W.heap.size, 1, none⟩, b) :: (⟨W.heap.size, 2, none⟩, c) :: (⟨W.heap.size, 3, none⟩, d) :: l) := by
  intro p hp
  simp only [List.mem_cons] at hp
  rcases hp with rfl | rfl | rfl | rfl | hp
  · exact ⟨by rw [World.cell?_alloc_at _ _ _ _ rfl]; rfl, hD⟩
  · exact ⟨by rw [World.cell?_alloc_at _ _ _ _ rfl]; rfl, hD⟩
  · exact ⟨by rw [World.cell?_alloc_at _ _ _ _ rfl]; rfl, hD⟩
  · exact ⟨by rw [World.cell?_alloc_at _ _ _ _ rfl]; rfl, hD⟩
  · exact (h.later (Below.alloc (Below.refl _ _) (Nat.le_refl _) _)) p hp

/-- What a law keeps while it goes on: the deck, two layouts, the sizes, some cells. -/
structure Kept (D : Nat) (a2 : Option Addr) (s : List Nat) (a3 : Option Addr) (bs : List Int) (a4 : Option Addr) (cs : List Int) (l : List (Addr × Value)) (W : World) : Prop where
  deck : Deck W D
  sizes : NatsFrom (D + 1) .i64 W a2 s
  first : IntsFrom (D + 1) .i64 W a3 bs
  second : IntsFrom (D + 1) .i64 W a4 cs
  cells : Cs D W l

variable {D : Nat} {a2 a3 a4 : Option Addr} {s : List Nat} {bs cs : List Int} {l : List (Addr × Value)} {W W' : World}

theorem Kept.later (h : Kept D a2 s a3 bs a4 cs l W) (hb : Below W.heap.size W W') : Kept D a2 s a3 bs a4 cs l W' :=
  ⟨h.deck.kept (grownBy_below hb rfl none) (fun k hk => by cases hk), h.sizes.later hb, h.first.later hb, h.second.later hb, h.cells.later hb⟩

theorem Kept.drawn (h : Kept D a2 s a3 bs a4 cs l W) (hg : W.grownBy W' (some D)) (hd : Deck W' D) : Kept D a2 s a3 bs a4 cs l W' :=
  have hr : ∀ d, some D = some d → d < D + 1 := fun d hd => by cases hd; omega
  ⟨hd, h.sizes.kept hg hr, h.first.kept hg hr, h.second.kept hg hr, h.cells.kept hg⟩

theorem Kept.two (h : Kept D a2 s a3 bs a4 cs l W) (a b : Value) (T : TypeId) :
    Kept D a2 s a3 bs a4 cs ((⟨W.heap.size, 0, none⟩, a) :: (⟨W.heap.size, 1, none⟩, b) :: l) (W.alloc (.cells #[a, b] T)) := by
  have hb := Below.alloc (Below.refl W.heap.size W) (Nat.le_refl _) (.cells #[a, b] T)
  have h1 := h.later hb
  exact ⟨h1.deck, h1.sizes, h1.first, h1.second, h.cells.new2 h.deck.lt a b T⟩

theorem Kept.four (h : Kept D a2 s a3 bs a4 cs l W) (a b c d : Value) (T : TypeId) :
    Kept D a2 s a3 bs a4 cs ((⟨W.heap.size, 0, none⟩, a) :: (⟨W.heap.size, 1, none⟩, b) :: (⟨W.heap.size, 2, none⟩, c) :: (⟨W.heap.size, 3, none⟩, d) :: l) (W.alloc (.cells #[a, b, c, d] T)) := by
  have hb := Below.alloc (Below.refl W.heap.size W) (Nat.le_refl _) (.cells #[a, b, c, d] T)
  have h1 := h.later hb
  exact ⟨h1.deck, h1.sizes, h1.first, h1.second, h.cells.new4 h.deck.lt a b c d T⟩

theorem Kept.get (h : Kept D a2 s a3 bs a4 cs l W) {p : Addr} {v : Value} (hp : (p, v) ∈ l) : W.cell? p = some v := (h.cells _ hp).1
end Go.Proofs.Ytpjaflcljnfjmaa
