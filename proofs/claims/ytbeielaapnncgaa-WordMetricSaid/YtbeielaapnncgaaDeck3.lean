/-
  Contracts: New, and the law's own cells.
-/
import Derived.Test.YtbeielaapnncgaaDeck2
namespace Go.Proofs.Ytbeielaapnncgaa
open Go.RowKit

theorem new_any (a : Option Addr) (xs : List Int) (cap : Nat) (w : World) (ha : IntsAt .i64 w a xs) (hx : ∀ x ∈ xs, -9223372036854775808 ≤ x ∧ x ≤ 9223372036854775807) (hl : xs.length ≤ 9223372036854775807) :
    Calls Try.prog 17 #[.slice a xs.length cap] w fun e w' => e = .returned (.pointer (some ⟨w.heap.size, 0, none⟩)) ∧ Deck w' w.heap.size ∧ Below w.heap.size w w' := by
  have hD : Deck (w.alloc (.cells #[.slice a xs.length cap, .int .i64 0] 56)) w.heap.size := by
    refine ⟨a, xs, cap, 0, ?_, ?_, ?_, by omega, hl, hx, ?_⟩
    · rw [World.cell?_alloc_at _ _ _ _ rfl]; rfl
    · rw [World.cell?_alloc_at _ _ _ _ rfl]; rfl
    · go_simp
    · rcases ha with h | ⟨b, off, ha, hc⟩
      · exact .inl h
      · by_cases h0 : xs = []
        · exact .inl h0
        · have hpos : 0 < xs.length := by cases xs with | nil => exact absurd rfl h0 | cons x r => simp
          have hb := World.block_lt_of_cell? _ _ (hc 0 hpos)
          exact .inr ⟨b, off, ha, hb, fun j hj => cell_later ((Below.refl _ _).alloc (Nat.le_refl _) _) (hc j hj)⟩
  have HD := Lib.hid hD
  clear hD ha hx
  go_enter Try.func17, Try.ntmps17
  go_wp2
  go_ret
  exact ⟨rfl, HD.out, (Below.refl _ _).alloc (Nat.le_refl _) _⟩

theorem newbox {w1 w2 : World} {a b : Value} {T : TypeId} {D : Nat} (hg : (w1.alloc (.cells #[a, b] T)).grownBy w2 (some D)) (hD : D < w1.heap.size) :
    w2.cell? ⟨w1.heap.size, 0, none⟩ = some a ∧ w2.cell? ⟨w1.heap.size, 1, none⟩ = some b ∧ w2.frozen? ⟨w1.heap.size, 0, none⟩ = false ∧ w1.heap.size < w2.heap.size := by
  have h0 : (w1.alloc (.cells #[a, b] T)).cell? ⟨w1.heap.size, 0, none⟩ = some a := by rw [World.cell?_alloc_at _ _ _ _ rfl]; rfl
  have h1 : (w1.alloc (.cells #[a, b] T)).cell? ⟨w1.heap.size, 1, none⟩ = some b := by rw [World.cell?_alloc_at _ _ _ _ rfl]; rfl
  have h2 : (w1.alloc (.cells #[a, b] T)).frozen? ⟨w1.heap.size, 0, none⟩ = false := by go_simp
  have hne : some w1.heap.size ≠ some D := by simp; omega
  have hB := World.block_lt_of_cell? _ _ h0
  have k0 := hg.cell h0 hne
  exact ⟨k0, hg.cell h1 hne, by rw [World.frozen?_of_block (w := w1.alloc (.cells #[a, b] T)) (hg.block w1.heap.size hB hne)]; exact h2, World.block_lt_of_cell? _ _ k0⟩

theorem new_behind (w : World) (a : Addr) (u : Value) (o : Obj) : ((w.setCell a u).alloc o).heap[w.heap.size]? = some o := by
  have h := heap_alloc_new (w.setCell a u) o
  rw [show (w.setCell a u).heap.size = w.heap.size by simp [World.setCell]] at h
  exact h

theorem flat_snoc (xs : List (Nat × Nat)) (t v : Nat) : flat xs ++ [.int .u8 (t : Int), .int .u16 (v : Int)] = flat (xs ++ [(t, v)]) := by rw [flat_append]; rfl

theorem ok_snoc {xs : List (Nat × Nat)} (h : OkCells xs) {t v : Nat} (ht : t < 256) (hv : v < 65536) : OkCells (xs ++ [(t, v)]) := by
  intro x hx
  rcases List.mem_append.1 hx with hx | hx
  · exact h x hx
  · simp at hx; subst hx; exact ⟨ht, hv⟩

/-- Cells that lie in a block from B on. -/
def CellsFrom (B : Nat) (w : World) (a : Option Addr) (xs : List (Nat × Nat)) : Prop :=
  xs = [] ∨ ∃ b off, a = some ⟨b, off, none⟩ ∧ B ≤ b ∧ ∀ i (h : i < xs.length), w.cell? ⟨b, off + i * 2, none⟩ = some (.int .u8 (xs[i].1 : Int)) ∧ w.cell? ⟨b, off + i * 2 + 1, none⟩ = some (.int .u16 (xs[i].2 : Int))

theorem CellsFrom.at {B : Nat} {w : World} {a : Option Addr} {xs : List (Nat × Nat)} (h : CellsFrom B w a xs) : CellsAt w a xs := by
  rcases h with h | ⟨b, off, ha, _, h⟩
  · exact .inl h
  · exact .inr ⟨b, off, ha, h⟩

theorem CellsFrom.mono {B B' : Nat} {w : World} {a : Option Addr} {xs : List (Nat × Nat)} (h : CellsFrom B w a xs) (hB : B' ≤ B) : CellsFrom B' w a xs := by
  rcases h with h | ⟨b, off, ha, hb, h⟩
  · exact .inl h
  · exact .inr ⟨b, off, ha, by omega, h⟩

theorem CellsFrom.kept {B D : Nat} {w w' : World} {a : Option Addr} {xs : List (Nat × Nat)} (h : CellsFrom B w a xs) (hg : w.grownBy w' (some D)) (hD : D < B) : CellsFrom B w' a xs := by
  rcases h with h | ⟨b, off, ha, hb, h⟩
  · exact .inl h
  · exact .inr ⟨b, off, ha, hb, fun i hi => ⟨hg.cell (h i hi).1 (by simp; omega), hg.cell (h i hi).2 (by simp; omega)⟩⟩

theorem CellsFrom.of_row {w : World} {base : Nat} {e : TypeId} {v : Value} {n : Nat} {xs : List (Nat × Nat)} (h : w.ownsRow base e 2 v n (flat xs)) :
    ∃ a cap, v = .slice a xs.length cap ∧ CellsFrom base w a xs ∧ (a = none → cap = 0) := by
  have hl := h.lt
  have hnil : ∀ n cap, v = .slice none n cap → cap = 0 := by
    intro n' cap' hv
    rcases h.2 with ⟨hv2, _⟩ | ⟨g, cap2, cur, hv2, _⟩
    · rw [hv2] at hv; simp at hv; exact hv.2.symm
    · rw [hv2] at hv; simp at hv
  obtain ⟨_, a, cap, hv, hc⟩ := CellsAt.of_row h
  refine ⟨a, cap, hv, ?_, fun e => by subst e; exact hnil _ _ hv⟩
  rcases hc with hc | ⟨b, off, ha, hc⟩
  · exact .inl hc
  · subst hv ha
    exact .inr ⟨b, off, rfl, (hl b rfl).1, hc⟩

/-- The call gives a new list of up to n cells and writes to the deck alone. -/
def GivesList (n : Nat) (D : Nat) (w : World) (e : Ending) (w' : World) : Prop :=
  ∃ a cap xs, e = .returned (.slice a xs.length cap) ∧ CellsFrom w.heap.size w' a xs ∧ OkCells xs ∧ xs.length ≤ n ∧ Deck w' D ∧ w.grownBy w' (some D) ∧ (a = none → cap = 0)

/-- Writes to a block of the call's own do not count. -/
theorem grown_own {w w1 w2 : World} {D : Nat} {r : Option Nat} (h : w.grownBy w1 (some D)) (k : w1.grownBy w2 r) (hr : ∀ b, r = some b → w.heap.size ≤ b) : w.grownBy w2 (some D) :=
  ⟨k.os.trans h.os, k.tape.trans h.tape, k.output.trans h.output, Nat.le_trans h.size k.size, fun j hj hne =>
    (k.block j (Nat.lt_of_lt_of_le hj h.size) (fun e => by have := hr j e.symm; omega)).trans (h.block j hj hne)⟩

theorem cells_any (D n : Nat) (w : World) (hd : Deck w D) (hn : n ≤ 1000) :
    Calls Try.prog 18 #[.pointer (some ⟨D, 0, none⟩), .int .i64 (n : Int)] w (GivesList n D w) := by
  obtain ⟨i0, hi, hz0, hz1, hz2⟩ := info_parts info_cell
  have hDl := hd.lt
  have hN := Lib.hid (fun m W (h : Deck W D) (h1 : 1 ≤ m) (h2 : m ≤ 1000000) => next_any D m W h h1 h2)
  have hC := Lib.hid (fun W (h : Deck W D) => cell_any D W h)
  go_enter Try.func18, Try.ntmps18
  go_wp2_with (go_at_call 19; (with_reducible refine (hN.out ((n : Int) + 1) _ hd (by omega) (by omega)).mono ?_); rintro e w0 ⟨r, hr, rfl, hd0, hg0⟩)
  go_loopw [5, 6] (fun v c wr => ∃ (j : Nat) (xs : List (Nat × Nat)), c = .int .i64 j ∧ xs.length + j ≤ n ∧ wr.ownsRow w.heap.size 24 2 v xs.length (flat xs) ∧ OkCells xs ∧ Deck wr D ∧ w.grownBy wr (some D)) (fun _ c _ => (intOf c).toNat)
  case atStart => exact ⟨r, [], rfl, by simp; omega, World.ownsRow_nil _ _ _ _, by intro x hx; simp at hx, hd0, hg0⟩
  case round =>
    obtain ⟨j, xs, rfl, hj, hown, hok, hdr, hgr⟩ := hrel
    by_cases h0 : 0 < j
    · have hlt := hgr.size
      have hrD : D < wr.heap.size := hdr.lt
      go_wp2_with fail
      refine (hC.out _ hdr).mono ?_
      rintro e w1 ⟨t, v, ht, hv, rfl, hd1, hg1⟩
      have hs1 := hg1.size
      have hd1a := hd1.kept (World.grownBy_alloc w1 (.cells #[.int .u8 (t : Int), .int .u16 (v : Int)] 24) none) (fun k hk => by cases hk)
      have own1 := (hown.kept hg1 (by right; intro e; have := (hown.lt D e).1; omega)).alloc (.cells #[.int .u8 (t : Int), .int .u16 (v : Int)] 24)
      have G1 := Lib.hid (grownBy_more (grownBy_trans hgr hg1) (.cells #[.int .u8 (t : Int), .int .u16 (v : Int)] 24))
      go_wp2_with fail
      refine (hN.out 9 _ hd1a (by omega) (by omega)).mono ?_
      rintro e w2 ⟨s, hs, rfl, hd2, hg2⟩
      obtain ⟨k0, k1, f0, hs2⟩ := newbox hg2 (by omega)
      have own2 := own1.kept hg2 (by right; intro e; have := (hown.lt D e).1; omega)
      have G2 := Lib.hid (grownBy_trans G1.out hg2)
      have HO := Lib.hid hown
      clear hown own1 hg1 hg2 hd1a hd1 hdr hgr G1
      by_cases h9 : s = 0
      · subst h9
        go_wp2_with fail
        refine (hN.out 256 _ hd2 (by omega) (by omega)).mono ?_
        rintro e w3 ⟨s3, hs3, rfl, hd3, hg3⟩
        have hw8 : IntKind.u8.wrap (s3 : Int) = (s3 : Int) := by rw [IntKind.wrap_u8']; omega
        have l0 := hg3.cell k0 (by simp; omega)
        have l1 := hg3.cell k1 (by simp; omega)
        have lf : w3.frozen? ⟨w1.heap.size, 0, none⟩ = false := by rw [World.frozen?_of_block (w := w2) (hg3.block w1.heap.size hs2 (by simp; omega))]; exact f0
        have own3 := own2.kept hg3 (by right; intro e; have := (HO.out.lt D e).1; omega)
        have ownS := own3.kept (grownBy_cell w3 w1.heap.size 0 (.int .u8 (s3 : Int))) (by right; intro e; have := (HO.out.lt _ e).2; omega)
        have G3 := Lib.hid (grownBy_new (grownBy_trans G2.out hg3) (B := w1.heap.size) (by omega) 0 (.int .u8 (s3 : Int)))
        have hdS := hd3.kept (grownBy_cell w3 w1.heap.size 0 (.int .u8 (s3 : Int))) (fun k hk => by cases hk; omega)
        have hs4 := hg3.size
        clear hg3 own2 own3 k0 k1 f0 hd2 hd3
        go_wp2_with (first
          | (at_builtin; refine wpList_append_own _ rfl (.tmp 25) (.tmp 27) 32 rfl w.heap.size 24 i0 (.agg #[.int .u8 0, .int .u16 0]) 2 4 Try.underlying32 hi hz0 hz1 hz2 rfl (by decide) _ _ _ rfl (ownS.alloc _) ⟨w3.heap.size, 0, none⟩ 1 1 [.int .u8 (s3 : Int), .int .u16 (v : Int)] rfl rfl ?c1 ?c2 ?c3 ?c4 ?c5 ?_))
        case c1 => exact World.news_of_block (cs := #[.int .u8 (s3 : Int), .int .u16 (v : Int)]) (t := 24) (fr := (0, 0)) (new_behind w3 _ _ _)
        case c2 => simp [Value.oneCell']
        case c3 => unfold maxLen; omega
        case c4 => omega
        case c5 => simp; omega
        intro v' w5 hown2 hgrow _h3
        rw [flat_snoc] at hown2
        have hbl := ownS.lt
        have R1 := Lib.hid (hdS.kept (grownBy_trans (World.grownBy_alloc _ (.cells #[.int .u8 (s3 : Int), .int .u16 (v : Int)] 24) _) hgrow) (fun k hk => by have := (hbl k hk).1; omega))
        have R2 := Lib.hid (grown_own (grownBy_more G3.out _) hgrow (fun k hk => (hbl k hk).1))
        have R3 := Lib.hid (ok_snoc hok (by omega : s3 < 256) hv)
        have R4 := Lib.hid hown2
        clear hgrow _h3 hown2 hbl ownS hdS hok l0 l1 lf
        go_wp2
        go_roundw
        case rel => exact ⟨j - 1, xs ++ [(s3, v)], by go_num, by simp; omega, by simpa using R4.out, R3.out, R1.out, R2.out⟩
        case measure => simp [intOf]; omega
      · have h9b : ((s : Int) == 0) = false := by rw [beq_eq_false_iff_ne]; omega
        go_wp2_with (first
          | (at_builtin; refine wpList_append_own _ rfl (.tmp 25) (.tmp 27) 32 rfl w.heap.size 24 i0 (.agg #[.int .u8 0, .int .u16 0]) 2 4 Try.underlying32 hi hz0 hz1 hz2 rfl (by decide) _ _ _ rfl (own2.alloc _) ⟨w2.heap.size, 0, none⟩ 1 1 [.int .u8 (t : Int), .int .u16 (v : Int)] rfl rfl ?c1 ?c2 ?c3 ?c4 ?c5 ?_))
        case c1 => exact World.news_of_block (cs := #[.int .u8 (t : Int), .int .u16 (v : Int)]) (t := 24) (fr := (0, 0)) (heap_alloc_new _ _)
        case c2 => simp [Value.oneCell']
        case c3 => unfold maxLen; omega
        case c4 => omega
        case c5 => simp; omega
        intro v' w5 hown2 hgrow _h3
        rw [flat_snoc] at hown2
        have hbl := own2.lt
        have R1 := Lib.hid (hd2.kept (grownBy_trans (World.grownBy_alloc _ (.cells #[.int .u8 (t : Int), .int .u16 (v : Int)] 24) _) hgrow) (fun k hk => by have := (hbl k hk).1; omega))
        have R2 := Lib.hid (grown_own (grownBy_more G2.out _) hgrow (fun k hk => (hbl k hk).1))
        have R3 := Lib.hid (ok_snoc hok (by omega : t < 256) hv)
        have R4 := Lib.hid hown2
        clear hgrow _h3 hown2 hbl own2 hd2 hok k0 k1 f0
        go_wp2
        go_roundw
        case rel => exact ⟨j - 1, xs ++ [(t, v)], by go_num, by simp; omega, by simpa using R4.out, R3.out, R1.out, R2.out⟩
        case measure => simp [intOf]; omega
    · obtain rfl : j = 0 := by omega
      obtain ⟨a2, cap2, rfl, hn2, hnn⟩ := CellsFrom.of_row hown
      have HG : Hid (GivesList n D w (.returned (.slice a2 xs.length cap2)) wr) := Lib.hid ⟨a2, cap2, xs, rfl, hn2, hok, by omega, hdr, hgr, hnn⟩
      clear hn2 hown hok hdr hgr hnn
      go_wp2
      go_ret
      exact HG.out
end Go.Proofs.Ytbeielaapnncgaa
