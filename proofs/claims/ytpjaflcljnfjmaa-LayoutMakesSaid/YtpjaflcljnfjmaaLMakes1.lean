/-
  Texts for LayoutMakes: rows of ints, three layouts in a block, the short way.
-/
import Derived.Test.YtpjaflcljnfjmaaLay2
import Derived.Test.YtpjaflcljnfjmaaLay3
import Derived.Test.YtpjaflcljnfjmaaLay6
import Derived.Test.YtpjaflcljnfjmaaLBackMath
import Derived.Test.YtpjaflcljnfjmaaLayAwake
import Derived.OwnWalk
namespace Go.Proofs.Ytpjaflcljnfjmaa.layoutMakesLaw
open Go.RowKit Go.ChangeShapes Go.WideShapes Go.ChangeAt

theorem ints_of_row {w : World} {base : Nat} {e : TypeId} {v : Value} {n : Nat} {xs : List Int} (h : w.ownsRow base e 1 v n (xs.map fun x : Int => Value.int .i64 x)) :
    ∃ a cap, v = .slice a xs.length cap ∧ IntsAt .i64 w a xs ∧ xs.length ≤ cap := by
  have hn : n = xs.length := by have := h.1; simp at this; omega
  subst hn
  rcases h.2 with ⟨hv, h0⟩ | ⟨g, cap, cur, hv, hb, hg, hnc, hrest⟩
  · have hx : xs = [] := by cases xs with | nil => rfl | cons x r => simp at h0
    subst hx
    exact ⟨none, 0, hv, Or.inl rfl, by simp⟩
  · refine ⟨Option.some ⟨g, 0, none⟩, cap, hv, Or.inr ⟨g, 0, rfl, fun i hi => ?_⟩, hnc⟩
    subst hv
    have := h.cellAt i (by omega)
    rw [Nat.zero_add, this, List.getElem?_map, List.getElem?_eq_getElem hi]
    rfl

theorem ints_one (zs : List Int) : ∀ u ∈ zs.map (fun x : Int => Value.int .i64 x), u.oneCell' = true := by
  intro u hu
  obtain ⟨x, _, rfl⟩ := List.mem_map.1 hu
  rfl

theorem put_same {W : World} {p : Addr} {u : Value} (h : W.cell? p = some u) (v : Value) : (W.setCell p v).cell? p = some v := by go_simp

theorem put_other {W : World} {p q : Addr} {u : Value} (h : W.cell? q = some u) (hne : q ≠ p) (v : Value) : (W.setCell p v).cell? q = some u := by
  rw [World.cell?_setCell_other (h := Ne.symm hne)]; exact h

/-- Block Q holds three layouts. -/
def Trio (W : World) (Q : Nat) : Prop :=
  ∀ k : Nat, k < 3 → ∃ (a : Option Addr) (ys : List Int) (cap : Nat) (key : Int), W.cell? ⟨Q, k * 2, none⟩ = some (.slice a ys.length cap) ∧ W.cell? ⟨Q, k * 2 + 1, none⟩ = some (.int .u16 key) ∧ IntsAt .i64 W a ys ∧ ys.length ≤ 30 ∧ ys.length ≤ cap

theorem trio_new {w : World} {a b c : Option Addr} {xs ys zs : List Int} {ca cb cc : Nat} {ka kb kc : Int} (T : TypeId) (h1 : IntsAt .i64 w a xs) (h2 : IntsAt .i64 w b ys) (h3 : IntsAt .i64 w c zs) (l1 : xs.length ≤ 30) (l2 : ys.length ≤ 30) (l3 : zs.length ≤ 30)
    (m1 : xs.length ≤ ca) (m2 : ys.length ≤ cb) (m3 : zs.length ≤ cc) :
    Trio (w.alloc (.cells #[.slice a xs.length ca, .int .u16 ka, .slice b ys.length cb, .int .u16 kb, .slice c zs.length cc, .int .u16 kc] T)) w.heap.size := by
  intro k hk
  have hB : Below w.heap.size w (w.alloc (.cells #[.slice a xs.length ca, .int .u16 ka, .slice b ys.length cb, .int .u16 kb, .slice c zs.length cc, .int .u16 kc] T)) := Below.alloc (Below.refl _ _) (Nat.le_refl _) _
  have : k = 0 ∨ k = 1 ∨ k = 2 := by omega
  rcases this with rfl | rfl | rfl
  · exact ⟨a, xs, ca, ka, by rw [World.cell?_alloc_at _ _ _ _ rfl]; rfl, by rw [World.cell?_alloc_at _ _ _ _ rfl]; rfl, h1.later hB, l1, m1⟩
  · exact ⟨b, ys, cb, kb, by rw [World.cell?_alloc_at _ _ _ _ rfl]; rfl, by rw [World.cell?_alloc_at _ _ _ _ rfl]; rfl, h2.later hB, l2, m2⟩
  · exact ⟨c, zs, cc, kc, by rw [World.cell?_alloc_at _ _ _ _ rfl]; rfl, by rw [World.cell?_alloc_at _ _ _ _ rfl]; rfl, h3.later hB, l3, m3⟩

theorem Trio.later {W W' : World} {Q : Nat} (h : Trio W Q) (hb : Below W.heap.size W W') : Trio W' Q := by
  intro k hk
  obtain ⟨a, ys, cap, key, h1, h2, h3, h4, h5⟩ := h k hk
  exact ⟨a, ys, cap, key, cell_later hb h1, cell_later hb h2, h3.later hb, h4, h5⟩

/-- Block Q holds three seeds. -/
theorem seeds_new (w : World) (a b c : Int) (T : TypeId) : ∀ k : Nat, k < 3 → ∃ q : Int, (q = a ∨ q = b ∨ q = c) ∧ (w.alloc (.cells #[.int .i64 a, .int .i64 b, .int .i64 c] T)).cell? ⟨w.heap.size, k, none⟩ = some (.int .i64 q) := by
  intro k hk
  have : k = 0 ∨ k = 1 ∨ k = 2 := by omega
  rcases this with rfl | rfl | rfl
  · exact ⟨a, .inl rfl, by rw [World.cell?_alloc_at _ _ _ _ rfl]; rfl⟩
  · exact ⟨b, .inr (.inl rfl), by rw [World.cell?_alloc_at _ _ _ _ rfl]; rfl⟩
  · exact ⟨c, .inr (.inr rfl), by rw [World.cell?_alloc_at _ _ _ _ rfl]; rfl⟩

/-- A slice of ints out of its cell, with its capacity. -/
theorem open_cellnums {H : Type} {enc : TypeId × Value → H} {W : World} {n : Nat} {c : Value} {x : DataW H × List MemPlace} (h : DataW.trod enc Try.prog W 0 (fun _ => true) true n 22 [c] = some x) :
    ∃ a xs cap, c = .slice a xs.length cap ∧ IntsAt .i64 W a xs ∧ (∀ x ∈ xs, (Lit.int .i64 x).wf = true) ∧ xs.length ≤ cap := by
  rcases open_ints Try.underlying22 Try.underlying3 (by kernel_rfl) h with ⟨hcs, _⟩ | ⟨x, l, c, zs, hcs, _, hl, hm, hz, _, hcell, hwz⟩
  · simp at hcs
    subst hcs
    exact ⟨none, [], 0, rfl, .inl rfl, (by intro x hx; simp at hx), by simp⟩
  · simp at hcs
    subst hcs
    have hz2 : zs.length = c := by simpa using hz
    have hlen : (zs.take l).length = l := by rw [List.length_take]; omega
    refine ⟨some x, zs.take l, c, by rw [hlen], ?_, fun y hy => hwz y (List.mem_of_mem_take hy), by omega⟩
    by_cases h0 : l = 0
    · subst h0
      exact .inl (by simp)
    · obtain ⟨b, off, spot⟩ := x
      have hc := hcell 0 (by omega)
      have hspot : spot = none := by simpa [Addr.add] using World.cell?_spot hc
      subst hspot
      refine .inr ⟨b, off, rfl, fun i hi => ?_⟩
      have hi2 : i < zs.length := by omega
      have := hcell i hi2
      rw [List.getElem_take]
      have e : (⟨b, off, none⟩ : Addr).add i = ⟨b, off + i, none⟩ := by unfold Addr.add; split <;> simp_all
      rw [e, List.getD_eq_getElem?_getD, List.getElem?_eq_getElem hi2] at this
      exact this

theorem length_mkL (xs : List Int) (seed : Int) : (mkL xs seed).length ≤ xs.length := by
  unfold mkL
  split
  · rw [length_mkB, List.length_map]; exact Nat.le_refl _
  · simp

set_option maxRecDepth 100000 in
/-- The short way: a list is too long. -/
theorem long (ra sa a : Option Addr) (rbs sxs xs : List Int) (rc sc ca : Nat) (rkey p q r : Int) (w : World) (h : 30 < rbs.length ∨ 30 < sxs.length) :
    Calls Try.prog 3 #[.agg #[.slice ra rbs.length rc, .int .u16 rkey], .slice sa sxs.length sc, .slice a xs.length ca, .int .i64 p, .int .i64 q, .int .i64 r] w fun e w' => e = .returned (.bool true) ∧ Below w.heap.size w w' := by
  have hB := Below.alloc (Below.refl w.heap.size w) (Nat.le_refl _) (.cells #[.slice ra rbs.length rc, .int .u16 rkey] 25)
  have hAw := Lib.hid (law03_awake (w.alloc (.cells #[.slice ra rbs.length rc, .int .u16 rkey] 25)))
  by_cases h1 : 30 < rbs.length
  · clear h
    go_enter Try.func3, Try.ntmps3
    go_wp2_with (go_at_call 6; (with_reducible refine hAw.out.mono ?_); rintro e w' ⟨rfl, hb5⟩)
    go_ret
    exact ⟨rfl, hB.trans (hb5.mono (by simp))⟩
  · have h2 : 30 < sxs.length := by omega
    clear h
    go_enter Try.func3, Try.ntmps3
    go_wp2_with (go_at_call 6; (with_reducible refine hAw.out.mono ?_); rintro e w' ⟨rfl, hb5⟩)
    go_ret
    exact ⟨rfl, hB.trans (hb5.mono (by simp))⟩
end Go.Proofs.Ytpjaflcljnfjmaa.layoutMakesLaw
