/-
  Contracts: awake of the law; the deck's Sizes and Place.
-/
import Derived.Test.YthajndgljfbifaaReg3
import Derived.Test.YthajndgljfbifaaDeckNext
namespace Go.Proofs.Ythajndgljfbifaa
open Go.RowKit
/-- Numbers that lie in a block from B on. -/
def NatsFrom (B : Nat) (k : IntKind) (w : World) (a : Option Addr) (xs : List Nat) : Prop :=
  xs = [] ∨ ∃ b off, a = some ⟨b, off, none⟩ ∧ B ≤ b ∧ ∀ i (h : i < xs.length), w.cell? ⟨b, off + i, none⟩ = some (.int k (xs[i] : Int))

theorem NatsFrom.at {B : Nat} {k : IntKind} {w : World} {a : Option Addr} {xs : List Nat} (h : NatsFrom B k w a xs) : NatsAt k w a xs := by
  rcases h with h | ⟨b, off, ha, _, h⟩
  · exact .inl h
  · exact .inr ⟨b, off, ha, h⟩

theorem NatsFrom.mono {B B' : Nat} {k : IntKind} {w : World} {a : Option Addr} {xs : List Nat} (h : NatsFrom B k w a xs) (hB : B' ≤ B) : NatsFrom B' k w a xs := by
  rcases h with h | ⟨b, off, ha, hb, h⟩
  · exact .inl h
  · exact .inr ⟨b, off, ha, by omega, h⟩

theorem NatsFrom.kept {B : Nat} {k : IntKind} {w w' : World} {a : Option Addr} {xs : List Nat} {r : Option Nat} (h : NatsFrom B k w a xs) (hg : w.grownBy w' r) (hr : ∀ d, r = some d → d < B) : NatsFrom B k w' a xs := by
  rcases h with h | ⟨b, off, ha, hb, h⟩
  · exact .inl h
  · exact .inr ⟨b, off, ha, hb, fun i hi => hg.cell (h i hi) (fun e => by have := hr b e.symm; omega)⟩

theorem NatsFrom.later {B : Nat} {k : IntKind} {w w' : World} {a : Option Addr} {xs : List Nat} (h : NatsFrom B k w a xs) (hb : Below w.heap.size w w') : NatsFrom B k w' a xs := by
  rcases h with h | ⟨b, off, ha, hB, h⟩
  · exact .inl h
  · exact .inr ⟨b, off, ha, hB, fun i hi => cell_later hb (h i hi)⟩

theorem NatsFrom.of_row {k : IntKind} {w : World} {base : Nat} {e : TypeId} {v : Value} {n : Nat} {xs : List Nat} (h : w.ownsRow base e 1 v n (xs.map fun x : Nat => Value.int k (x : Int))) :
    ∃ a cap, v = .slice a xs.length cap ∧ NatsFrom base k w a xs ∧ xs.length ≤ cap ∧ (a = none → cap = 0) := by
  have hn : n = xs.length := by have := h.1; simp at this; omega
  subst hn
  rcases h.2 with ⟨hv, h0⟩ | ⟨g, cap, cur, hv, hb, hg, hnc, hrest⟩
  · have hx : xs = [] := by cases xs with | nil => rfl | cons x r => simp at h0
    subst hx
    exact ⟨none, 0, hv, Or.inl rfl, by simp, fun _ => rfl⟩
  · refine ⟨Option.some ⟨g, 0, none⟩, cap, hv, Or.inr ⟨g, 0, rfl, hb, fun i hi => ?_⟩, hnc, fun e => by cases e⟩
    subst hv
    have := h.cellAt i (by omega)
    rw [Nat.zero_add, this, List.getElem?_map, List.getElem?_eq_getElem hi]
    rfl

/-- The call gives some valid sizes in new memory and writes to the deck alone. -/
def GivesSizes (D : Nat) (w : World) (e : Ending) (w' : World) : Prop :=
  ∃ a cap s, e = .returned (.slice a s.length cap) ∧ NatsFrom w.heap.size .i64 w' a s ∧ s.length ≤ cap ∧ Sz s ∧ Deck w' D ∧ w.grownBy w' (some D)

theorem lim_of (r : Nat) (hr : (r : Int) < 3) : ∃ m : Nat, 1 ≤ m ∧ m ≤ 32 ∧ ∀ w : World, (w.alloc (.cells #[.int .i64 6, .int .i64 12, .int .i64 32] 3)).cell? ⟨w.heap.size, r, none⟩ = some (.int .i64 (m : Int)) := by
  have hr3 : r = 0 ∨ r = 1 ∨ r = 2 := by omega
  rcases hr3 with rfl | rfl | rfl
  · exact ⟨6, by omega, by omega, fun w => by rw [World.cell?_alloc_at _ _ _ _ rfl]; rfl⟩
  · exact ⟨12, by omega, by omega, fun w => by rw [World.cell?_alloc_at _ _ _ _ rfl]; rfl⟩
  · exact ⟨32, by omega, by omega, fun w => by rw [World.cell?_alloc_at _ _ _ _ rfl]; rfl⟩

theorem info_int : (Try.prog.info? 3).map (fun i => (i.zero, i.size, i.bytes)) = some (some (.int .i64 0), 1, 8) := by kernel_rfl

theorem nmap_snoc (k : IntKind) (l : List Nat) (x : Nat) : l.map (fun y : Nat => Value.int k (y : Int)) ++ [.int k (x : Int)] = (l ++ [x]).map (fun y : Nat => Value.int k (y : Int)) := by simp

theorem deck_Sizes (D : Nat) (w : World) (hd : Deck w D) :
    Calls Try.prog 38 #[.pointer (some ⟨D, 0, none⟩)] w (GivesSizes D w) := by
  obtain ⟨i0, hi, hz0, hz1, hz2⟩ := info_parts info_int
  have hDl := hd.lt
  have hN := Lib.hid (fun m W (h : Deck W D) (h1 : 1 ≤ m) (h2 : m ≤ 4000000000) => deck_Next D m W h h1 h2)
  go_enter Try.func38, Try.ntmps38
  go_wp2_with fail
  refine (hN.out 9 _ hd (by omega) (by omega)).mono ?_
  rintro e w1 ⟨r, hr, rfl, hd1, hg1⟩
  have hs1 := hg1.size
  have hd1a := hd1.kept (World.grownBy_alloc w1 (.cells #[.int .i64 (4 + (r : Int))] 3) none) (fun k hk => by cases hk)
  have own1 : (w1.alloc (.cells #[.int .i64 (4 + (r : Int))] 3)).ownsRow w.heap.size 3 1 (.slice (some ⟨w1.heap.size, 0, none⟩) 1 1) 1 [.int .i64 (4 + (r : Int))] :=
    World.ownsRow_lit w1 #[.int .i64 (4 + (r : Int))] 1 hs1 (by unfold maxLen; omega) rfl
  have G1 := Lib.hid (grownBy_more hg1 (.cells #[.int .i64 (4 + (r : Int))] 3))
  clear hg1 hd1
  go_wp2_with fail
  refine (hN.out 4 _ hd1a (by omega) (by omega)).mono ?_
  rintro e w2 ⟨q, hq, rfl, hd2, hg2⟩
  have own2 := own1.kept hg2 (by right; intro e; have := (own1.lt D e).1; omega)
  have G2 := Lib.hid (grownBy_trans G1.out hg2)
  clear own1 hg2 G1 hd1a
  go_wp2_with fail
  go_loopw [3, 4] (fun v c wr => ∃ (j : Nat) (s : List Nat), c = .int .i64 j ∧ 1 ≤ s.length ∧ s.length + j ≤ 4 ∧ wr.ownsRow w.heap.size 3 1 v s.length (s.map fun x : Nat => Value.int .i64 (x : Int)) ∧ (∀ x ∈ s, 1 ≤ x ∧ x ≤ 32) ∧ Deck wr D ∧ w.grownBy wr (some D)) (fun _ c _ => (intOf c).toNat)
  case atStart => exact ⟨q, [4 + r], rfl, by simp, by simp; omega, by simpa using own2, by intro x hx; simp at hx; omega, hd2, G2.out⟩
  case round =>
    obtain ⟨j, s, rfl, hs0, hj, hown, hok, hdr, hgr⟩ := hrel
    by_cases h0 : 0 < j
    · have hlt := hgr.size
      have hrD : D < wr.heap.size := hdr.lt
      have hdra := hdr.kept (World.grownBy_alloc wr (.cells #[.int .i64 6, .int .i64 12, .int .i64 32] 3) none) (fun k hk => by cases hk)
      have own0 := hown.alloc (.cells #[.int .i64 6, .int .i64 12, .int .i64 32] 3)
      have G0 := Lib.hid (grownBy_more hgr (.cells #[.int .i64 6, .int .i64 12, .int .i64 32] 3))
      clear hd2 own2 G2
      go_wp2_with fail
      refine (hN.out 3 _ hdra (by omega) (by omega)).mono ?_
      rintro e w3 ⟨p, hp, rfl, hd3, hg3⟩
      obtain ⟨m, hm1, hm2, hAny⟩ := lim_of p hp
      have c3 := hg3.cell (hAny wr) (by simp; omega)
      have hp0 : 0 ≤ (p : Int) := by omega
      have own3 := own0.kept hg3 (by right; intro e; have := (hown.lt D e).1; omega)
      have G3 := Lib.hid (grownBy_trans G0.out hg3)
      have hs3 := hg3.size
      clear hAny hdra own0 hg3 G0
      go_wp2_with fail
      refine (hN.out (m : Int) _ hd3 (by omega) (by omega)).mono ?_
      rintro e w4 ⟨t, ht, rfl, hd4, hg4⟩
      have own4 := (own3.kept hg4 (by right; intro e; have := (hown.lt D e).1; omega)).alloc (.cells #[.int .i64 (1 + (t : Int))] 3)
      have G4 := Lib.hid (grownBy_more (grownBy_trans G3.out hg4) (.cells #[.int .i64 (1 + (t : Int))] 3))
      have hd4a := hd4.kept (World.grownBy_alloc w4 (.cells #[.int .i64 (1 + (t : Int))] 3) none) (fun k hk => by cases hk)
      have hs4 := hg4.size
      have hs3b : wr.heap.size ≤ w3.heap.size := by simp at hs3; omega
      clear own3 hg4 hd3 hd4 c3 G3 hs3
      go_wp2_with (first
        | (at_builtin; refine wpList_append_own _ rfl _ _ 23 rfl w.heap.size 3 i0 (.int .i64 0) 1 8 Try.underlying23 hi hz0 hz1 hz2 rfl (by decide) _ _ _ rfl own4 ⟨w4.heap.size, 0, none⟩ 1 1 [.int .i64 (1 + (t : Int))] rfl rfl ?c1 ?c2 ?c3 ?c4 ?c5 ?_))
      case c1 => exact World.news_of_block (cs := #[.int .i64 (1 + (t : Int))]) (t := 3) (fr := (0, 0)) (heap_alloc_new _ _)
      case c2 => simp [Value.oneCell']
      case c3 => unfold maxLen; omega
      case c4 => omega
      case c5 => simp; omega
      intro v' w5 hown2 hgrow _h3
      rw [show 1 + (t : Int) = ((1 + t : Nat) : Int) by omega, nmap_snoc] at hown2
      have hbl := own4.lt
      have R1 := Lib.hid (hd4a.kept hgrow (fun k hk => by have := (hbl k hk).1; omega))
      have R2 := Lib.hid (grown_own G4.out hgrow (fun k hk => (hbl k hk).1))
      have R3 : Hid (∀ x ∈ s ++ [1 + t], 1 ≤ x ∧ x ≤ 32) := Lib.hid (fun x hx => by
        rcases List.mem_append.1 hx with hx | hx
        · exact hok x hx
        · simp at hx; omega)
      have R4 := Lib.hid hown2
      clear hgrow _h3 hown2 hbl own4 hd4a hok hown hdr hgr
      go_wp2
      go_roundw
      case rel => exact ⟨j - 1, s ++ [1 + t], by go_num, by simp, by simp; omega, by simpa using R4.out, R3.out, R1.out, R2.out⟩
      case measure => simp [intOf]; omega
    · obtain rfl : j = 0 := by omega
      obtain ⟨a2, cap2, rfl, hn2, hcap, _⟩ := NatsFrom.of_row hown
      have HG : Hid (GivesSizes D w (.returned (.slice a2 s.length cap2)) wr) := Lib.hid ⟨a2, cap2, s, rfl, hn2, hcap, ⟨hs0, by omega, hok⟩, hdr, hgr⟩
      clear hn2 hown hok hdr hgr hcap
      go_wp2
      go_ret
      exact HG.out

/-- The call gives some place and writes to the deck alone. -/
def GivesPlace (D : Nat) (w : World) (e : Ending) (w' : World) : Prop :=
  ∃ r o : Int, e = .returned (.agg #[.int .i64 r, .int .i64 o]) ∧ Deck w' D ∧ w.grownBy w' (some D)

theorem grownBy_two {w w' : World} {D B : Nat} (h : w.grownBy w' (some D)) (hB : w.heap.size ≤ B) (x y : Value) : w.grownBy ((w'.setCell ⟨B, 0, none⟩ x).setCell ⟨B, 1, none⟩ y) (some D) :=
  grownBy_new (grownBy_new h hB 0 x) hB 1 y

theorem Deck.two {w : World} {D B : Nat} (h : Deck w D) (hB : D < B) (x y : Value) : Deck ((w.setCell ⟨B, 0, none⟩ x).setCell ⟨B, 1, none⟩ y) D :=
  (h.kept (grownBy_cell w B 0 x) (fun k hk => by cases hk; exact hB)).kept (grownBy_cell _ B 1 y) (fun k hk => by cases hk; exact hB)

end Go.Proofs.Ythajndgljfbifaa
