/-
  Contracts: awake of the law; the deck's Sizes and Place.
-/
import Derived.Test.YtfpekljghcffbaaReg3
import Derived.Test.YtfpekljghcffbaaDeckNext
namespace Go.Proofs.Ytfpekljghcffbaa
open Go.RowKit

theorem awake_any (w : World) :
    Calls Try.prog 8 #[] w fun e w' => e = .returned (.bool true) ∧ Below w.heap.size w w' := by
  have hs : Sz [10, 3] := ⟨by simp, by simp, by intro x hx; simp at hx; omega⟩
  have hB := Below.alloc (Below.refl w.heap.size w) (Nat.le_refl _) (.cells #[.int .i64 10, .int .i64 3] 3)
  have hA : NatsAt .i64 (w.alloc (.cells #[.int .i64 10, .int .i64 3] 3)) (some ⟨w.heap.size, 0, none⟩) [10, 3] := by
    refine .inr ⟨_, _, rfl, fun i hi => ?_⟩
    have h2 : i = 0 ∨ i = 1 := by simp at hi; omega
    rcases h2 with rfl | rfl
    · rw [World.cell?_alloc_at _ _ _ _ rfl]; rfl
    · rw [World.cell?_alloc_at _ _ _ _ rfl]; rfl
  have e0 : atO [10, 3] 11 = some (1, 1) := rfl
  obtain ⟨e1, e2, e3⟩ := at_some e0
  have H1 := at_any _ [10, 3] 2 11 _ (by omega) hs hA
  rw [e1, e2, e3] at H1
  have H2 := fun W (h : Below (w.heap.size + 1) (w.alloc (.cells #[.int .i64 10, .int .i64 3] 3)) W) => total_any (some ⟨w.heap.size, 0, none⟩) [10, 3] 2 W hs (hA.later (by simpa using h))
  have H3 := fun W (h : Below (w.heap.size + 1) (w.alloc (.cells #[.int .i64 10, .int .i64 3] 3)) W) => pages_any (some ⟨w.heap.size, 0, none⟩) [10, 3] 2 W hs (hA.later (by simpa using h))
  rw [show [10, 3].sum = 13 from rfl, show ([10, 3] : List Nat).length = 2 from rfl] at H2
  rw [show pagesN [10, 3] = 3 from rfl, show ([10, 3] : List Nat).length = 2 from rfl] at H3
  have K1 := Lib.hid H1
  have K2 := Lib.hid H2
  have K3 := Lib.hid H3
  clear H1 H2 H3 hA hs e0 e1 e2 e3
  go_enter Try.func8, Try.ntmps8
  go_wp2_with fail
  refine K1.out.mono ?_
  rintro e w1 ⟨rfl, hb1⟩
  have hs1 := hb1.size
  have hb2 : Below (w.heap.size + 1) (w.alloc (.cells #[.int .i64 10, .int .i64 3] 3)) (w1.alloc (.cells #[.int .i64 1, .int .i64 1] 33)) :=
    Below.alloc (by simpa using hb1) (by simpa using hs1) _
  have hb3 : Below w.heap.size w (w1.alloc (.cells #[.int .i64 1, .int .i64 1] 33)) := hB.trans (hb2.mono (by omega))
  go_wp2_with (first
    | (go_at_call 14; (with_reducible refine (K2.out _ hb2).mono ?_); rintro e w2 ⟨rfl, rfl⟩)
    | (go_at_call 16; (with_reducible refine (K3.out _ hb2).mono ?_); rintro e w3 ⟨rfl, rfl⟩))
  go_ret
  exact ⟨rfl, hb3⟩

/-- Numbers that lie in a block from B on. -/
def NatsFrom (B : Nat) (k : IntKind) (w : World) (a : Option Addr) (xs : List Nat) : Prop :=
  xs = [] ∨ ∃ b off, a = some ⟨b, off, none⟩ ∧ B ≤ b ∧ ∀ i (h : i < xs.length), w.cell? ⟨b, off + i, none⟩ = some (.int k (xs[i] : Int))

theorem NatsFrom.at {B : Nat} {k : IntKind} {w : World} {a : Option Addr} {xs : List Nat} (h : NatsFrom B k w a xs) : NatsAt k w a xs := by
  rcases h with h | ⟨b, off, ha, _, h⟩
  · exact .inl h
  · exact .inr ⟨b, off, ha, h⟩

theorem NatsFrom.mono {B B' : Nat} {k : IntKind} {w : World} {a : Option Addr} {xs : List Nat} (h : NatsFrom B k w a xs) (hB : B' ≤ B) : NatsFrom B' k w a xs := by
  rcases h with h | ⟨b, off, ha, hb, h⟩
  · exact .inl h
  · exact .inr ⟨b, off, ha, by omega, h⟩

theorem NatsFrom.kept {B : Nat} {k : IntKind} {w w' : World} {a : Option Addr} {xs : List Nat} {r : Option Nat} (h : NatsFrom B k w a xs) (hg : w.grownBy w' r) (hr : ∀ d, r = some d → d < B) : NatsFrom B k w' a xs := by
  rcases h with h | ⟨b, off, ha, hb, h⟩
  · exact .inl h
  · exact .inr ⟨b, off, ha, hb, fun i hi => hg.cell (h i hi) (fun e => by have := hr b e.symm; omega)⟩

theorem NatsFrom.later {B : Nat} {k : IntKind} {w w' : World} {a : Option Addr} {xs : List Nat} (h : NatsFrom B k w a xs) (hb : Below w.heap.size w w') : NatsFrom B k w' a xs := by
  rcases h with h | ⟨b, off, ha, hB, h⟩
  · exact .inl h
  · exact .inr ⟨b, off, ha, hB, fun i hi => cell_later hb (h i hi)⟩

theorem NatsFrom.of_row {k : IntKind} {w : World} {base : Nat} {e : TypeId} {v : Value} {n : Nat} {xs : List Nat} (h : w.ownsRow base e 1 v n (xs.map fun x : Nat => Value.int k (x : Int))) :
    ∃ a cap, v = .slice a xs.length cap ∧ NatsFrom base k w a xs ∧ xs.length ≤ cap ∧ (a = none → cap = 0) := by
  have hn : n = xs.length := by have := h.1; simp at this; omega
  subst hn
  rcases h.2 with ⟨hv, h0⟩ | ⟨g, cap, cur, hv, hb, hg, hnc, hrest⟩
  · have hx : xs = [] := by cases xs with | nil => rfl | cons x r => simp at h0
    subst hx
    exact ⟨none, 0, hv, Or.inl rfl, by simp, fun _ => rfl⟩
  · refine ⟨Option.some ⟨g, 0, none⟩, cap, hv, Or.inr ⟨g, 0, rfl, hb, fun i hi => ?_⟩, hnc, fun e => by cases e⟩
    subst hv
    have := h.cellAt i (by omega)
    rw [Nat.zero_add, this, List.getElem?_map, List.getElem?_eq_getElem hi]
    rfl

/-- The call gives some valid sizes in new memory and writes to the deck alone. -/
def GivesSizes (D : Nat) (w : World) (e : Ending) (w' : World) : Prop :=
  ∃ a cap s, e = .returned (.slice a s.length cap) ∧ NatsFrom w.heap.size .i64 w' a s ∧ s.length ≤ cap ∧ Sz s ∧ Deck w' D ∧ w.grownBy w' (some D)

theorem lim_of (r : Nat) (hr : (r : Int) < 3) : ∃ m : Nat, 1 ≤ m ∧ m ≤ 32 ∧ ∀ w : World, (w.alloc (.cells #[.int .i64 6, .int .i64 12, .int .i64 32] 3)).cell? ⟨w.heap.size, r, none⟩ = some (.int .i64 (m : Int)) := by
  have hr3 : r = 0 ∨ r = 1 ∨ r = 2 := by omega
  rcases hr3 with rfl | rfl | rfl
  · exact ⟨6, by omega, by omega, fun w => by rw [World.cell?_alloc_at _ _ _ _ rfl]; rfl⟩
  · exact ⟨12, by omega, by omega, fun w => by rw [World.cell?_alloc_at _ _ _ _ rfl]; rfl⟩
  · exact ⟨32, by omega, by omega, fun w => by rw [World.cell?_alloc_at _ _ _ _ rfl]; rfl⟩

theorem info_int : (Try.prog.info? 3).map (fun i => (i.zero, i.size, i.bytes)) = some (some (.int .i64 0), 1, 8) := by kernel_rfl

theorem nmap_snoc (k : IntKind) (l : List Nat) (x : Nat) : l.map (fun y : Nat => Value.int k (y : Int)) ++ [.int k (x : Int)] = (l ++ [x]).map (fun y : Nat => Value.int k (y : Int)) := by simp

theorem sizes_any (D : Nat) (w : World) (hd : Deck w D) :
    Calls Try.prog 10 #[.pointer (some ⟨D, 0, none⟩)] w (GivesSizes D w) := by
  obtain ⟨i0, hi, hz0, hz1, hz2⟩ := info_parts info_int
  have hDl := hd.lt
  have hN := Lib.hid (fun m W (h : Deck W D) (h1 : 1 ≤ m) (h2 : m ≤ 1000000) => next_any D m W h h1 h2)
  go_enter Try.func10, Try.ntmps10
  go_wp2_with fail
  refine (hN.out 9 _ hd (by omega) (by omega)).mono ?_
  rintro e w1 ⟨r, hr, rfl, hd1, hg1⟩
  have hs1 := hg1.size
  have hd1a := hd1.kept (World.grownBy_alloc w1 (.cells #[.int .i64 (4 + (r : Int))] 3) none) (fun k hk => by cases hk)
  have own1 : (w1.alloc (.cells #[.int .i64 (4 + (r : Int))] 3)).ownsRow w.heap.size 3 1 (.slice (some ⟨w1.heap.size, 0, none⟩) 1 1) 1 [.int .i64 (4 + (r : Int))] :=
    World.ownsRow_lit w1 #[.int .i64 (4 + (r : Int))] 1 hs1 (by unfold maxLen; omega) rfl
  have G1 := Lib.hid (grownBy_more hg1 (.cells #[.int .i64 (4 + (r : Int))] 3))
  clear hg1 hd1
  go_wp2_with fail
  refine (hN.out 4 _ hd1a (by omega) (by omega)).mono ?_
  rintro e w2 ⟨q, hq, rfl, hd2, hg2⟩
  have own2 := own1.kept hg2 (by right; intro e; have := (own1.lt D e).1; omega)
  have G2 := Lib.hid (grownBy_trans G1.out hg2)
  clear own1 hg2 G1 hd1a
  go_wp2_with fail
  go_loopw [3, 4] (fun v c wr => ∃ (j : Nat) (s : List Nat), c = .int .i64 j ∧ 1 ≤ s.length ∧ s.length + j ≤ 4 ∧ wr.ownsRow w.heap.size 3 1 v s.length (s.map fun x : Nat => Value.int .i64 (x : Int)) ∧ (∀ x ∈ s, 1 ≤ x ∧ x ≤ 32) ∧ Deck wr D ∧ w.grownBy wr (some D)) (fun _ c _ => (intOf c).toNat)
  case atStart => exact ⟨q, [4 + r], rfl, by simp, by simp; omega, by simpa using own2, by intro x hx; simp at hx; omega, hd2, G2.out⟩
  case round =>
    obtain ⟨j, s, rfl, hs0, hj, hown, hok, hdr, hgr⟩ := hrel
    by_cases h0 : 0 < j
    · have hlt := hgr.size
      have hrD : D < wr.heap.size := hdr.lt
      have hdra := hdr.kept (World.grownBy_alloc wr (.cells #[.int .i64 6, .int .i64 12, .int .i64 32] 3) none) (fun k hk => by cases hk)
      have own0 := hown.alloc (.cells #[.int .i64 6, .int .i64 12, .int .i64 32] 3)
      have G0 := Lib.hid (grownBy_more hgr (.cells #[.int .i64 6, .int .i64 12, .int .i64 32] 3))
      clear hd2 own2 G2
      go_wp2_with fail
      refine (hN.out 3 _ hdra (by omega) (by omega)).mono ?_
      rintro e w3 ⟨p, hp, rfl, hd3, hg3⟩
      obtain ⟨m, hm1, hm2, hAny⟩ := lim_of p hp
      have c3 := hg3.cell (hAny wr) (by simp; omega)
      have hp0 : 0 ≤ (p : Int) := by omega
      have own3 := own0.kept hg3 (by right; intro e; have := (hown.lt D e).1; omega)
      have G3 := Lib.hid (grownBy_trans G0.out hg3)
      have hs3 := hg3.size
      clear hAny hdra own0 hg3 G0
      go_wp2_with fail
      refine (hN.out (m : Int) _ hd3 (by omega) (by omega)).mono ?_
      rintro e w4 ⟨t, ht, rfl, hd4, hg4⟩
      have own4 := (own3.kept hg4 (by right; intro e; have := (hown.lt D e).1; omega)).alloc (.cells #[.int .i64 (1 + (t : Int))] 3)
      have G4 := Lib.hid (grownBy_more (grownBy_trans G3.out hg4) (.cells #[.int .i64 (1 + (t : Int))] 3))
      have hd4a := hd4.kept (World.grownBy_alloc w4 (.cells #[.int .i64 (1 + (t : Int))] 3) none) (fun k hk => by cases hk)
      have hs4 := hg4.size
      have hs3b : wr.heap.size ≤ w3.heap.size := by simp at hs3; omega
      clear own3 hg4 hd3 hd4 c3 G3 hs3
      go_wp2_with (first
        | (at_builtin; refine wpList_append_own _ rfl _ _ 22 rfl w.heap.size 3 i0 (.int .i64 0) 1 8 Try.underlying22 hi hz0 hz1 hz2 rfl (by decide) _ _ _ rfl own4 ⟨w4.heap.size, 0, none⟩ 1 1 [.int .i64 (1 + (t : Int))] rfl rfl ?c1 ?c2 ?c3 ?c4 ?c5 ?_))
      case c1 => exact World.news_of_block (cs := #[.int .i64 (1 + (t : Int))]) (t := 3) (fr := (0, 0)) (heap_alloc_new _ _)
      case c2 => simp [Value.oneCell']
      case c3 => unfold maxLen; omega
      case c4 => omega
      case c5 => simp; omega
      intro v' w5 hown2 hgrow _h3
      rw [show 1 + (t : Int) = ((1 + t : Nat) : Int) by omega, nmap_snoc] at hown2
      have hbl := own4.lt
      have R1 := Lib.hid (hd4a.kept hgrow (fun k hk => by have := (hbl k hk).1; omega))
      have R2 := Lib.hid (grown_own G4.out hgrow (fun k hk => (hbl k hk).1))
      have R3 : Hid (∀ x ∈ s ++ [1 + t], 1 ≤ x ∧ x ≤ 32) := Lib.hid (fun x hx => by
        rcases List.mem_append.1 hx with hx | hx
        · exact hok x hx
        · simp at hx; omega)
      have R4 := Lib.hid hown2
      clear hgrow _h3 hown2 hbl own4 hd4a hok hown hdr hgr
      go_wp2
      go_roundw
      case rel => exact ⟨j - 1, s ++ [1 + t], by go_num, by simp, by simp; omega, by simpa using R4.out, R3.out, R1.out, R2.out⟩
      case measure => simp [intOf]; omega
    · obtain rfl : j = 0 := by omega
      obtain ⟨a2, cap2, rfl, hn2, hcap, _⟩ := NatsFrom.of_row hown
      have HG : Hid (GivesSizes D w (.returned (.slice a2 s.length cap2)) wr) := Lib.hid ⟨a2, cap2, s, rfl, hn2, hcap, ⟨hs0, by omega, hok⟩, hdr, hgr⟩
      clear hn2 hown hok hdr hgr hcap
      go_wp2
      go_ret
      exact HG.out

/-- The call gives some place and writes to the deck alone. -/
def GivesPlace (D : Nat) (w : World) (e : Ending) (w' : World) : Prop :=
  ∃ r o : Int, e = .returned (.agg #[.int .i64 r, .int .i64 o]) ∧ Deck w' D ∧ w.grownBy w' (some D)

theorem grownBy_two {w w' : World} {D B : Nat} (h : w.grownBy w' (some D)) (hB : w.heap.size ≤ B) (x y : Value) : w.grownBy ((w'.setCell ⟨B, 0, none⟩ x).setCell ⟨B, 1, none⟩ y) (some D) :=
  grownBy_new (grownBy_new h hB 0 x) hB 1 y

theorem Deck.two {w : World} {D B : Nat} (h : Deck w D) (hB : D < B) (x y : Value) : Deck ((w.setCell ⟨B, 0, none⟩ x).setCell ⟨B, 1, none⟩ y) D :=
  (h.kept (grownBy_cell w B 0 x) (fun k hk => by cases hk; exact hB)).kept (grownBy_cell _ B 1 y) (fun k hk => by cases hk; exact hB)

set_option maxHeartbeats 1000000 in
theorem place_any (D : Nat) (a : Option Addr) (s : List Nat) (cap : Nat) (w : World) (hd : Deck w D) (hs : Sz s) (ha : NatsFrom (D + 1) .i64 w a s) :
    Calls Try.prog 18 #[.pointer (some ⟨D, 0, none⟩), .slice a s.length cap] w (GivesPlace D w) := by
  have hDl := hd.lt
  have hN := Lib.hid (fun m W (h : Deck W D) (h1 : 1 ≤ m) (h2 : m ≤ 1000000) => next_any D m W h h1 h2)
  have hd0 := hd.kept (World.grownBy_alloc w (.cells #[.int .i64 0, .int .i64 0] 33) none) (fun k hk => by cases hk)
  have ha0 := ha.kept (World.grownBy_alloc w (.cells #[.int .i64 0, .int .i64 0] 33) none) (fun k hk => by cases hk)
  have G0 := World.grownBy_alloc w (.cells #[.int .i64 0, .int .i64 0] 33) (some D)
  have b0 := Box.new w (.int .i64 0) (.int .i64 0) 33
  have hr0 : ∀ d, some D = some d → d < D + 1 := fun d hd => by cases hd; omega
  have hDs : ∀ k, some w.heap.size = some k → D < k := fun k hk => by cases hk; exact hDl
  go_enter Try.func18, Try.ntmps18
  go_wp2_with fail
  refine (hN.out 8 _ hd0 (by omega) (by omega)).mono ?_
  rintro e w1 ⟨q, hq, rfl, hd1, hg1⟩
  have ha1 := ha0.kept hg1 hr0
  have G1 := grownBy_trans G0 hg1
  have b1 := b0.kept hg1 (by simp; omega)
  clear hd0 ha0 G0 hg1 b0 hd ha
  by_cases h7 : q = 7
  · subst h7
    go_wp2_with fail
    refine (hN.out 6 _ hd1 (by omega) (by omega)).mono ?_
    rintro e w2 ⟨x, hx, rfl, hd2, hg2⟩
    have b2 := b1.kept hg2 (by simp; omega)
    go_wp2_with fail
    refine (hN.out 36 _ hd2 (by omega) (by omega)).mono ?_
    rintro e w3 ⟨y, hy, rfl, hd3, hg3⟩
    obtain ⟨⟨p0, p1, k0, k1⟩, k2, k3⟩ := b2.kept hg3 (by simp; omega)
    have G3 := grownBy_two (B := w.heap.size) (grownBy_trans (grownBy_trans G1 hg2) hg3) (Nat.le_refl _) (.int .i64 ((x : Int) - 1)) (.int .i64 ((y : Int) - 2))
    have D3 := hd3.two hDl (.int .i64 ((x : Int) - 1)) (.int .i64 ((y : Int) - 2))
    have HG := Lib.hid G3
    have HD := Lib.hid D3
    have sz := World.block_lt_of_cell? _ _ k0
    clear G3 D3 G1 hg2 hg3 b1 b2 ha1 hd1 hd2 hd3
    go_wp2
    refine bodyPost_ret (v := .agg #[.int .i64 ((x : Int) - 1), .int .i64 ((y : Int) - 2)]) (by simp [results, Try.results18, go_sem, k0, k1]) rfl ⟨_, _, rfl, HD.out, HG.out⟩
  · have h7b : ((q : Int) == 7) = false := by rw [beq_eq_false_iff_ne]; omega
    have hT := Lib.hid (rtotal_any a s cap w1 hs.2.1 (fun x hx => (hs.2.2 x hx).2) ha1.at)
    have hs1 := hs.sum_pos
    have hs2 := hs.sum_le
    go_wp2_with fail
    refine hT.out.mono ?_
    rintro e w' ⟨rfl, rfl⟩
    go_wp2_with fail
    refine (hN.out ((s.sum : Nat) : Int) _ hd1 (by omega) (by omega)).mono ?_
    rintro e w2 ⟨x, hx, rfl, hd2, hg2⟩
    have b2 := b1.kept hg2 (by simp; omega)
    have ha2 := ha1.kept hg2 hr0
    have hA := Lib.hid (rat_any a s cap (x : Int) w2 (by omega) (by omega) hs ha2.at)
    go_wp2_with fail
    refine hA.out.mono ?_
    rintro e w3 ⟨rfl, hb3⟩
    generalize atR s (x : Int) = r at *
    generalize atOf s (x : Int) = o at *
    generalize atE s (x : Int) = f at *
    have hg3 : w2.grownBy w3 (some D) := grownBy_below hb3 rfl _
    have hd3 := hd2.kept (grownBy_below hb3 rfl none) (fun k hk => by cases hk)
    have b4 := (b2.kept hg3 (by simp; omega)).kept (World.grownBy_alloc w3 (.cells #[.int .i64 r, .int .i64 o] 33) none) (by simp)
    have G4 := grownBy_more (grownBy_trans (grownBy_trans G1 hg2) hg3) (.cells #[.int .i64 r, .int .i64 o] 33)
    have hd4 := hd3.kept (World.grownBy_alloc w3 (.cells #[.int .i64 r, .int .i64 o] 33) none) (fun k hk => by cases hk)
    have HG := Lib.hid (grownBy_two (B := w.heap.size) G4 (Nat.le_refl _) (.int .i64 r) (.int .i64 o))
    have HD := Lib.hid (hd4.two hDl (.int .i64 r) (.int .i64 o))
    obtain ⟨⟨p0, p1, k0, k1⟩, k2, k3⟩ := b4
    have sz := World.block_lt_of_cell? _ _ k0
    clear G4 G1 hg2 hg3 b1 b2 ha1 hd1 hd2 hd3 hd4 hT hA hb3 ha2
    go_wp2
    refine bodyPost_ret (v := .agg #[.int .i64 r, .int .i64 o]) (by simp [results, Try.results18, go_sem, k0, k1]) rfl ⟨_, _, rfl, HD.out, HG.out⟩
end Go.Proofs.Ytfpekljghcffbaa
