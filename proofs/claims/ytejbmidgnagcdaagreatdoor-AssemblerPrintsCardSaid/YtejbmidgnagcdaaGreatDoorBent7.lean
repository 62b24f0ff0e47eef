/-
  bent of the law: some program, good or not.
-/
import Derived.Test.YtejbmidgnagcdaaGreatDoorPg7
namespace Go.Proofs.YtejbmidgnagcdaaGreatDoor
open Go.RowKit Go.ChangeShapes Go.WideShapes Go.ChangeAt Go.Sort
set_option maxRecDepth 100000

theorem code_news {w : World} {b : Nat} : ∀ (C : List Ins) (off : Nat), (∀ i (h : i < C.length), w.cell? ⟨b, off + i * 5, none⟩ = some (.int .i64 C[i].op) ∧ w.cell? ⟨b, off + i * 5 + 1, none⟩ = some (.int .i64 C[i].a) ∧
    w.cell? ⟨b, off + i * 5 + 2, none⟩ = some (.int .i64 C[i].b) ∧ w.cell? ⟨b, off + i * 5 + 3, none⟩ = some (.int .i64 C[i].c) ∧ w.cell? ⟨b, off + i * 5 + 4, none⟩ = some (.int .i64 C[i].imm)) → ∀ j u, (codeCells C)[j]? = some u → w.cell? ⟨b, off + j, none⟩ = some u
  | [], off, h, j, u, hj => by simp [codeCells] at hj
  | x :: C, off, h, j, u, hj => by
    have e : codeCells (x :: C) = (insCells x).toList ++ codeCells C := rfl
    rw [e] at hj
    by_cases h5 : j < 5
    · rw [List.getElem?_append_left (by show _ < 5; omega)] at hj
      obtain ⟨h0, h1, h2, h3, h4⟩ := h 0 (by simp)
      simp only [Nat.zero_mul, Nat.add_zero, List.getElem_cons_zero] at h0 h1 h2 h3 h4
      rcases (by omega : j = 0 ∨ j = 1 ∨ j = 2 ∨ j = 3 ∨ j = 4) with rfl | rfl | rfl | rfl | rfl
      all_goals (simp [insCells] at hj; subst hj; assumption)
    · rw [List.getElem?_append_right (by show 5 ≤ _; omega)] at hj
      have hj : (codeCells C)[j - 5]? = some u := hj
      have := code_news C (off + 5) (fun i hi => by
        have h' := h (i + 1) (by simpa using hi)
        simp only [List.getElem_cons_succ] at h'
        rw [show off + (i + 1) * 5 = off + 5 + i * 5 by omega] at h'
        exact h') (j - 5) u hj
      rw [show off + 5 + (j - 5) = off + j by omega] at this
      exact this

theorem code_one (C : List Ins) : ∀ u ∈ codeCells C, u.oneCell' = true := by
  intro u hu
  unfold codeCells at hu
  obtain ⟨x, _, hx⟩ := List.mem_flatMap.1 hu
  simp [insCells] at hx
  rcases hx with rfl | rfl | rfl | rfl | rfl <;> rfl

theorem code_len (C : List Ins) : (codeCells C).length = C.length * 5 := by
  induction C with
  | nil => rfl
  | cons x C ih =>
    have e : codeCells (x :: C) = (insCells x).toList ++ codeCells C := rfl
    rw [e, List.length_append, ih]
    show 5 + _ = _
    rw [List.length_cons]
    omega

/-- One field of an instruction: 0 the operation, 2 B, 4 the number. -/
def setF (x : Ins) (j : Nat) (v : Int) : Ins := if j = 0 then { x with op := v } else if j = 2 then { x with b := v } else { x with imm := v }

theorem setF_cells (j : Nat) (v : Int) (hj : j = 0 ∨ j = 2 ∨ j = 4) : ∀ (C : List Ins) (i : Nat), codeCells (C.modify i fun x => setF x j v) = (codeCells C).set (i * 5 + j) (.int .i64 v)
  | [], i => by simp [codeCells]
  | x :: C, 0 => by rcases hj with rfl | rfl | rfl <;> rfl
  | x :: C, i + 1 => by
    have h := setF_cells j v hj C i
    have h1 : codeCells ((x :: C).modify (i + 1) fun x => setF x j v) = (insCells x).toList ++ codeCells (C.modify i fun x => setF x j v) := rfl
    have h2 : codeCells (x :: C) = (insCells x).toList ++ codeCells C := rfl
    rw [h1, h2, h, List.set_append_right _ _ (by show 5 ≤ _; omega)]
    show _ ++ (codeCells C).set _ _ = _ ++ (codeCells C).set ((i + 1) * 5 + j - 5) _
    rw [show (i + 1) * 5 + j - 5 = i * 5 + j by omega]

/-- The bent program on its way: behind the box Z; the result's box R. -/
structure BtAt (W : World) (B Z R : Nat) (C : List Ins) (s : List Int) (vc vs vd : Value) : Prop where
  box : W.heap[Z]? = some (.cells #[vc, vs, vd] 26 (0, 0))
  res : W.heap[R]? = some (.cells #[.slice none 0 0, .slice none 0 0, .slice none 0 0] 26 (0, 0))
  code : W.ownsRow B 56 5 vc C.length (codeCells C)
  sizes : W.ownsRow B 3 1 vs s.length (s.map (Value.int .i64))

theorem BtAt.later {W W' : World} {B Z R : Nat} {C : List Ins} {s : List Int} {vc vs vd : Value} (h : BtAt W B Z R C s vc vs vd) (hb : Below W.heap.size W W') : BtAt W' B Z R C s vc vs vd :=
  ⟨heap_later hb h.box, heap_later hb h.res, own_later7 h.code hb, own_later7 h.sizes hb⟩

theorem isizes_at {w : World} {B : Nat} {v : Value} {s : List Int} (h : w.ownsRow B 3 1 v s.length (s.map (Value.int .i64))) : ∃ a c, v = .slice a s.length c ∧ IntsAt .i64 w a s := by
  obtain ⟨a, c, rfl⟩ := own_form0 h
  refine ⟨a, c, rfl, ?_⟩
  by_cases h0 : s.length = 0
  · exact .inl (List.eq_nil_of_length_eq_zero h0)
  · obtain ⟨g, cap, e, _, _⟩ := h.form (by omega)
    simp only [Value.slice.injEq, true_and] at e
    obtain ⟨rfl, rfl⟩ := e
    refine .inr ⟨g, 0, rfl, fun i hi => ?_⟩
    rw [Nat.zero_add, h.cellAt i (by omega)]
    simp [List.getElem?_eq_getElem hi]

/-- The call returns some program that is small. -/
def GivesAny (w : World) (e : Ending) (w' : World) : Prop :=
  ∃ ac cc C a2 c2 s ad cd L, e = .returned (.agg #[.slice ac (List.length C) cc, .slice a2 (List.length s) c2, .slice ad (List.length L) cd]) ∧ PgAt w' ac a2 ad C s L ∧ C.length ≤ 64 ∧ s.length ≤ 4 ∧ L.length ≤ 4 ∧ (∀ l ∈ L, l.length ≤ 32 ∧ ∀ v ∈ l, v < 65536) ∧ Below w.heap.size w w'

/-- Seven ints in a block of their own. -/
theorem seven {W : World} {T : TypeId} {l : Array Int} (h : l.size = 7) (m : Nat) (hm : m < 7) : ∃ v : Int, (W.alloc (.cells (l.map fun n => Value.int .i64 n) T)).cell? ⟨W.heap.size, m, none⟩ = some (.int .i64 v) := by
  have hN := Blk.new (W := W) (l.map fun n => Value.int .i64 n) T
  have := (hN m (by simp; omega)).1
  exact ⟨l[m]'(by omega), by rw [this]; simp⟩

/-- The walk's end, at the result's box. -/
def FinAt (w W : World) (Z R : Nat) : Prop :=
  ∃ ac cc C a2 c2 s ad cd L, W.heap[Z]? = some (.cells #[.slice ac (List.length C) cc, .slice a2 (List.length s) c2, .slice ad (List.length L) cd] 26 (0, 0)) ∧ W.heap[R]? = some (.cells #[.slice none 0 0, .slice none 0 0, .slice none 0 0] 26 (0, 0)) ∧
    (∀ W', W.grownBy W' (some R) → PgAt W' ac a2 ad C s L) ∧ C.length ≤ 64 ∧ s.length ≤ 4 ∧ L.length ≤ 4 ∧ (∀ l ∈ L, l.length ≤ 32 ∧ ∀ v ∈ l, v < 65536) ∧ Below w.heap.size w W

theorem keep_code {W : World} {B R : Nat} {ac : Option Addr} {C : List Ins} {cc : Nat} {x : Array Value} (h : W.ownsRow B 56 5 (.slice ac C.length cc) C.length (codeCells C)) (hr : W.heap[R]? = some (.cells x 26 (0, 0))) : ∀ W', W.grownBy W' (some R) → CodeAt W' ac C := fun W' hg => by
  obtain ⟨a, c, e, hc⟩ := code_at (h.kept hg (.inr (own_not h hr (by decide))))
  simp only [Value.slice.injEq, true_and] at e
  obtain ⟨rfl, rfl⟩ := e
  exact hc

theorem keep_sizes {W : World} {B R : Nat} {a2 : Option Addr} {s : List Int} {c2 : Nat} {x : Array Value} (h : W.ownsRow B 3 1 (.slice a2 s.length c2) s.length (s.map (Value.int .i64))) (hr : W.heap[R]? = some (.cells x 26 (0, 0))) : ∀ W', W.grownBy W' (some R) → IntsAt .i64 W' a2 s := fun W' hg => by
  obtain ⟨a, c, e, hc⟩ := isizes_at (h.kept hg (.inr (own_not h hr (by decide))))
  simp only [Value.slice.injEq, true_and] at e
  obtain ⟨rfl, rfl⟩ := e
  exact hc

theorem keep_data {w W : World} {R : Nat} {ad : Option Addr} {L : List (List Nat)} (hd : DatAt w ad L) (hb : Below w.heap.size w W) (hR : w.heap.size ≤ R) : ∀ W', W.grownBy W' (some R) → DatAt W' ad L := fun W' hg =>
  hd.later (hb.grown hg hb.size (fun q hq => by cases hq; exact hR))

section
variable {w W : World} {R g h cap cap2 cd : Nat} {ad : Option Addr} {C : List Ins} {s : List Int} {L : List (List Nat)}

theorem fin_code (T : BtAt W w.heap.size w.heap.size R C s (.slice (some ⟨g, 0, none⟩) C.length cap) (.slice (some ⟨h, 0, none⟩) s.length cap2) (.slice ad L.length cd)) (hR : R = w.heap.size + 1) (hB : Below w.heap.size w W) (hg : w.heap.size ≤ g) (hd : DatAt w ad L) (lC : C.length ≤ 64) (ls : s.length ≤ 4) (lL : L.length ≤ 4) (lr : ∀ l ∈ L, l.length ≤ 32 ∧ ∀ v ∈ l, v < 65536)
    (k j : Nat) (hj : j = 0 ∨ j = 2 ∨ j = 4) (v : Int) {i : Nat} (hi : i = k * 5 + j) : FinAt w (W.setCell ⟨g, i, none⟩ (.int .i64 v)) w.heap.size R := by
  subst hi
  have hst := T.code.stored (k * 5 + j) (.int .i64 v)
  rw [← setF_cells j v hj] at hst
  have hb := hB.grown hst.2 hB.size (fun q hq => by cases hq; exact hg)
  have hlen : (C.modify k fun x => setF x j v).length = C.length := by simp
  have h1 := hst.1
  rw [← hlen] at h1
  have hbox := heap_grown T.code hst.2 T.box (by decide)
  have hres := heap_grown T.code hst.2 T.res (by decide)
  have h2 := T.sizes.kept hst.2 (own_apart T.sizes T.code (by decide))
  rw [← hlen] at hbox
  exact ⟨_, _, _, _, _, _, _, _, _, hbox, hres, fun W' hg => ⟨keep_code h1 hres W' hg, keep_sizes h2 hres W' hg, keep_data hd hb (by omega) W' hg⟩, by omega, ls, lL, lr, hb⟩

theorem fin_size (T : BtAt W w.heap.size w.heap.size R C s (.slice (some ⟨g, 0, none⟩) C.length cap) (.slice (some ⟨h, 0, none⟩) s.length cap2) (.slice ad L.length cd)) (hR : R = w.heap.size + 1) (hB : Below w.heap.size w W) (hh : w.heap.size ≤ h) (hd : DatAt w ad L) (lC : C.length ≤ 64) (ls : s.length ≤ 4) (lL : L.length ≤ 4) (lr : ∀ l ∈ L, l.length ≤ 32 ∧ ∀ v ∈ l, v < 65536)
    (v : Int) : FinAt w (W.setCell ⟨h, 0, none⟩ (.int .i64 v)) w.heap.size R := by
  have hst := T.sizes.stored 0 (.int .i64 v)
  rw [← List.map_set] at hst
  have hb := hB.grown hst.2 hB.size (fun q hq => by cases hq; exact hh)
  have hlen : (s.set 0 v).length = s.length := by simp
  have h1 := hst.1
  rw [← hlen] at h1
  have hbox := heap_grown T.sizes hst.2 T.box (by decide)
  have hres := heap_grown T.sizes hst.2 T.res (by decide)
  have h2 := T.code.kept hst.2 (own_apart T.code T.sizes (by decide))
  rw [← hlen] at hbox
  exact ⟨_, _, _, _, _, _, _, _, _, hbox, hres, fun W' hg => ⟨keep_code h2 hres W' hg, keep_sizes h1 hres W' hg, keep_data hd hb (by omega) W' hg⟩, lC, by omega, lL, lr, hb⟩

theorem fin_data (T : BtAt W w.heap.size w.heap.size R C s (.slice (some ⟨g, 0, none⟩) C.length cap) (.slice (some ⟨h, 0, none⟩) s.length cap2) (.slice ad L.length cd)) (hR : R = w.heap.size + 1) (hB : Below w.heap.size w W) (lC : C.length ≤ 64) (ls : s.length ≤ 4) (lr : ∀ l ∈ L, l.length ≤ 32 ∧ ∀ v ∈ l, v < 65536)
    {ad' : Option Addr} {L' : List (List Nat)} {n c' : Nat} (hn : n = L'.length) (hd' : DatAt w ad' L') (l1 : L'.length ≤ 4) (l2 : ∀ l ∈ L', l ∈ L) : FinAt w (W.setCell ⟨w.heap.size, 2, none⟩ (.slice ad' n c')) w.heap.size R := by
  subst hn
  have hb := hB.grown (grown_set7 W w.heap.size 2 (.slice ad' L'.length c')) hB.size (fun q hq => by cases hq; exact Nat.le_refl _)
  have h1 := own_set T.code T.box (by decide) 2 (.slice ad' L'.length c')
  have h2 := own_set T.sizes T.box (by decide) 2 (.slice ad' L'.length c')
  have hres := (heap_setCell_other W ⟨w.heap.size, 2, none⟩ R (.slice ad' L'.length c') (by rw [hR]; simp)).trans T.res
  exact ⟨_, _, _, _, _, _, _, _, _, heap_setCell_same _ w.heap.size 2 _ _ _ T.box, hres, fun W' hg => ⟨keep_code h1 hres W' hg, keep_sizes h2 hres W' hg, keep_data hd' hb (by omega) W' hg⟩, lC, ls, l1, fun l hl => lr l (l2 l hl), hb⟩

theorem fin_none (T : BtAt W w.heap.size w.heap.size R C s (.slice (some ⟨g, 0, none⟩) C.length cap) (.slice (some ⟨h, 0, none⟩) s.length cap2) (.slice ad L.length cd)) (hR : R = w.heap.size + 1) (hB : Below w.heap.size w W) (hd : DatAt w ad L) (ls : s.length ≤ 4) (lL : L.length ≤ 4) (lr : ∀ l ∈ L, l.length ≤ 32 ∧ ∀ v ∈ l, v < 65536)
    (a0 : Option Addr) (c0 : Nat) : FinAt w (W.setCell ⟨w.heap.size, 0, none⟩ (.slice a0 0 c0)) w.heap.size R := by
  have hb := hB.grown (grown_set7 W w.heap.size 0 (.slice a0 0 c0)) hB.size (fun q hq => by cases hq; exact Nat.le_refl _)
  have h2 := own_set T.sizes T.box (by decide) 0 (.slice a0 0 c0)
  have hres := (heap_setCell_other W ⟨w.heap.size, 0, none⟩ R (.slice a0 0 c0) (by rw [hR]; simp)).trans T.res
  exact ⟨a0, c0, [], _, _, _, _, _, _, heap_setCell_same _ w.heap.size 0 _ _ _ T.box, hres, fun W' hg => ⟨.inl rfl, keep_sizes h2 hres W' hg, keep_data hd hb (by omega) W' hg⟩, by simp, ls, lL, lr, hb⟩

theorem FinAt.drew (H : FinAt w W w.heap.size R) : FinAt w W.drew w.heap.size R := by
  obtain ⟨ac, cc, C, a2, c2, s, ad, cd, L, h1, h2, h3, h4, h5, h6, h7, h8⟩ := H
  exact ⟨ac, cc, C, a2, c2, s, ad, cd, L, h1, h2, fun W' hg => h3 W' ⟨hg.1, hg.2, hg.3, hg.4, hg.5⟩, h4, h5, h6, h7, Below.drew h8⟩
end

set_option maxHeartbeats 4000000 in
theorem law07_bent (ac a2 ad : Option Addr) (C : List Ins) (s : List Int) (L : List (List Nat)) (cc c2 cd : Nat) (what at_ by_ : Int) (w : World) (hp : PgAt w ac a2 ad C s L) (hg : GoodU C s L) (hcd : L.length ≤ cd)
    (h1 : -9223372036854775808 ≤ what) (h2 : what ≤ 9223372036854775807) (h3 : -9223372036854775808 ≤ by_) (h4 : by_ ≤ 9223372036854775807) (h5 : -9223372036854775808 ≤ at_) (h6 : at_ ≤ 9223372036854775807) :
    Calls Tryz.prog 9 #[.agg #[.slice ac C.length cc, .slice a2 s.length c2, .slice ad L.length cd], .int .i64 what, .int .i64 at_, .int .i64 by_] w (GivesAny w) := by
  obtain ⟨lC, ls, lL, lr⟩ := hg.lens
  have hu := hg.2
  have hv : 1 ≤ s.length ∧ s.length ≤ 4 ∧ ∀ x ∈ s, 1 ≤ x ∧ x ≤ 32 := of_decide_eq_true hg.1.1
  have hC1 : 1 ≤ C.length := hg.1.2.2.1
  have hLs : L.length = s.length := hg.1.2.1
  have hs1 := hv.1
  have hL1 : 1 ≤ L.length := by omega
  obtain ⟨b, off, rfl, hcc⟩ := hp.code.some (j := 0) (by omega)
  obtain ⟨b2, off2, rfl, hss⟩ : ∃ b off, a2 = some ⟨b, off, none⟩ ∧ ∀ i (h : i < s.length), w.cell? ⟨b, off + i, none⟩ = some (.int .i64 s[i]) := by
    rcases hp.sizes with h0 | h0
    · rw [h0] at hs1; simp at hs1
    · exact h0
  have HD := Lib.hid hp.data
  have hnc := code_news C off hcc
  have hns : ∀ j u, (s.map (Value.int .i64))[j]? = some u → w.cell? ⟨b2, off2 + j, none⟩ = some u := fun j u hj => by
    obtain ⟨h1, rfl⟩ := List.getElem?_eq_some_iff.1 hj
    rw [hss j (by simpa using h1)]
    simp
  have HM1 := Lib.hid (fun W => make_Mod at_ C.length W (by omega) (by omega) h5 h6)
  have HM2 := Lib.hid (fun W => make_Mod what 6 W (by omega) (by omega) h1 h2)
  have HM7 := Lib.hid (fun W => make_Mod by_ 7 W (by omega) (by omega) h3 h4)
  have HM10 := Lib.hid (fun W => make_Mod by_ 10 W (by omega) (by omega) h3 h4)
  have HM36 := Lib.hid (fun W => make_Mod by_ 36 W (by omega) (by omega) h3 h4)
  have HM27 := Lib.hid (fun W => make_Mod by_ 27 W (by omega) (by omega) h3 h4)
  obtain ⟨k, hk⟩ : ∃ m : Nat, at_ % (C.length : Int) = (m : Int) := ⟨(at_ % (C.length : Int)).toNat, by have := Int.emod_nonneg at_ (show (C.length : Int) ≠ 0 by omega); omega⟩
  have hkl : k < C.length := by have := Int.emod_lt_of_pos at_ (show (0 : Int) < (C.length : Int) by omega); omega
  obtain ⟨q, hq⟩ : ∃ m : Nat, what % 6 = (m : Int) := ⟨(what % 6).toNat, by omega⟩
  obtain ⟨r7, hr7⟩ : ∃ m : Nat, by_ % 7 = (m : Int) := ⟨(by_ % 7).toNat, by omega⟩
  have hr77 : r7 < 7 := by omega
  obtain ⟨r10, hr10⟩ : ∃ m : Nat, by_ % 10 = (m : Int) := ⟨(by_ % 10).toNat, by omega⟩
  obtain ⟨r36, hr36⟩ : ∃ m : Nat, by_ % 36 = (m : Int) := ⟨(by_ % 36).toNat, by omega⟩
  obtain ⟨r27, hr27⟩ : ∃ m : Nat, by_ % 27 = (m : Int) := ⟨(by_ % 27).toNat, by omega⟩
  have hq6 : q < 6 := by omega
  have hr1 : r10 < 10 := by omega
  have hr3 : r36 < 36 := by omega
  have hr2 : r27 < 27 := by omega
  rw [hk] at HM1
  rw [hq] at HM2
  rw [hr7] at HM7
  rw [hr10] at HM10
  rw [hr36] at HM36
  rw [hr27] at HM27
  clear h1 h2 h3 h4 h5 h6 hk hq hr7 hr10 hr36 hr27 hcc hss hp hg hv
  have HCD := Lib.hid hcd
  clear hcd
  have HLR : Hid (∀ l ∈ L, l.length ≤ 32 ∧ ∀ v ∈ l, v < 65536) := Lib.hid (fun l hl => ⟨lr l hl, hu l hl⟩)
  clear lr hu hLs
  obtain ⟨i0, hi0, hi1, hi2, hi3⟩ := info_parts info_ins7
  obtain ⟨n0, hn0, hn1, hn2, hn3⟩ := info_parts info_int7
  have hA1 := Below.alloc (Below.refl w.heap.size w) (Nat.le_refl _) (.cells #[.slice (some ⟨b, off, none⟩) C.length cc, .slice (some ⟨b2, off2, none⟩) s.length c2, .slice ad L.length cd] 26)
  have hA2 := hA1.alloc hA1.size (.cells #[.slice none 0 0, .slice none 0 0, .slice none 0 0] 26)
  have X1 : ((w.alloc (.cells #[.slice (some ⟨b, off, none⟩) C.length cc, .slice (some ⟨b2, off2, none⟩) s.length c2, .slice ad L.length cd] 26)).alloc (.cells #[.slice none 0 0, .slice none 0 0, .slice none 0 0] 26)).heap[w.heap.size]? = some (.cells #[.slice (some ⟨b, off, none⟩) C.length cc, .slice (some ⟨b2, off2, none⟩) s.length c2, .slice ad L.length cd] 26 (0, 0)) :=
    heap_later (Below.alloc (Below.refl _ _) (Nat.le_refl _) _) (heap_alloc_new w _)
  have R1 : ((w.alloc (.cells #[.slice (some ⟨b, off, none⟩) C.length cc, .slice (some ⟨b2, off2, none⟩) s.length c2, .slice ad L.length cd] 26)).alloc (.cells #[.slice none 0 0, .slice none 0 0, .slice none 0 0] 26)).heap[w.heap.size + 1]? = some (.cells #[.slice none 0 0, .slice none 0 0, .slice none 0 0] 26 (0, 0)) := by
    have := heap_alloc_new (w.alloc (.cells #[.slice (some ⟨b, off, none⟩) C.length cc, .slice (some ⟨b2, off2, none⟩) s.length c2, .slice ad L.length cd] 26)) (.cells #[.slice none 0 0, .slice none 0 0, .slice none 0 0] 26)
    rw [show (w.alloc (.cells #[.slice (some ⟨b, off, none⟩) C.length cc, .slice (some ⟨b2, off2, none⟩) s.length c2, .slice ad L.length cd] 26)).heap.size = w.heap.size + 1 by simp] at this
    exact this
  clear hA1
  go_enter Tryz.func9, Tryz.ntmps9
  go_upto_region 1 with fail
  generalize (w.alloc (.cells #[.slice (some ⟨b, off, none⟩) C.length cc, .slice (some ⟨b2, off2, none⟩) s.length c2, .slice ad L.length cd] 26)).alloc (.cells #[.slice none 0 0, .slice none 0 0, .slice none 0 0] 26) = W1 at *
  have hnc1 : ∀ j u, (codeCells C)[j]? = some u → W1.cell? ((⟨b, off, none⟩ : Addr).add j) = some u := fun j u hj => by
    have e : (⟨b, off, none⟩ : Addr).add j = ⟨b, off + j, none⟩ := by unfold Addr.add; split <;> simp_all
    rw [e]
    exact cell_later hA2 (hnc j u hj)
  have HNS := Lib.hid (fun W (hb : Below w.heap.size w W) => (fun j u hj => cell_later hb (hns j u hj) : ∀ j u, (s.map (Value.int .i64))[j]? = some u → W.cell? ⟨b2, off2 + j, none⟩ = some u))
  clear hnc hns
  have hsz1 : w.heap.size ≤ W1.heap.size := hA2.size
  have HRs := Lib.hid R1
  have z0 : W1.cell? ⟨w.heap.size, 0, none⟩ = some (.slice (some ⟨b, off, none⟩) C.length cc) := (Lib.cell_of_heap X1 0).trans rfl
  have hnil : W1.ownsRow w.heap.size 56 5 (.slice none 0 0) 0 [] := World.ownsRow_nil _ _ _ _
  have HA2 := Lib.hid hA2
  have HX1 := Lib.hid X1
  clear hA2 X1 R1
  go_upto_region 2 with (at_builtin; refine wpList_append_lies _ rfl (.const (.slice none 0 0)) (.tmp 11) 22 rfl w.heap.size 56 i0 (.agg #[.int .i64 0, .int .i64 0, .int .i64 0, .int .i64 0, .int .i64 0]) 5 40 Tryz.underlying22 hi0 hi1 hi2 hi3 rfl (by decide) _ _ _ rfl hnil ⟨b, off, none⟩ C.length cc (codeCells C) rfl ?ca1 ?ca2 ?ca3 ?ca4 ?ca5 ?ca6 ?ca7 _ rfl ?_)
  case ca1 => exact code_len C
  case ca2 => exact hnc1
  case ca3 => exact code_one C
  case ca4 => omega
  case ca5 => unfold maxLen; omega
  case ca6 => omega
  case ca7 => exact hsz1
  intro g cap W2 hown2 hg2 hat2 hlt2
  try simp only [Nat.zero_add, List.nil_append] at hown2
  have hb2 := HA2.out.grown hg2 HA2.out.size (fun k hk => by simp [Value.ownBlock] at hk)
  have hX2 := heap_grown hnil hg2 HX1.out (by decide)
  have hR2 := heap_grown hnil hg2 HRs.out (by decide)
  have HX3 : Hid ((W2.setCell ⟨w.heap.size, 0, none⟩ (.slice (some ⟨g, 0, none⟩) C.length cap)).heap[w.heap.size]? = some (.cells #[.slice (some ⟨g, 0, none⟩) C.length cap, .slice (some ⟨b2, off2, none⟩) s.length c2, .slice ad L.length cd] 26 (0, 0))) := Lib.hid (heap_setCell_same _ w.heap.size 0 _ _ _ hX2)
  have HR3 : Hid ((W2.setCell ⟨w.heap.size, 0, none⟩ (.slice (some ⟨g, 0, none⟩) C.length cap)).heap[w.heap.size + 1]? = some (.cells #[.slice none 0 0, .slice none 0 0, .slice none 0 0] 26 (0, 0))) := Lib.hid ((heap_setCell_other W2 ⟨w.heap.size, 0, none⟩ (w.heap.size + 1) _ (by simp)).trans hR2)
  have HO3 := Lib.hid (own_set hown2 hX2 (by decide) 0 (.slice (some ⟨g, 0, none⟩) C.length cap))
  have HB3 := Lib.hid (hb2.grown (grown_set7 W2 w.heap.size 0 (.slice (some ⟨g, 0, none⟩) C.length cap)) hb2.size (fun k hk => by cases hk; exact Nat.le_refl _))
  have z0 : W2.cell? ⟨w.heap.size, 0, none⟩ = some (.slice (some ⟨b, off, none⟩) C.length cc) := (Lib.cell_of_heap hX2 0).trans rfl
  have f0 := fun i => Lib.frozen_of_heap hX2 i
  clear hown2 hg2 hat2 hlt2 hb2 hX2 hR2 HX1 HRs HA2 hnil hnc1
  go_upto_region 2 with fail
  clear z0 f0
  generalize W2.setCell ⟨w.heap.size, 0, none⟩ (.slice (some ⟨g, 0, none⟩) C.length cap) = W3 at *
  have z1 : W3.cell? ⟨w.heap.size, 1, none⟩ = some (.slice (some ⟨b2, off2, none⟩) s.length c2) := (Lib.cell_of_heap HX3.out 1).trans rfl
  have hnil : W3.ownsRow w.heap.size 3 1 (.slice none 0 0) 0 [] := World.ownsRow_nil _ _ _ _
  have hsz3 : w.heap.size ≤ W3.heap.size := HB3.out.size
  have hns3 : ∀ j u, (s.map (Value.int .i64))[j]? = some u → W3.cell? ((⟨b2, off2, none⟩ : Addr).add j) = some u := fun j u hj => by
    have e : (⟨b2, off2, none⟩ : Addr).add j = ⟨b2, off2 + j, none⟩ := by unfold Addr.add; split <;> simp_all
    rw [e]
    exact HNS.out W3 HB3.out j u hj
  have HN3 := Lib.hid hnil
  go_upto_region 3 with (at_builtin; refine wpList_append_lies _ rfl (.const (.slice none 0 0)) (.tmp 15) 23 rfl w.heap.size 3 n0 (.int .i64 0) 1 8 Tryz.underlying23 hn0 hn1 hn2 hn3 rfl (by decide) _ _ _ rfl hnil ⟨b2, off2, none⟩ s.length c2 (s.map (Value.int .i64)) rfl ?cb1 ?cb2 ?cb3 ?cb4 ?cb5 ?cb6 ?cb7 _ rfl ?_)
  case cb1 => rw [List.length_map, Nat.mul_one]
  case cb2 => exact hns3
  case cb3 => intro u hu; obtain ⟨x, _, rfl⟩ := List.mem_map.1 hu; rfl
  case cb4 => omega
  case cb5 => unfold maxLen; omega
  case cb6 => omega
  case cb7 => exact hsz3
  intro h cap2 W4 hown4 hg4 hat4 hlt4
  try simp only [Nat.zero_add, List.nil_append] at hown4
  have hb4 := HB3.out.grown hg4 HB3.out.size (fun k hk => by simp [Value.ownBlock] at hk)
  have hX4 := heap_grown hnil hg4 HX3.out (by decide)
  have hR4 := heap_grown hnil hg4 HR3.out (by decide)
  have hO4 := HO3.out.kept hg4 (.inr (by simp [Value.ownBlock]))
  have HX5 : (W4.setCell ⟨w.heap.size, 1, none⟩ (.slice (some ⟨h, 0, none⟩) s.length cap2)).heap[w.heap.size]? = some (.cells #[.slice (some ⟨g, 0, none⟩) C.length cap, .slice (some ⟨h, 0, none⟩) s.length cap2, .slice ad L.length cd] 26 (0, 0)) := heap_setCell_same _ w.heap.size 1 _ _ _ hX4
  have HR5 : (W4.setCell ⟨w.heap.size, 1, none⟩ (.slice (some ⟨h, 0, none⟩) s.length cap2)).heap[w.heap.size + 1]? = some (.cells #[.slice none 0 0, .slice none 0 0, .slice none 0 0] 26 (0, 0)) := (heap_setCell_other W4 ⟨w.heap.size, 1, none⟩ (w.heap.size + 1) _ (by simp)).trans hR4
  have HT : Hid (BtAt (W4.setCell ⟨w.heap.size, 1, none⟩ (.slice (some ⟨h, 0, none⟩) s.length cap2)) w.heap.size w.heap.size (w.heap.size + 1) C s (.slice (some ⟨g, 0, none⟩) C.length cap) (.slice (some ⟨h, 0, none⟩) s.length cap2) (.slice ad L.length cd)) :=
    Lib.hid ⟨HX5, HR5, own_set hO4 hX4 (by decide) 1 _, own_set hown4 hX4 (by decide) 1 _⟩
  have HB5 := Lib.hid (hb4.grown (grown_set7 W4 w.heap.size 1 (.slice (some ⟨h, 0, none⟩) s.length cap2)) hb4.size (fun k hk => by cases hk; exact Nat.le_refl _))
  have z1 : W4.cell? ⟨w.heap.size, 1, none⟩ = some (.slice (some ⟨b2, off2, none⟩) s.length c2) := (Lib.cell_of_heap hX4 1).trans rfl
  have f0 := fun i => Lib.frozen_of_heap hX4 i
  clear hown4 hg4 hat4 hlt4 hb4 hX4 hR4 hO4 HX5 HR5 HX3 HR3 HO3 HB3 HNS hns3 hnil HN3 hsz3
  go_upto_region 3 with fail
  clear z1 f0
  generalize W4.setCell ⟨w.heap.size, 1, none⟩ (.slice (some ⟨h, 0, none⟩) s.length cap2) = W5 at *
  have z0 : W5.cell? ⟨w.heap.size, 0, none⟩ = some (.slice (some ⟨g, 0, none⟩) C.length cap) := (Lib.cell_of_heap HT.out.box 0).trans rfl
  go_upto_block 0 with (first | (go_at_call 14; (with_reducible refine (HM1.out _).mono ?_); rintro e w' ⟨rfl, rfl⟩) | (go_at_call 14; (with_reducible refine (HM2.out _).mono ?_); rintro e w' ⟨rfl, rfl⟩))
  go_cut [25] (fun _ wx => FinAt w wx w.heap.size (w.heap.size + 1))
  case first =>
    have hgB : w.heap.size ≤ g := by obtain ⟨g', c', e, hb, _⟩ := HT.out.code.form (by omega); simp only [Value.slice.injEq, Option.some.injEq, Addr.mk.injEq, true_and, and_true] at e; rw [e.1]; exact hb
    have hhB : w.heap.size ≤ h := by obtain ⟨g', c', e, hb, _⟩ := HT.out.sizes.form (by omega); simp only [Value.slice.injEq, Option.some.injEq, Addr.mk.injEq, true_and, and_true] at e; rw [e.1]; exact hb
    have HTd := Lib.hid (HT.out.later (Below.drew (Below.refl _ _)))
    have HBd := Lib.hid (Below.drew HB5.out)
    have m1 : (k : Int) < (C.length : Int) := by omega
    have m2 : 0 ≤ (k : Int) := by omega
    have z1 : W5.cell? ⟨w.heap.size, 1, none⟩ = some (.slice (some ⟨h, 0, none⟩) s.length cap2) := (Lib.cell_of_heap HT.out.box 1).trans rfl
    have z2 : W5.cell? ⟨w.heap.size, 2, none⟩ = some (.slice ad L.length cd) := (Lib.cell_of_heap HT.out.box 2).trans rfl
    have hcl := code_len C
    have dC : ∀ j, j < 5 → ∃ u, W5.cell? ⟨g, k * 5 + j, none⟩ = some u := fun j hj => ⟨_, (HT.out.code.cellAt (k * 5 + j) (by omega)).trans (List.getElem?_eq_getElem (by omega))⟩
    have fC := fun i => HT.out.code.frozenAt i
    obtain ⟨u0, d0⟩ := dC 0 (by omega)
    rw [Nat.add_zero] at d0
    obtain ⟨u2, d2⟩ := dC 2 (by omega)
    obtain ⟨u4, d4⟩ := dC 4 (by omega)
    have e0 : W5.cell? ⟨h, 0, none⟩ = some (.int .i64 s[0]) := (HT.out.sizes.cellAt 0 (by omega)).trans (by simp [List.getElem?_eq_getElem (show 0 < s.length by omega)])
    have eF := fun i => HT.out.sizes.frozenAt i
    have fB := fun i => Lib.frozen_of_heap HT.out.box i
    have G36 : IntKind.i64.wrap ((r36 : Int) - 1) = (r36 : Int) - 1 := IntWalk.i64_in _ (by omega)
    have G27 : IntKind.i64.wrap ((r27 : Int) - 1) = (r27 : Int) - 1 := IntWalk.i64_in _ (by omega)
    clear dC hcl
    rcases (by omega : q = 0 ∨ q = 1 ∨ q = 2 ∨ q = 3 ∨ q = 4 ∨ q = 5) with rfl | rfl | rfl | rfl | rfl | rfl
    · have hA := Below.alloc (Below.refl W5.heap.size W5) (Nat.le_refl _) (.cells #[.int .i64 63, .int .i64 64, .int .i64 65535, .int .i64 65536, .int .i64 (-1), .int .i64 3, .int .i64 4] 3)
      obtain ⟨v, hv⟩ := seven (W := W5) (T := 3) (l := #[63, 64, 65535, 65536, -1, 3, 4]) rfl r7 hr77
      simp only [List.map_toArray, List.map_cons, List.map_nil] at hv
      have za := cell_later hA z0
      have da := cell_later hA d4
      have HTa := Lib.hid (HT.out.later hA)
      have HBa := Lib.hid (HB5.out.trans (hA.mono HB5.out.size))
      have fa := fun i => HTa.out.code.frozenAt i
      have j1 : (r7 : Int) < 7 := by omega
      have j2 : 0 ≤ (r7 : Int) := by omega
      clear hA
      go_upto_region 6 with fail
      go_region_with (go_at_call 14; (with_reducible refine (HM7.out _).mono ?_); rintro e w' ⟨rfl, rfl⟩)
      all_goals
        go_wp2_with fail
        go_meet
        exact (fin_code HTa.out rfl HBa.out hgB HD.out lC ls lL HLR.out k 4 (by omega) v rfl).drew
    · go_upto_region 8 with fail
      go_region_with (go_at_call 14; (with_reducible refine (HM10.out _).mono ?_); rintro e w' ⟨rfl, rfl⟩)
      all_goals
        go_wp2_with fail
        go_meet
        exact (fin_code HT.out rfl HB5.out hgB HD.out lC ls lL HLR.out k 2 (by omega) _ rfl).drew
    · go_upto_region 10 with fail
      go_region_with (go_at_call 14; (with_reducible refine (HM36.out _).mono ?_); rintro e w' ⟨rfl, rfl⟩)
      all_goals
        go_wp2_with fail
        go_meet
        exact (fin_size HT.out rfl HB5.out hhB HD.out lC ls lL HLR.out _).drew
    · obtain ⟨b3, off3, rfl, hdd⟩ := HD.out.some (j := 0) (by omega)
      have hL' : DatAt w (some ⟨b3, off3 + 1, none⟩) L.tail := .inr ⟨b3, off3 + 1, rfl, fun i hi => by
        have hi' : i + 1 < L.length := by have : i < L.length - 1 := by simpa using hi
                                          omega
        obtain ⟨a, c, x1, x2⟩ := hdd (i + 1) hi'
        rw [show off3 + (i + 1) = off3 + 1 + i by omega] at x1
        simp only [List.getElem_tail]
        exact ⟨a, c, x1, x2⟩⟩
      have HL' := Lib.hid hL'
      have t1 : (1 : Int) ≤ (L.length : Int) := by omega
      have hcd := HCD.out
      clear hdd hL'
      rcases (by omega : cd = 1 ∨ 2 ≤ cd) with rfl | hc2
      · have hL0 : Hid (L.length - 1 = 0) := Lib.hid (by omega)
        clear hcd
        go_wp2_with fail
        go_meet
        exact fin_data (L' := []) HT.out rfl HB5.out lC ls HLR.out hL0.out (.inl rfl) (by simp) (by simp)
      · obtain ⟨c9, rfl⟩ : ∃ c, cd = c + 2 := ⟨cd - 2, by omega⟩
        clear hcd hc2
        go_wp2_with fail
        go_meet
        exact fin_data HT.out rfl HB5.out lC ls HLR.out (by simp) HL'.out (by simp; omega) (fun l hl => List.mem_of_mem_tail hl)
    · go_wp2_with fail
      go_meet
      exact fin_none HT.out rfl HB5.out HD.out ls lL HLR.out _ _
    · go_upto_region 16 with fail
      go_region_with (go_at_call 14; (with_reducible refine (HM27.out _).mono ?_); rintro e w' ⟨rfl, rfl⟩)
      all_goals
        go_wp2_with fail
        go_meet
        exact (fin_code HT.out rfl HB5.out hgB HD.out lC ls lL HLR.out k 0 (by omega) _ rfl).drew
  case rest =>
    obtain ⟨ac', cc', C', a2', c2', s', ad', cd', L', y1, y2, y3, y4, y5, y6, y7, y8⟩ := hcut
    have p0 := (Lib.cell_of_heap y1 0).trans (rfl : _ = some (Value.slice ac' C'.length cc'))
    have p1 := (Lib.cell_of_heap y1 1).trans (rfl : _ = some (Value.slice a2' s'.length c2'))
    have p2 := (Lib.cell_of_heap y1 2).trans (rfl : _ = some (Value.slice ad' L'.length cd'))
    have q0 := (Lib.cell_of_heap y2 0).trans (rfl : _ = some (Value.slice none 0 0))
    have q1 := (Lib.cell_of_heap y2 1).trans (rfl : _ = some (Value.slice none 0 0))
    have q2 := (Lib.cell_of_heap y2 2).trans (rfl : _ = some (Value.slice none 0 0))
    have g0 := Lib.frozen_of_heap y2
    have HF : Hid (GivesAny w (.returned (.agg #[.slice ac' C'.length cc', .slice a2' s'.length c2', .slice ad' L'.length cd'])) (((wc.setCell ⟨w.heap.size + 1, 0, none⟩ (.slice ac' C'.length cc')).setCell ⟨w.heap.size + 1, 1, none⟩ (.slice a2' s'.length c2')).setCell ⟨w.heap.size + 1, 2, none⟩ (.slice ad' L'.length cd'))) := Lib.hid (by
      have hgr := ((grown_set7 wc (w.heap.size + 1) 0 (.slice ac' C'.length cc')).trans (grown_set7 _ (w.heap.size + 1) 1 (.slice a2' s'.length c2'))).trans (grown_set7 _ (w.heap.size + 1) 2 (.slice ad' L'.length cd'))
      exact ⟨_, _, _, _, _, _, _, _, _, rfl, y3 _ hgr, y4, y5, y6, y7, y8.grown hgr y8.size (fun q hq => by cases hq; omega)⟩)
    clear y1 y2 y3 y4 y5 y6 y7 y8
    go_wp2
    refine bodyPost_ret (v := .agg #[.slice ac' C'.length cc', .slice a2' s'.length c2', .slice ad' L'.length cd']) (by simp [results, Tryz.results9, go_sem, q0, q1, q2]) rfl HF.out
end Go.Proofs.YtejbmidgnagcdaaGreatDoor
