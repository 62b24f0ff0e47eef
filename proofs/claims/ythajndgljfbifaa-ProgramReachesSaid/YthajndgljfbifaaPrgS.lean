/-
  Texts for the deck's Program: what it keeps, the lists of words.
-/
import Derived.Test.YthajndgljfbifaaDeckWords
import Derived.Test.YthajndgljfbifaaPartS
namespace Go.Proofs.Ythajndgljfbifaa
open Go.RowKit
set_option maxRecDepth 100000

/-- Numbers that lie in a block from lo on, below hi. -/
def NatsIn (lo hi : Nat) (k : IntKind) (w : World) (a : Option Addr) (xs : List Nat) : Prop :=
  xs = [] ∨ ∃ b off, a = some ⟨b, off, none⟩ ∧ lo ≤ b ∧ b < hi ∧ ∀ i (h : i < xs.length), w.cell? ⟨b, off + i, none⟩ = some (.int k (xs[i] : Int))

theorem NatsIn.kept {lo hi : Nat} {k : IntKind} {w w' : World} {a : Option Addr} {xs : List Nat} {r : Option Nat} (h : NatsIn lo hi k w a xs) (hg : w.grownBy w' r) (hr : ∀ d, r = some d → d < lo ∨ hi ≤ d) : NatsIn lo hi k w' a xs := by
  rcases h with h | ⟨b, off, ha, h1, h2, h⟩
  · exact .inl h
  · exact .inr ⟨b, off, ha, h1, h2, fun i hi => hg.cell (h i hi) (fun e => by have := hr b e.symm; omega)⟩

theorem NatsIn.from {lo hi : Nat} {k : IntKind} {w : World} {a : Option Addr} {xs : List Nat} (h : NatsIn lo hi k w a xs) {B : Nat} (hB : B ≤ lo) : NatsFrom B k w a xs := by
  rcases h with h | ⟨b, off, ha, h1, _, h⟩
  · exact .inl h
  · exact .inr ⟨b, off, ha, by omega, h⟩

theorem NatsFrom.in {lo : Nat} {k : IntKind} {w : World} {a : Option Addr} {xs : List Nat} (h : NatsFrom lo k w a xs) : NatsIn lo w.heap.size k w a xs := by
  rcases h with h | ⟨b, off, ha, h1, h⟩
  · exact .inl h
  · by_cases h0 : xs = []
    · exact .inl h0
    · have hp : 0 < xs.length := List.length_pos_iff.2 h0
      exact .inr ⟨b, off, ha, h1, World.block_lt_of_cell? _ _ (h 0 hp), h⟩

/-- While Program goes on: the deck, the result's block, the program's box, the sizes. -/
structure PrS (D : Nat) (w : World) (Pb : Nat) (a2 : Option Addr) (s : List Nat) (c2 : Nat) (code data : Value) (W : World) : Prop where
  deck : Deck W D
  grown : w.grownBy W (some D)
  res : Blk W w.heap.size [.slice none 0 0, .slice none 0 0, .slice none 0 0]
  box : Blk W Pb [code, .slice a2 s.length c2, data]
  sizes : NatsIn (w.heap.size + 1) Pb .i64 W a2 s
  hD : D < w.heap.size
  hP : w.heap.size < Pb

variable {D Pb c2 : Nat} {w W W' : World} {a2 : Option Addr} {s : List Nat} {code data : Value}

theorem PrS.draw (h : PrS D w Pb a2 s c2 code data W) (hg : W.grownBy W' (some D)) (hd : Deck W' D) : PrS D w Pb a2 s c2 code data W' := by
  have h1 := h.hD
  have h2 := h.hP
  exact ⟨hd, grownBy_trans h.grown hg, h.res.kept hg (by simp; omega), h.box.kept hg (by simp; omega), h.sizes.kept hg (fun d hd => by cases hd; omega), h1, h2⟩

theorem PrS.own (h : PrS D w Pb a2 s c2 code data W) {r : Option Nat} (hg : W.grownBy W' r) (hr : ∀ b, r = some b → Pb < b) : PrS D w Pb a2 s c2 code data W' := by
  have h1 := h.hD
  have h2 := h.hP
  exact ⟨h.deck.kept hg (fun k hk => by have := hr k hk; omega), grown_own h.grown hg (fun b hb => by have := hr b hb; omega), h.res.kept hg (fun e => by have := hr _ e.symm; omega), h.box.kept hg (fun e => by have := hr _ e.symm; omega), h.sizes.kept hg (fun d hd => by have := hr d hd; omega), h1, h2⟩

theorem PrS.later (h : PrS D w Pb a2 s c2 code data W) (hb : Below W.heap.size W W') : PrS D w Pb a2 s c2 code data W' := h.own (grownBy_below hb rfl none) (fun b hb => by cases hb)

theorem PrS.new (h : PrS D w Pb a2 s c2 code data W) (o : Obj) : PrS D w Pb a2 s c2 code data (W.alloc o) := h.later (Below.alloc (Below.refl _ _) (Nat.le_refl _) o)

theorem PrS.putCode (h : PrS D w Pb a2 s c2 code data W) (v : Value) : PrS D w Pb a2 s c2 v data (W.setCell ⟨Pb, 0, none⟩ v) := by
  have h1 := h.hD
  have h2 := h.hP
  have hg := grownBy_cell W Pb 0 v
  exact ⟨h.deck.kept hg (fun k hk => by cases hk; omega), grownBy_new h.grown (by omega) 0 v, h.res.kept hg (by simp; omega), h.box.put 0 v, h.sizes.kept hg (fun d hd => by cases hd; omega), h1, h2⟩

theorem PrS.putData (h : PrS D w Pb a2 s c2 code data W) (v : Value) : PrS D w Pb a2 s c2 code v (W.setCell ⟨Pb, 2, none⟩ v) := by
  have h1 := h.hD
  have h2 := h.hP
  have hg := grownBy_cell W Pb 2 v
  exact ⟨h.deck.kept hg (fun k hk => by cases hk; omega), grownBy_new h.grown (by omega) 2 v, h.res.kept hg (by simp; omega), h.box.put 2 v, h.sizes.kept hg (fun d hd => by cases hd; omega), h1, h2⟩

theorem PrS.cells (h : PrS D w Pb a2 s c2 code data W) : W.cell? ⟨Pb, 0, none⟩ = some code ∧ W.cell? ⟨Pb, 1, none⟩ = some (.slice a2 s.length c2) ∧ W.cell? ⟨Pb, 2, none⟩ = some data ∧ W.frozen? ⟨Pb, 0, none⟩ = false ∧ W.frozen? ⟨Pb, 2, none⟩ = false ∧ Pb < W.heap.size :=
  ⟨(h.box 0 (by simp)).1, (h.box 1 (by simp)).1, (h.box 2 (by simp)).1, (h.box 0 (by simp)).2, (h.box 2 (by simp)).2, h.box.lt (by simp)⟩

/-- One list of words, off the row's own block. -/
def WordsOff (Pb : Nat) (own : Option Nat) (W : World) (l : List Nat) (v : Value) : Prop :=
  (∀ x ∈ l, x < 65536) ∧ ∃ a c, v = .slice a l.length c ∧ (l = [] ∨ ∃ b off, a = some ⟨b, off, none⟩ ∧ Pb < b ∧ own ≠ some b ∧ ∀ j (h : j < l.length), W.cell? ⟨b, off + j, none⟩ = some (.int .u16 (l[j] : Int)))

theorem WordsOff.kept {own : Option Nat} {l : List Nat} {v : Value} {r : Option Nat} (h : WordsOff Pb own W l v) (hg : W.grownBy W' r) (hr : r = own ∨ ∀ b, r = some b → b ≤ Pb) : WordsOff Pb own W' l v := by
  obtain ⟨h0, a, c, hv, h⟩ := h
  refine ⟨h0, a, c, hv, ?_⟩
  rcases h with h | ⟨b, off, ha, h1, h2, h⟩
  · exact .inl h
  · refine .inr ⟨b, off, ha, h1, h2, fun j hj => hg.cell (h j hj) (fun e => ?_)⟩
    rcases hr with hr | hr
    · exact h2 (hr ▸ e.symm)
    · have := hr b e.symm; omega

/-- The lists of words so far: a row of the call's own. -/
def DatS (Pb : Nat) (L : List (List Nat)) (data : Value) (W : World) : Prop :=
  ∃ rows : List Value, rows.length = L.length ∧ W.ownsRow (Pb + 1) 84 1 data L.length rows ∧ ∀ i (h : i < L.length) (h2 : i < rows.length), WordsOff Pb data.ownBlock W L[i] rows[i]

theorem DatS.kept {L : List (List Nat)} {r : Option Nat} (h : DatS Pb L data W) (hg : W.grownBy W' r) (hr : ∀ b, r = some b → b ≤ Pb) : DatS Pb L data W' := by
  obtain ⟨rows, hl, ho, he⟩ := h
  refine ⟨rows, hl, ho.kept hg ?_, fun i h1 h2 => (he i h1 h2).kept hg (.inr hr)⟩
  by_cases hn : data.ownBlock = none
  · exact .inl hn
  · refine .inr (fun e => ?_)
    obtain ⟨g, hg2⟩ := Option.ne_none_iff_exists'.1 hn
    have h1 := (ho.lt g hg2).1
    have h2 := hr g (by rw [← e, hg2])
    omega

theorem DatS.nil : DatS Pb [] (.slice none 0 0) W := ⟨[], rfl, World.ownsRow_nil _ _ _ _, fun i h => by simp at h⟩

/-- One list more. -/
theorem DatS.push {L : List (List Nat)} {ws : List Nat} {v : Value} {rows : List Value} {gg cap n : Nat} {W1 : World} (hn : n = L.length + 1)
    (hl : rows.length = L.length) (he : ∀ i (h : i < L.length) (h2 : i < rows.length), WordsOff Pb data.ownBlock W L[i] rows[i]) (hv : WordsOff Pb data.ownBlock W ws v)
    (hown : W1.ownsRow (Pb + 1) 84 1 (.slice (some ⟨gg, 0, none⟩) n cap) n (rows ++ [v])) (hg : W.grownBy W1 data.ownBlock) (hat : data.ownBlock = some gg ∨ gg = W.heap.size) : DatS Pb (L ++ [ws]) (.slice (some ⟨gg, 0, none⟩) n cap) W1 := by
  subst hn
  have hmove : ∀ {l : List Nat} {u : Value}, WordsOff Pb data.ownBlock W l u → WordsOff Pb (some gg) W1 l u := by
    intro l u h
    obtain ⟨h0, a, c, hv, h⟩ := h
    refine ⟨h0, a, c, hv, ?_⟩
    rcases h with h | ⟨b, off, ha, h1, h2, h⟩
    · exact .inl h
    · by_cases h9 : l = []
      · exact .inl h9
      · have hp : 0 < l.length := List.length_pos_iff.2 h9
        have hlt : b < W.heap.size := World.block_lt_of_cell? _ _ (h 0 hp)
        refine .inr ⟨b, off, ha, h1, fun e => ?_, fun j hj => hg.cell (h j hj) (fun e => h2 e.symm)⟩
        rcases hat with hat | hat
        · exact h2 (hat.trans e)
        · have := Option.some.inj e; omega
  refine ⟨rows ++ [v], by simp [hl], by simpa using hown, fun i h1 h2 => ?_⟩
  show WordsOff Pb (some gg) W1 (L ++ [ws])[i] (rows ++ [v])[i]
  by_cases e : i < L.length
  · rw [List.getElem_append_left e, List.getElem_append_left (by omega)]
    exact hmove (he i e (by omega))
  · have hi : i = L.length := by simp at h1; omega
    subst hi
    rw [List.getElem_append_right (Nat.le_refl _), List.getElem_append_right (by omega)]
    simp only [Nat.sub_self, hl, List.getElem_cons_zero]
    exact hmove hv

/-- The lists of words, done: blocks between lo and hi. -/
def DatC (lo hi : Nat) (L : List (List Nat)) (ad : Option Addr) (W : World) : Prop :=
  (∀ l ∈ L, ∀ x ∈ l, x < 65536) ∧ (L = [] ∨ ∃ b off, ad = some ⟨b, off, none⟩ ∧ lo < b ∧ b < hi ∧ ∀ i (h : i < L.length), ∃ a c, W.cell? ⟨b, off + i, none⟩ = some (.slice a L[i].length c) ∧ NatsIn (lo + 1) hi .u16 W a L[i])

theorem DatC.kept {lo hi : Nat} {L : List (List Nat)} {ad : Option Addr} {r : Option Nat} (h : DatC lo hi L ad W) (hg : W.grownBy W' r) (hr : ∀ d, r = some d → d ≤ lo ∨ hi ≤ d) : DatC lo hi L ad W' := by
  obtain ⟨h0, h⟩ := h
  refine ⟨h0, ?_⟩
  rcases h with h | ⟨b, off, ha, h1, h2, h⟩
  · exact .inl h
  · refine .inr ⟨b, off, ha, h1, h2, fun i hi => ?_⟩
    obtain ⟨a, c, hc, hn⟩ := h i hi
    exact ⟨a, c, hg.cell hc (fun e => by have := hr b e.symm; omega), hn.kept hg (fun d hd => by have := hr d hd; omega)⟩

theorem DatS.done {L : List (List Nat)} (h : DatS Pb L data W) : ∃ ad cd, data = .slice ad L.length cd ∧ DatC Pb W.heap.size L ad W ∧ L.length ≤ cd := by
  obtain ⟨rows, hl, ho, he⟩ := h
  have hw : ∀ l ∈ L, ∀ x ∈ l, x < 65536 := fun l hl2 => by
    obtain ⟨i, hi, rfl⟩ := List.getElem_of_mem hl2
    exact (he i hi (by omega)).1
  rcases ho.2 with ⟨hv, h0⟩ | ⟨g, cap, cur, hv, hb, _, hnc, _⟩
  · have : L = [] := List.length_eq_zero_iff.1 h0
    subst this
    exact ⟨none, 0, hv, ⟨hw, .inl rfl⟩, Nat.le_refl _⟩
  · have hlt := (ho.lt g (by rw [hv]; rfl)).2
    refine ⟨some ⟨g, 0, none⟩, cap, hv, ⟨hw, .inr ⟨g, 0, rfl, by omega, hlt, fun i hi => ?_⟩⟩, hnc⟩
    obtain ⟨_, a, c, hr, hn⟩ := he i hi (by omega)
    subst hv
    have hc := ho.cellAt i (by omega)
    rw [List.getElem?_eq_getElem (by omega), hr] at hc
    refine ⟨a, c, by rw [Nat.zero_add]; exact hc, ?_⟩
    rcases hn with hn | ⟨b, off, ha, h1, _, h3⟩
    · exact .inl hn
    · by_cases h9 : L[i] = []
      · exact .inl h9
      · exact .inr ⟨b, off, ha, by omega, World.block_lt_of_cell? _ _ (h3 0 (List.length_pos_iff.2 h9)), h3⟩

/-- The instructions so far: a row of the call's own. -/
def CodS (Cb n : Nat) (C : List Ins) (code : Value) (W : World) : Prop :=
  W.ownsRow Cb 66 5 code C.length (insRows C).flatten ∧ ∀ x ∈ C, InsIn n C.length x

theorem CodS.kept {Cb n : Nat} {C : List Ins} {r : Option Nat} (h : CodS Cb n C code W) (hg : W.grownBy W' r) (hr : ∀ b, r = some b → b < Cb) : CodS Cb n C code W' := by
  obtain ⟨h0, h1⟩ := h
  refine ⟨h0.kept hg ?_, h1⟩
  by_cases hn : code.ownBlock = none
  · exact .inl hn
  · refine .inr (fun e => ?_)
    obtain ⟨g, hg2⟩ := Option.ne_none_iff_exists'.1 hn
    have h1 := (h0.lt g hg2).1
    have h2 := hr g (by rw [← e, hg2])
    omega

theorem insRows_append (a b : List Ins) : (insRows (a ++ b)).flatten = (insRows a).flatten ++ (insRows b).flatten := by simp [insRows]

theorem length_insFlat (a : List Ins) : (insRows a).flatten.length = a.length * 5 := by rw [length_flatten (wide_ins a), length_insRows]

theorem insFlat_one (a : List Ins) : ∀ u ∈ (insRows a).flatten, u.oneCell' = true := by
  intro u hu
  obtain ⟨r, hr, hu⟩ := List.mem_flatten.1 hu
  obtain ⟨x, _, rfl⟩ := List.mem_map.1 hr
  simp [insRow] at hu
  rcases hu with rfl | rfl | rfl | rfl | rfl <;> rfl

theorem CodS.push {Cb n : Nat} {C xs : List Ins} {v : Value} {m : Nat} (hm : m = C.length + xs.length) (h : CodS Cb n C code W) (hx : ∀ x ∈ xs, InsIn n (C.length + xs.length) x) (ho : W'.ownsRow Cb 66 5 v m ((insRows C).flatten ++ (insRows xs).flatten)) : CodS Cb n (C ++ xs) v W' := by
  subst hm
  refine ⟨by rw [insRows_append, List.length_append]; exact ho, fun x hx2 => ?_⟩
  rw [List.length_append]
  rcases List.mem_append.1 hx2 with hx2 | hx2
  · exact (h.2 x hx2).mono (by omega)
  · exact hx x hx2

theorem CodS.form {Cb n : Nat} {C : List Ins} (h : CodS Cb n C code W) : ∃ a cap, code = .slice a C.length cap ∧ C.length ≤ cap ∧ RowsAt Cb W a 5 (insRows C) := by
  obtain ⟨_, a, cap, hv, hr, hc⟩ := RowsAt.of_row (by omega) (wide_ins C) h.1
  rw [length_insRows] at hv hc
  exact ⟨a, cap, hv, hc, hr⟩

/-- The cells of rows, as news. -/
theorem rows_news {B k : Nat} {b off : Nat} {rows : List (List Value)} (hk : 0 < k) (hw : Wide k rows) (h : RowsAt B W (some ⟨b, off, none⟩) k rows) : ∀ j u, rows.flatten[j]? = some u → W.cell? ((⟨b, off, none⟩ : Addr).add j) = some u := fun j u hj => by
  obtain ⟨h1, _⟩ := List.getElem?_eq_some_iff.1 hj
  rw [length_flatten hw] at h1
  have hd : j / k < rows.length := Nat.div_lt_of_lt_mul (by rw [Nat.mul_comm]; exact h1)
  have hm : j % k < k := Nat.mod_lt _ hk
  have e : j / k * k + j % k = j := by rw [Nat.mul_comm]; exact Nat.div_add_mod _ _
  have ea : (⟨b, off, none⟩ : Addr).add j = ⟨b, off + j, none⟩ := by unfold Addr.add; split <;> simp_all
  rw [ea]
  rcases h with rfl | ⟨b', off', ha, _, h⟩
  · simp at hd
  · cases ha
    have h2 := h (j / k) hd (j % k) hm
    rw [Nat.add_assoc, e] at h2
    rw [h2, ← flatten_at hw (j / k) (j % k) hd hm, e, hj]

theorem ins_jmp {n m : Nat} {k : Int} (h3 : 0 ≤ k ∧ k ≤ 65535) (h4 : k < (m : Int)) : InsIn n m ⟨18, 0, 0, 0, k⟩ := by
  refine ⟨by simp, by simp, by simp, by simp, by simp, by simp, by simp, by simp, h3.1, h3.2, fun _ => rfl, fun _ => rfl, fun _ => rfl, fun h => by simp [usI] at h, fun _ => h4, fun h => by simp at h, fun h => by simp at h⟩

theorem ins_rti {n m : Nat} : InsIn n m ⟨24, 0, 0, 0, 0⟩ := by
  refine ⟨by simp, by simp, by simp, by simp, by simp, by simp, by simp, by simp, by simp, by simp, fun _ => rfl, fun _ => rfl, fun _ => rfl, fun _ => rfl, fun h => by simp [jumpB] at h, fun h => by simp at h, fun h => by simp at h⟩

/-- All that Program has so far. -/
structure ProgA (D : Nat) (w : World) (Pb : Nat) (a2 : Option Addr) (s : List Nat) (c2 : Nat) (ad : Option Addr) (L : List (List Nat)) (cd Cb : Nat) (C : List Ins) (code : Value) (W : World) : Prop where
  K : PrS D w Pb a2 s c2 code (.slice ad L.length cd) W
  dat : DatC Pb Cb L ad W
  cod : CodS Cb s.length C code W
  size : Cb ≤ W.heap.size
  hPC : Pb < Cb

variable {ad : Option Addr} {L : List (List Nat)} {cd Cb : Nat} {C xs : List Ins}

theorem ProgA.draw (h : ProgA D w Pb a2 s c2 ad L cd Cb C code W) (hg : W.grownBy W' (some D)) (hd : Deck W' D) : ProgA D w Pb a2 s c2 ad L cd Cb C code W' := by
  have h1 := h.K.hD
  have h2 := h.K.hP
  have h3 := h.hPC
  exact ⟨h.K.draw hg hd, h.dat.kept hg (fun d hd => by cases hd; left; omega), h.cod.kept hg (fun d hd => by cases hd; omega), Nat.le_trans h.size hg.size, h3⟩

theorem ProgA.later (h : ProgA D w Pb a2 s c2 ad L cd Cb C code W) (hb : Below W.heap.size W W') : ProgA D w Pb a2 s c2 ad L cd Cb C code W' :=
  ⟨h.K.later hb, h.dat.kept (grownBy_below hb rfl none) (fun d hd => by cases hd), h.cod.kept (grownBy_below hb rfl none) (fun d hd => by cases hd), Nat.le_trans h.size hb.size, h.hPC⟩

theorem ProgA.new (h : ProgA D w Pb a2 s c2 ad L cd Cb C code W) (o : Obj) : ProgA D w Pb a2 s c2 ad L cd Cb C code (W.alloc o) := h.later (Below.alloc (Below.refl _ _) (Nat.le_refl _) o)

theorem ProgA.drew (h : ProgA D w Pb a2 s c2 ad L cd Cb C code W) : ProgA D w Pb a2 s c2 ad L cd Cb C code W.drew :=
  h.draw (grownBy_drewN W (some D) 1) (h.K.deck.kept (grownBy_drewN W none 1) (fun k hk => by cases hk))

/-- Instructions more: what append has done, ahead of the store. -/
theorem ProgA.grow (h : ProgA D w Pb a2 s c2 ad L cd Cb C code W) (hg : W.grownBy W' code.ownBlock) : PrS D w Pb a2 s c2 code (.slice ad L.length cd) W' := by
  have h3 := h.hPC
  exact h.K.own hg (fun b hb => by have := (h.cod.1.lt b hb).1; omega)

/-- Instructions more, stored. -/
theorem ProgA.push {v : Value} {m : Nat} (h : ProgA D w Pb a2 s c2 ad L cd Cb C code W) (hg : W.grownBy W' code.ownBlock) (hx : ∀ x ∈ xs, InsIn s.length (C.length + xs.length) x) (hm : m = C.length + xs.length)
    (ho : W'.ownsRow Cb 66 5 v m ((insRows C).flatten ++ (insRows xs).flatten)) : ProgA D w Pb a2 s c2 ad L cd Cb (C ++ xs) v (W'.setCell ⟨Pb, 0, none⟩ v) := by
  have h3 := h.hPC
  have h4 := hg.size
  have h5 := h.size
  refine ⟨(h.grow hg).putCode v, (h.dat.kept hg (fun d hd => .inr (h.cod.1.lt d hd).1)).kept (grownBy_cell W' Pb 0 v) (fun d hd => by cases hd; exact .inl (Nat.le_refl _)), (CodS.push hm h.cod hx ho).kept (grownBy_cell W' Pb 0 v) (fun d hd => by cases hd; exact h3), ?_, h3⟩
  simp [World.setCell]; omega

theorem ownsRow_take {base m n : Nat} {e : TypeId} {size cap : Nat} {a : Option Addr} {l : List Value} (h : W.ownsRow base e size (.slice a n cap) n l) (hm : m ≤ n) (h0 : 0 < m) : W.ownsRow base e size (.slice a m cap) m (l.take (m * size)) := by
  have h1 : m * size ≤ n * size := Nat.mul_le_mul_right size hm
  refine ⟨by rw [List.length_take, h.1]; omega, ?_⟩
  rcases h.2 with ⟨hv, h2⟩ | ⟨g, cap2, cur, hv, hb, hg, hnc, hmx, hsz, htk⟩
  · omega
  · simp only [Value.slice.injEq] at hv
    obtain ⟨rfl, _, rfl⟩ := hv
    refine .inr ⟨g, cap, cur, rfl, hb, hg, by omega, hmx, hsz, ?_⟩
    rw [← htk, List.take_take, Nat.min_eq_left h1]

theorem insRows_take (C : List Ins) (m : Nat) : (insRows (C.take m)).flatten = (insRows C).flatten.take (m * 5) := by
  induction C generalizing m with
  | nil => simp [insRows]
  | cons x C ih =>
    cases m with
    | zero => simp [insRows]
    | succ m =>
      have := ih m
      simp only [insRows, List.take_succ_cons, List.map_cons, List.flatten_cons] at this ⊢
      rw [this, List.take_append, List.take_of_length_le (l := insRow x) (by rw [length_insRow]; omega), length_insRow, show (m + 1) * 5 - 5 = m * 5 by omega]

theorem insRows_set (C : List Ins) (i : Nat) (hi : i < C.length) (x : Ins) (hx : insRow x = (insRow C[i]).set 4 (.int .i64 0)) : (insRows C).flatten.set (i * 5 + 4) (.int .i64 0) = (insRows (C.set i x)).flatten := by
  rw [flatten_set (wide_ins C) i 4 _ (by rw [length_insRows]; exact hi) (by omega)]
  have h1 : (insRows C)[i]'(by rw [length_insRows]; exact hi) = insRow C[i] := by simp [insRows]
  rw [h1, ← hx]
  simp [insRows, List.map_set]

theorem insRows_at (C : List Ins) (i j : Nat) (hi : i < C.length) (hj : j < 5) : (insRows C).flatten[i * 5 + j]? = (insRow C[i])[j]? := by
  rw [flatten_at (wide_ins C) i j (by rw [length_insRows]; exact hi) hj]
  simp [insRows]

/-- The call gives some valid program in new memory and writes to the deck alone. -/
def GivesProg (D : Nat) (w : World) (e : Ending) (w' : World) : Prop :=
  ∃ (ac : Option Addr) (cc : Nat) (C : List Ins) (a2 : Option Addr) (c2 : Nat) (s : List Nat) (ad : Option Addr) (cd : Nat) (L : List (List Nat)) (lo hi : Nat),
    e = .returned (.agg #[.slice ac C.length cc, .slice a2 s.length c2, .slice ad L.length cd]) ∧ Sz s ∧ L.length = s.length ∧ (∀ i (h : i < L.length) (h2 : i < s.length), L[i].length ≤ s[i]) ∧ 1 ≤ C.length ∧ C.length ≤ 64 ∧ C.length ≤ cc ∧ s.length ≤ c2 ∧
    (∀ x ∈ C, InsIn s.length C.length x) ∧ NatsFrom w.heap.size .i64 w' a2 s ∧ RowsAt w.heap.size w' ac 5 (insRows C) ∧ DatC lo hi L ad w' ∧ w.heap.size ≤ lo ∧ Deck w' D ∧ w.grownBy w' (some D) ∧ L.length ≤ cd

theorem InsIn.nojump {n m m' : Nat} {x : Ins} (h : InsIn n m x) (hj : jumpB x.op = false) : InsIn n m' x := by
  obtain ⟨h1, h2, h3, h4, h5, h6, h7, h8, h9, h10, h11, h12, h13, h14, h15, h16, h17⟩ := h
  exact ⟨h1, h2, h3, h4, h5, h6, h7, h8, h9, h10, h11, h12, h13, h14, fun h => absurd (h.symm.trans hj) (by simp), h16, h17⟩

theorem InsIn.jump {n m m' : Nat} {x : Ins} (h : InsIn n m x) (hj : x.imm < (m' : Int)) : InsIn n m' x := by
  obtain ⟨h1, h2, h3, h4, h5, h6, h7, h8, h9, h10, h11, h12, h13, h14, h15, h16, h17⟩ := h
  exact ⟨h1, h2, h3, h4, h5, h6, h7, h8, h9, h10, h11, h12, h13, h14, fun _ => hj, h16, h17⟩

theorem InsIn.zero {n m m' : Nat} {x : Ins} (h : InsIn n m x) (hj : jumpB x.op = true) (hm : 1 ≤ m') : InsIn n m' ⟨x.op, x.a, x.b, x.c, 0⟩ := by
  obtain ⟨h1, h2, h3, h4, h5, h6, h7, h8, h9, h10, h11, h12, h13, h14, h15, h16, h17⟩ := h
  have hop := of_decide_eq_true hj
  refine ⟨h1, h2, h3, h4, h5, h6, h7, h8, by simp, by simp, h11, h12, h13, fun _ => rfl, fun _ => by show (0 : Int) < m'; omega, fun h => ?_, fun h => ?_⟩
  · have : x.op = 15 := h; omega
  · have : x.op = 23 := h; omega

theorem PrS.drewN (h : PrS D w Pb a2 s c2 code data W) (n : Nat) : PrS D w Pb a2 s c2 code data (W.drewN n) :=
  h.draw (grownBy_drewN W (some D) n) (h.deck.kept (grownBy_drewN W none n) (fun k hk => by cases hk))
end Go.Proofs.Ythajndgljfbifaa
