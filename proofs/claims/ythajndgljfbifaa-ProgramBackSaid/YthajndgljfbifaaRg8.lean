/-
  The program's reader: regions.
  The program's reader: the contract of regions.
-/
import Derived.Test.YthajndgljfbifaaRd8
import Derived.Test.YthajndgljfbifaaPrgS
import Derived.Test.YthajndgljfbifaaSta8
import Derived.Deep.AppendLies
namespace Go.Proofs.Ythajndgljfbifaa
open Go.RowKit
set_option maxRecDepth 100000

/-- One list of words in a block beyond P, off two rows' blocks. -/
def WOff (P : Nat) (o1 o2 : Option Nat) (W : World) (l : List Nat) (v : Value) : Prop :=
  ∃ a c, v = .slice a l.length c ∧ (l = [] ∨ ∃ b off, a = some ⟨b, off, none⟩ ∧ P < b ∧ b < W.heap.size ∧ o1 ≠ some b ∧ o2 ≠ some b ∧ ∀ j (h : j < l.length), W.cell? ⟨b, off + j, none⟩ = some (.int .u16 (l[j] : Int)))

theorem WOff.move {P : Nat} {o1 o2 o1' o2' r : Option Nat} {W W' : World} {l : List Nat} {v : Value} (h : WOff P o1 o2 W l v) (hg : W.grownBy W' r) (hr : r = o1 ∨ r = o2 ∨ ∀ b, r = some b → b ≤ P) (h1 : o1' = o1 ∨ ∀ b, o1' = some b → W.heap.size ≤ b) (h2 : o2' = o2 ∨ ∀ b, o2' = some b → W.heap.size ≤ b) : WOff P o1' o2' W' l v := by
  obtain ⟨a, c, hv, h⟩ := h
  refine ⟨a, c, hv, ?_⟩
  rcases h with h | ⟨b, off, ha, hP, hb, n1, n2, h⟩
  · exact .inl h
  · refine .inr ⟨b, off, ha, hP, Nat.lt_of_lt_of_le hb hg.size, ?_, ?_, fun j hj => hg.cell (h j hj) (fun e => ?_)⟩
    · rcases h1 with rfl | h1
      · exact n1
      · intro e; have := h1 b e; omega
    · rcases h2 with rfl | h2
      · exact n2
      · intro e; have := h2 b e; omega
    · rcases hr with rfl | rfl | hr
      · exact n1 e.symm
      · exact n2 e.symm
      · have := hr b e.symm; omega

def natV (S : List Nat) : List Value := S.map fun x : Nat => Value.int .i64 (x : Int)

/-- The sizes and lists of words so far: rows of the call's own beyond P. -/
structure RgS (P : Nat) (S : List Nat) (L : List (List Nat)) (vs vd : Value) (W : World) : Prop where
  sizes : W.ownsRow (P + 1) 3 1 vs S.length (natV S)
  data : ∃ rows : List Value, rows.length = L.length ∧ W.ownsRow (P + 1) 84 1 vd L.length rows ∧ ∀ i (h : i < L.length) (h2 : i < rows.length), WOff P vs.ownBlock vd.ownBlock W L[i] rows[i]
  ne : vs.ownBlock = none ∨ vs.ownBlock ≠ vd.ownBlock

theorem own_kept8 {W W' : World} {base : Nat} {e : TypeId} {size n : Nat} {v : Value} {xs : List Value} {r : Option Nat} (h : W.ownsRow base e size v n xs) (hg : W.grownBy W' r) (hr : ∀ b, r = some b → v.ownBlock ≠ some b) : W'.ownsRow base e size v n xs := by
  refine h.kept hg ?_
  by_cases hn : v.ownBlock = none
  · exact .inl hn
  · refine .inr (fun e => ?_)
    obtain ⟨g, hg2⟩ := Option.ne_none_iff_exists'.1 hn
    exact hr g (by rw [← e, hg2]) hg2

theorem RgS.kept {P : Nat} {S : List Nat} {L : List (List Nat)} {vs vd : Value} {W W' : World} {r : Option Nat} (h : RgS P S L vs vd W) (hg : W.grownBy W' r) (hr : ∀ b, r = some b → b ≤ P) : RgS P S L vs vd W' := by
  obtain ⟨rows, hl, ho, he⟩ := h.data
  refine ⟨own_kept8 h.sizes hg (fun b hb e => ?_), ⟨rows, hl, own_kept8 ho hg (fun b hb e => ?_), fun i h1 h2 => (he i h1 h2).move hg (.inr (.inr hr)) (.inl rfl) (.inl rfl)⟩, h.ne⟩
  · have := (h.sizes.lt b e).1; have := hr b hb; omega
  · have := (ho.lt b e).1; have := hr b hb; omega

theorem RgS.nil {P : Nat} {W : World} : RgS P [] [] (.slice none 0 0) (.slice none 0 0) W := ⟨World.ownsRow_nil _ _ _ _, ⟨[], rfl, World.ownsRow_nil _ _ _ _, fun i h => by simp at h⟩, .inl rfl⟩

/-- A size more. -/
theorem RgS.pushS {P : Nat} {S : List Nat} {L : List (List Nat)} {vs vd : Value} {W W1 : World} {x gg cap : Nat} (h : RgS P S L vs vd W) (hown : W1.ownsRow (P + 1) 3 1 (.slice (some ⟨gg, 0, none⟩) (S.length + 1) cap) (S.length + 1) (natV S ++ [.int .i64 (x : Int)])) (hg : W.grownBy W1 vs.ownBlock) (hat : vs.ownBlock = some gg ∨ gg = W.heap.size) :
    RgS P (S ++ [x]) L (.slice (some ⟨gg, 0, none⟩) (S.length + 1) cap) vd W1 := by
  obtain ⟨rows, hl, ho, he⟩ := h.data
  have hvd : ∀ b, vs.ownBlock = some b → vd.ownBlock ≠ some b := fun b hb e => by
    rcases h.ne with h0 | h0
    · rw [h0] at hb; cases hb
    · exact h0 (hb.trans e.symm)
  refine ⟨?_, ⟨rows, hl, own_kept8 ho hg hvd, fun i h1 h2 => (he i h1 h2).move hg (.inl rfl) ?_ (.inl rfl)⟩, .inr ?_⟩
  · have e : natV (S ++ [x]) = natV S ++ [.int .i64 (x : Int)] := by simp [natV]
    rw [e, List.length_append]; exact hown
  · rcases hat with hat | hat
    · exact .inl hat.symm
    · refine .inr (fun b hb => ?_)
      have : gg = b := Option.some.inj hb
      omega
  · intro e
    have e2 : some gg = vd.ownBlock := e
    rcases hat with hat | hat
    · exact hvd gg hat e2.symm
    · have := (ho.lt gg e2.symm).2
      omega

/-- A list of words more. -/
theorem RgS.pushD {P : Nat} {S : List Nat} {L : List (List Nat)} {vs vd v : Value} {rows : List Value} {W W1 : World} {ws : List Nat} {gg cap : Nat} (h : W.ownsRow (P + 1) 3 1 vs S.length (natV S)) (hne : vs.ownBlock = none ∨ vs.ownBlock ≠ vd.ownBlock) (hl : rows.length = L.length) (he : ∀ i (h : i < L.length) (h2 : i < rows.length), WOff P vs.ownBlock vd.ownBlock W L[i] rows[i]) (hv : WOff P vs.ownBlock vd.ownBlock W ws v)
    (hown : W1.ownsRow (P + 1) 84 1 (.slice (some ⟨gg, 0, none⟩) (L.length + 1) cap) (L.length + 1) (rows ++ [v])) (hg : W.grownBy W1 vd.ownBlock) (hat : vd.ownBlock = some gg ∨ gg = W.heap.size) :
    RgS P S (L ++ [ws]) vs (.slice (some ⟨gg, 0, none⟩) (L.length + 1) cap) W1 := by
  have hvs : ∀ b, vd.ownBlock = some b → vs.ownBlock ≠ some b := fun b hb e => by
    rcases hne with h0 | h0
    · rw [h0] at e; cases e
    · exact h0 (e.trans hb.symm)
  have hmove : ∀ {l : List Nat} {u : Value}, WOff P vs.ownBlock vd.ownBlock W l u → WOff P vs.ownBlock (some gg) W1 l u := fun h => h.move hg (.inr (.inl rfl)) (.inl rfl) (by
    rcases hat with hat | hat
    · exact .inl hat.symm
    · refine .inr (fun b hb => ?_)
      have : gg = b := Option.some.inj hb
      omega)
  refine ⟨own_kept8 h hg hvs, ⟨rows ++ [v], by simp [hl], by simpa using hown, fun i h1 h2 => ?_⟩, ?_⟩
  · show WOff P vs.ownBlock (some gg) W1 (L ++ [ws])[i] (rows ++ [v])[i]
    by_cases e : i < L.length
    · rw [List.getElem_append_left e, List.getElem_append_left (by omega)]
      exact hmove (he i e (by omega))
    · have hi : i = L.length := by simp at h1; omega
      subst hi
      rw [List.getElem_append_right (Nat.le_refl _), List.getElem_append_right (by omega)]
      simp only [Nat.sub_self, hl, List.getElem_cons_zero]
      exact hmove hv
  · by_cases h0 : vs.ownBlock = none
    · exact .inl h0
    · refine .inr (fun e => ?_)
      have e2 : vs.ownBlock = some gg := e
      rcases hat with hat | hat
      · exact hvs gg hat e2
      · have := (h.lt gg e2).2; omega

/-- At the end: sizes and data in memory. -/
theorem RgS.at {P : Nat} {S : List Nat} {L : List (List Nat)} {vs vd : Value} {W : World} (h : RgS P S L vs vd W) : ∃ a2 c2 ad cd, vs = .slice a2 S.length c2 ∧ vd = .slice ad L.length cd ∧ IntsAt .i64 W a2 (S.map fun x : Nat => (x : Int)) ∧ DatAt W ad L := by
  obtain ⟨rows, hl, ho, he⟩ := h.data
  have hs := h.sizes
  have e : natV S = i64V (S.map fun x : Nat => (x : Int)) := by simp [natV, i64V]
  rw [e] at hs
  obtain ⟨_, a2, c2, hv, _, hi⟩ := ints_of_own8 hs
  rw [List.length_map] at hv
  rcases ho.2 with ⟨hvd, h0⟩ | ⟨g, cap, cur, hvd, _, _, _, _⟩
  · have : L = [] := List.length_eq_zero_iff.1 h0
    subst this
    exact ⟨a2, c2, none, 0, hv, hvd, hi.at, .inl rfl⟩
  · subst hvd
    refine ⟨a2, c2, _, _, hv, rfl, hi.at, .inr ⟨g, 0, rfl, fun i hi2 => ?_⟩⟩
    obtain ⟨a, c, hr, hn⟩ := he i hi2 (by omega)
    have hc := ho.cellAt i (by omega)
    rw [List.getElem?_eq_getElem (by omega), hr] at hc
    refine ⟨a, c, by rw [Nat.zero_add]; exact hc, ?_⟩
    rcases hn with hn | ⟨b, off, ha, _, _, _, _, h3⟩
    · exact .inl hn
    · exact .inr ⟨b, off, ha, h3⟩
end Go.Proofs.Ythajndgljfbifaa
namespace Go.Proofs.Ythajndgljfbifaa
open Go.RowKit
set_option maxRecDepth 100000

theorem info_words8 : (Try.prog.info? 84).map (fun i => (i.zero, i.size, i.bytes)) = some (some (.slice none 0 0), 1, 24) := by kernel_rfl

/-- All that is left and taken when k regions have been taken. -/
structure RhS (P k : Nat) (l : List Nat) (sh : Bool) (w : World) (vs vd : Value) (W : World) : Prop where
  rows : RgS (w.heap.size - 1) (rgTo k l sh).1 (rgTo k l sh).2.1 vs vd W
  rest : RdB P (rgTo k l sh).2.2.1 (rgTo k l sh).2.2.2 W
  grown : w.grownBy W (some P)

theorem rd_lt {P : Nat} {l : List Nat} {sh : Bool} {w : World} (h : RdB P l sh w) : P < w.heap.size := by
  obtain ⟨v, hB, _⟩ := h
  exact World.block_lt_of_cell? _ _ (hB 0 (by simp)).1

theorem headD_lt {l : List Nat} (hx : ∀ x ∈ l, x < 256) : nmV l < 256 := by
  unfold nmV
  cases l with
  | nil => simp
  | cons x r => exact hx x (by simp)

set_option maxHeartbeats 4000000 in
theorem reader_regions (P : Nat) (l : List Nat) (sh : Bool) (w : World) (h : RdB P l sh w) (hl : l.length ≤ 1000000) (hsh : sh = true → l = []) (hx : ∀ x ∈ l, x < 256) :
    Calls Try.prog 63 #[.pointer (some ⟨P, 0, none⟩)] w fun e w' => ∃ vs vd, e = .returned (.tuple #[vs, vd]) ∧ RhS P (nmV l) l.tail (nmS l sh) w vs vd w' := by
  have HN0 := Lib.hid (reader_number P l sh w h hl hsh hx)
  have hP := rd_lt h
  have hn := headD_lt hx
  have hsh1 := nm_short l sh hsh
  have hx1 : ∀ x ∈ l.tail, x < 256 := fun x hm => hx x (List.mem_of_mem_tail hm)
  have hl1 : l.tail.length ≤ 1000000 := by rw [List.length_tail]; omega
  obtain ⟨i0, hi, hz0, hz1, hz2⟩ := info_parts info_int8
  obtain ⟨j0, hj, hy0, hy1, hy2⟩ := info_parts info_words8
  clear h hsh hx hl
  go_enter Try.func63, Try.ntmps63
  go_upto_region 4 with (go_at_call 65; (with_reducible refine HN0.out.mono ?_); rintro e w1 ⟨rfl, hr1, hg1⟩)
  clear HN0
  generalize e1 : nmV l = n at *
  generalize e2 : nmS l sh = s1 at *
  generalize e3 : l.tail = l1 at *
  have HFin : Hid (∀ vs vd W, RhS P n l1 s1 w vs vd W → RhS P (nmV l) l.tail (nmS l sh) w vs vd W) := Lib.hid (by rw [e1, e2, e3]; exact fun _ _ _ h => h)
  clear e1 e2 e3
  go_loopw [4, 5, 8] (fun v4 v5 c wr => ∃ k : Nat, k ≤ n ∧ c = .int .i64 k ∧ RhS P k l1 s1 w v4 v5 wr) (fun _ _ c _ => n - (intOf c).toNat)
  case atStart => exact ⟨0, by omega, rfl, RgS.nil, hr1, hg1⟩
  clear hr1 hg1
  obtain ⟨k, hk, rfl, hK⟩ := hrel
  by_cases hlt : k < n
  · have i1 : (k : Int) < (n : Int) := by omega
    have i2 : 0 ≤ (k : Int) := by omega
    obtain ⟨hS, hR, hg⟩ := hK
    obtain ⟨Q, hQe⟩ : ∃ Q, w.heap.size - 1 = Q := ⟨_, rfl⟩
    have hQ : P ≤ Q := by omega
    have hQw : w.heap.size ≤ Q + 1 := by omega
    have hQr : Q + 1 ≤ wr.heap.size := by have := hg.size; omega
    have HQE := Lib.hid hQe
    rw [hQe] at hS
    clear hQe
    have hlen := (rgTo_len k l1 s1).2.2
    have hmem := rgTo_mem k l1 s1
    have hsho := rgTo_short k l1 s1 hsh1
    have HS1 := Lib.hid (rgTo_len k l1 s1).1
    have HL1 := Lib.hid (rgTo_len k l1 s1).2.1
    have HEnd : Hid (∀ v4 v5 W, RgS Q ((rgTo k l1 s1).1 ++ [nmV (rgTo k l1 s1).2.2.1]) ((rgTo k l1 s1).2.1 ++ [rgW (rgTo k l1 s1).2.2.1]) v4 v5 W → RdB P (rgL (rgTo k l1 s1).2.2.1) (rgS (rgTo k l1 s1).2.2.1 (rgTo k l1 s1).2.2.2) W → w.grownBy W (some P) → RhS P (k + 1) l1 s1 w v4 v5 W) := Lib.hid (fun v4 v5 W h1 h2 h3 => ⟨by rw [HQE.out]; exact h1, h2, h3⟩)
    generalize (rgTo k l1 s1).1 = S at *
    generalize (rgTo k l1 s1).2.1 = L at *
    generalize (rgTo k l1 s1).2.2.1 = r at *
    generalize (rgTo k l1 s1).2.2.2 = sr at *
    have hxr : ∀ x ∈ r, x < 256 := fun x hm => hx1 x (hmem x hm)
    have HN1 := Lib.hid (fun W (h : RdB P r sr W) => reader_number P r sr W h (by omega) hsho hxr)
    have hxt : ∀ x ∈ r.tail, x < 256 := fun x hm => hxr x (List.mem_of_mem_tail hm)
    have hsh2 := nm_short r sr hsho
    have HN2 := Lib.hid (fun W (h : RdB P r.tail (nmS r sr) W) => reader_number P r.tail (nmS r sr) W h (by rw [List.length_tail]; omega) hsh2 hxt)
    have hn2 := headD_lt hxt
    have HW3 := Lib.hid (fun W (h : RdB P r.tail.tail (nmS r.tail (nmS r sr)) W) => reader_words P r.tail.tail (nmS r.tail (nmS r sr)) (nmV r.tail) W h (by rw [List.length_tail, List.length_tail]; omega) (by omega) (fun x hm => hxt x (List.mem_of_mem_tail hm)))
    have HEnd2 : Hid (∀ v4 v5 W, RgS Q (S ++ [nmV r]) (L ++ [wdV r.tail.tail (nmV r.tail)]) v4 v5 W → RdB P (tkL r.tail.tail (2 * nmV r.tail)) (tkS r.tail.tail (nmS r.tail (nmS r sr)) (2 * nmV r.tail)) W → w.grownBy W (some P) → RhS P (k + 1) l1 s1 w v4 v5 W) := HEnd
    have hwl : (wdV r.tail.tail (nmV r.tail)).length ≤ 1000000 := by
      unfold wdV
      rw [length_wordsOf]
      have := tkT_len r.tail.tail (2 * nmV r.tail)
      rw [List.length_tail, List.length_tail] at this
      omega
    clear HEnd hxr hxt hsh2 hsho hmem hsh1 hx1
    have hPr := rd_lt hR
    have HG := Lib.hid hg
    clear hg
    go_upto_region 6 with (first
      | (go_at_call 65; (with_reducible refine (HN1.out _ hR).mono ?_); rintro e w2 ⟨rfl, hr2, hg2⟩; have hS2 := hS.kept hg2 (fun b hb => by cases hb; exact hQ); have hP2 := rd_lt hr2)
      | (at_builtin; refine wpList_append_lies _ rfl (.tmp 10) (.tmp 13) 23 rfl (Q + 1) 3 i0 (.int .i64 0) 1 8 Try.underlying23 hi hz0 hz1 hz2 rfl (by omega) _ _ _ rfl (hS2.sizes.alloc _) ⟨w2.heap.size, 0, none⟩ 1 1 [.int .i64 (nmV r : Int)] rfl rfl ?c1 ?c2 (by omega) ?c3 ?c4 ?c5 (w2.heap.size + 1) ?c6 ?_))
    case c1 => exact World.news_of_block (cs := #[.int .i64 (nmV r : Int)]) (t := 3) (fr := (0, 0)) (heap_alloc_new w2 _)
    case c2 => simp [Value.oneCell']
    case c3 => have := HS1.out; unfold maxLen; omega
    case c4 => have := HS1.out; omega
    case c5 => have := hg2.size; simp; omega
    case c6 => simp
    intro gg cap w3 hown3 hg3 hat3 hlt3
    have gA := World.grownBy_alloc w2 (.cells #[.int .i64 (nmV r : Int)] 3)
    have hS3 := (hS2.kept (gA none) (fun b hb => by cases hb)).pushS hown3 hg3 (by simpa using hat3)
    have hR3 := (hr2.grown (gA none) (fun b hb => by cases hb)).grown hg3 (fun b hb => by have := (hS2.sizes.lt b hb).1; omega)
    have HG3 := Lib.hid (grown_own (grownBy_trans HG.out (grownBy_trans hg2 (gA (some P)))) hg3 (fun b hb => by
      have h1 := (hS2.sizes.lt b hb).1
      omega))
    have hP3 := rd_lt hR3
    have hQ3 : Q + 1 ≤ w3.heap.size := by have := hg2.size; have := hg3.size; have := (gA none).size; omega
    clear gA hown3 hg3 hat3 hlt3 hS2 hr2 hg2 HN1 HG hS hR hP2
    generalize S ++ [nmV r] = S2 at *
    generalize Value.slice (some ⟨gg, 0, none⟩) (S.length + 1) cap = v4 at *
    have HWL := Lib.hid hwl
    clear hwl
    go_wp2_with (first
      | (go_at_call 65; (with_reducible refine (HN2.out _ hR3).mono ?_); rintro e w4 ⟨rfl, hr4, hg4⟩; have hS4 := hS3.kept hg4 (fun b hb => by cases hb; exact hQ))
      | (go_at_call 92; (with_reducible refine (HW3.out _ hr4).mono ?_); rintro e w5 ⟨B, hB, rfl, hn5, hr5, hg5⟩; have hS5 := hS4.kept hg5 (fun b hb => by cases hb; exact hQ); obtain ⟨rows, hrl, hrow, hre⟩ := hS5.data)
      | (at_builtin; refine wpList_append_lies _ rfl (.tmp 15) (.tmp 20) 24 rfl (Q + 1) 84 j0 (.slice none 0 0) 1 24 Try.underlying24 hj hy0 hy1 hy2 rfl (by omega) _ _ _ rfl (hrow.alloc _) ⟨w5.heap.size, 0, none⟩ 1 1 [.slice (some ⟨B, 0, none⟩) (wdV r.tail.tail (nmV r.tail)).length (wdV r.tail.tail (nmV r.tail)).length] rfl rfl ?d1 ?d2 (by omega) ?d3 ?d4 ?d5 (w5.heap.size + 1) ?d6 ?_))
    case d1 => exact World.news_of_block (cs := #[.slice (some ⟨B, 0, none⟩) (wdV r.tail.tail (nmV r.tail)).length (wdV r.tail.tail (nmV r.tail)).length]) (t := 84) (fr := (0, 0)) (heap_alloc_new w5 _)
    case d2 => simp [Value.oneCell']
    case d3 => have := HL1.out; unfold maxLen; omega
    case d4 => have := HL1.out; omega
    case d5 => have := hg4.size; have := hg5.size; simp; omega
    case d6 => simp
    intro g2 cap2 w6 hown6 hg6 hat6 hlt6
    have gA := World.grownBy_alloc w5 (.cells #[.slice (some ⟨B, 0, none⟩) (wdV r.tail.tail (nmV r.tail)).length (wdV r.tail.tail (nmV r.tail)).length] 84)
    have hv : WOff Q v4.ownBlock u5.ownBlock (w5.alloc (.cells #[.slice (some ⟨B, 0, none⟩) (wdV r.tail.tail (nmV r.tail)).length (wdV r.tail.tail (nmV r.tail)).length] 84)) (wdV r.tail.tail (nmV r.tail)) (.slice (some ⟨B, 0, none⟩) (wdV r.tail.tail (nmV r.tail)).length (wdV r.tail.tail (nmV r.tail)).length) := by
      refine ⟨_, _, rfl, ?_⟩
      rcases hn5 with h0 | ⟨b, off, ha, h5⟩
      · exact .inl h0
      · by_cases h0 : wdV r.tail.tail (nmV r.tail) = []
        · exact .inl h0
        · cases ha
          have hp : 0 < (wdV r.tail.tail (nmV r.tail)).length := List.length_pos_iff.2 h0
          have hlt5 : B < w5.heap.size := World.block_lt_of_cell? _ _ (h5 0 hp)
          have h43 := hg4.size
          refine .inr ⟨B, 0, rfl, by omega, Nat.lt_of_lt_of_le hlt5 (gA none).size, fun e => ?_, fun e => ?_, fun j hj => (gA none).cell (h5 j hj) (by simp)⟩
          · have := (hS4.sizes.lt B e).2; omega
          · obtain ⟨rows4, _, hrow4, _⟩ := hS4.data
            have := (hrow4.lt B e).2; omega
    have hS6 := (hS5.kept (gA none) (fun b hb => by cases hb))
    have hpd := RgS.pushD (ws := wdV r.tail.tail (nmV r.tail)) hS6.sizes hS6.ne hrl (fun i h1 h2 => (hre i h1 h2).move (gA none) (.inr (.inr (fun b hb => by cases hb))) (.inl rfl) (.inl rfl)) hv hown6 hg6 (by simpa using hat6)
    have hR6 := (hr5.grown (gA none) (fun b hb => by cases hb)).grown hg6 (fun b hb => by have := (hrow.lt b hb).1; omega)
    have HG6 := Lib.hid (grown_own (grownBy_trans (grownBy_trans (grownBy_trans HG3.out hg4) hg5) (gA (some P))) hg6 (fun b hb => by
      have h1 := (hrow.lt b hb).1
      omega))
    have HK := Lib.hid (HEnd2.out _ _ _ hpd hR6 HG6.out)
    clear hpd hR6 hS6 hv gA hown6 hg6 hat6 hlt6 hrow hre hS5 hS4 hr4 hr5 hg4 hg5 hn5 hS3 hR3 HN2 HW3 HEnd2
    go_wp2_with fail
    refine ⟨⟨k + 1, by omega, by go_num, HK.out⟩, ?_⟩
    simp [intOf]
    omega
  · obtain rfl : k = n := by omega
    go_wp2_with fail
    go_ret2
    exact ⟨_, _, rfl, HFin.out _ _ _ hK⟩
end Go.Proofs.Ythajndgljfbifaa
