/-
  The program's decodeCode.
  The program's Decode.
  The bytes of a program, read again.
-/
import Derived.RangeFuncBox
import Derived.RangeFuncLeaves
import Derived.RangeFuncCalls
import Derived.Test.YthajndgljfbifaaChk6
import Derived.Test.YthajndgljfbifaaIc5
import Derived.Test.YthajndgljfbifaaPgm
import Derived.Test.YthajndgljfbifaaRg8
import Derived.Test.YthajndgljfbifaaChk8
import Derived.Test.YthajndgljfbifaaEnc8
import Derived.Test.YthajndgljfbifaaIc6
import Derived.Test.YthajndgljfbifaaPgD
namespace Go.Proofs.Ythajndgljfbifaa
open Go.RowKit Go.Shelf
set_option maxRecDepth 100000

attribute [local go_sem] Oper.semAt_some

/-- The j-th six bytes; the instruction that they are; their error. -/
def sixB (xs : List Nat) (j : Nat) : List Nat := (xs.drop (6 * j)).take 6
def dcX (xs : List Nat) (j : Nat) : Ins := decX (sixB xs j)
def dcE (xs : List Nat) (j : Nat) : Int := decE (sixB xs j)

def insCel (x : Ins) : List Value := insRow x

/-- What decodeCode gives. -/
def GivesCode (xs : List Nat) (K : Nat) (w : World) (e : Ending) (w' : World) : Prop :=
  Below w.heap.size w w' ∧ (((∀ j < K, dcE xs j = 0) ∧ ∃ v, e = .returned (.tuple #[v, .int .i64 0]) ∧ w'.ownsRow w.heap.size 66 5 v K (insRows ((List.range K).map (dcX xs))).flatten) ∨ ((∃ j < K, dcE xs j ≠ 0) ∧ e = .returned (.tuple #[.slice none 0 0, .int .i64 5])))

theorem info_ins8 : (Try.prog.info? 66).map (fun i => (i.zero, i.size, i.bytes)) = some (some (.agg #[.int .i64 0, .int .i64 0, .int .i64 0, .int .i64 0, .int .i64 0]), 5, 40) := by kernel_rfl

/-- Between two rounds. -/
def DcI (w : World) (v0 : Value) (xs : List Nat) (K : Nat) (pre : List (Chk K)) (W : World) : Prop :=
  (((∃ cv, Boxed W (w.heap.size + 1 + 1) 22 cv ∧ W.ownsRow w.heap.size 66 5 cv pre.length (insRows (pre.map fun x => dcX xs x.1)).flatten ∧ True) ∧ (Boxed W w.heap.size 22 (.slice none 0 0) ∧ Boxed W (w.heap.size + 1) 38 (.int .i64 0) ∧ Boxed W (w.heap.size + 1 + 1 + 1) 52 v0 ∧ Boxed W (w.heap.size + 1 + 1 + 1 + 1) 3 (.int .i64 6))) ∧ ∀ x ∈ pre, dcE xs x.1 = 0) ∧ Below w.heap.size w W

/-- A round has left. -/
def DcX (w : World) (xs : List Nat) (K : Nat) (c : Code) (pre : List (Chk K)) (W : World) : Prop :=
  (c = .ret ∧ (∃ x ∈ pre, dcE xs x.1 ≠ 0) ∧ Boxed W w.heap.size 22 (.slice none 0 0) ∧ Boxed W (w.heap.size + 1) 38 (.int .i64 5)) ∧ Below w.heap.size w W

theorem boxed_own {β : Type} (B : Nat) (t : TypeId) (v : Value) : Own (fun (_ : β) W => Boxed W B t v) := fun _ X Y row hv hg hrow => hv.kept hg (fun e' => by
  obtain ⟨o, ho, hc⟩ := hrow B e'.symm
  rw [show X.heap[B]? = _ from hv] at ho; cases ho; cases hc)

theorem dcI_own (w : World) (v0 : Value) (xs : List Nat) (K B : Nat) (hB : w.heap.size ≤ B) : OwnFrom B (DcI w v0 xs K) :=
  OwnFrom.and (Own.from (fun s X Y row hs hg hr => ⟨⟨holdsRow_own (β := List (Chk K)) w.heap.size (w.heap.size + 1 + 1) _ _ 5 (fun q => q.length) (fun q => (insRows (q.map fun x => dcX xs x.1)).flatten) (fun _ _ => True) s X Y row hs.1.1 hg hr, boxed_own (β := Unit) _ _ _ () X Y row hs.1.2.1 hg hr, boxed_own (β := Unit) _ _ _ () X Y row hs.1.2.2.1 hg hr, boxed_own (β := Unit) _ _ _ () X Y row hs.1.2.2.2.1 hg hr, boxed_own (β := Unit) _ _ _ () X Y row hs.1.2.2.2.2 hg hr⟩, hs.2⟩) B) (ownFrom_below (Nat.le_refl _) hB)

theorem dcX_own (w : World) (xs : List Nat) (K B : Nat) (hB : w.heap.size ≤ B) (c : Code) : OwnFrom B (DcX w xs K c) :=
  OwnFrom.and (Own.from (fun _ X Y row hs hg hr => ⟨hs.1, hs.2.1, boxed_own (β := Unit) _ _ _ () X Y row hs.2.2.1 hg hr, boxed_own (β := Unit) _ _ _ () X Y row hs.2.2.2 hg hr⟩) B) (ownFrom_below (Nat.le_refl _) hB)

theorem own_form8 {w : World} {B k : Nat} {v : Value} {T : TypeId} {size : Nat} {xs : List Value} (h : w.ownsRow B T size v k xs) : ∃ a cap, v = .slice a k cap := by
  rcases h.2 with ⟨rfl, rfl⟩ | ⟨g, cap, _, rfl, _⟩
  · exact ⟨_, _, rfl⟩
  · exact ⟨_, _, rfl⟩

theorem code_at8 {w : World} {B : Nat} {v : Value} {C : List Ins} (h : w.ownsRow B 66 5 v C.length (insRows C).flatten) : ∃ ac cc, v = .slice ac C.length cc ∧ CodeAt w ac C := by
  obtain ⟨ac, cc, rfl⟩ := own_form8 h
  refine ⟨ac, cc, rfl, ?_⟩
  by_cases h0 : C.length = 0
  · exact .inl (List.eq_nil_of_length_eq_zero h0)
  · obtain ⟨g, cap, e, _, _⟩ := h.form (by omega)
    simp only [Value.slice.injEq, true_and] at e
    obtain ⟨rfl, rfl⟩ := e
    refine .inr ⟨g, 0, rfl, fun i hi => ?_⟩
    have k0 := fun j hj => insRows_at C i j hi hj
    refine ⟨?_, ?_, ?_, ?_, ?_⟩
    · rw [Nat.zero_add, h.cellAt (i * 5) (by omega)]; exact (k0 0 (by omega)).trans rfl
    · rw [Nat.zero_add, h.cellAt (i * 5 + 1) (by omega)]; exact (k0 1 (by omega)).trans rfl
    · rw [Nat.zero_add, h.cellAt (i * 5 + 2) (by omega)]; exact (k0 2 (by omega)).trans rfl
    · rw [Nat.zero_add, h.cellAt (i * 5 + 3) (by omega)]; exact (k0 3 (by omega)).trans rfl
    · rw [Nat.zero_add, h.cellAt (i * 5 + 4) (by omega)]; exact (k0 4 (by omega)).trans rfl

theorem chkTo_map (K : Nat) (f : Nat → Ins) : ∀ k h, (chkTo K k h).map (fun x => f x.1) = (List.range k).map f
  | 0, _ => rfl
  | k + 1, h => by rw [chkTo, List.map_append, chkTo_map K f k, List.range_succ, List.map_append]; rfl

theorem chkTo_mem (K : Nat) : ∀ k h j, (hj : j < k) → (⟨j, Nat.lt_of_lt_of_le hj h⟩ : Chk K) ∈ chkTo K k h
  | 0, _, j, hj => absurd hj (by omega)
  | k + 1, h, j, hj => by
    rw [chkTo, List.mem_append]
    by_cases e : j = k
    · subst e; exact .inr (by simp)
    · exact .inl (chkTo_mem K k (by omega) j (by omega))

set_option maxHeartbeats 4000000 in
theorem program_decodeCode (v : Value) (b off : Nat) (xs : List Nat) (K : Nat) (w : World) (hK : K ≤ 1000) (hlen : xs.length = 6 * K) (hV : ChkV v b off K) (hat : ∀ W, Below w.heap.size w W → ∀ j < K, NatsAt .u8 W (some ⟨b, off + 6 * j, none⟩) (sixB xs j)) (hx : ∀ x ∈ xs, x < 256) :
    Calls Try.prog 66 #[v] w (GivesCode xs K w) := by
  obtain ⟨i0, hi, hz0, hz1, hz2⟩ := info_parts info_ins8
  obtain ⟨a, len, cap, rfl⟩ : ∃ a len cap, v = .slice a len cap := by
    rcases hV with ⟨rfl, _⟩ | ⟨cap, rfl, _⟩ <;> exact ⟨_, _, _, rfl⟩
  refine (callsIn_wide (n := 4)).1 ?_
  refine callsIn_of_wp_marks Try.func66 rfl trivial ?_ rfl
  simp only [Try.ntmps66, List.size_toArray, List.length_cons, List.length_nil, Nat.reduceAdd, Nat.reduceSub, Array.replicate_succ, Array.replicate_zero, List.push_toArray, List.append_toArray, List.nil_append, List.cons_append]
  gi_wp2_with (refine ⟨trivial, ?_⟩; gi_at_call 93; refine (chunk_in Fence.wide _ trivial rfl _ _ _ _).mono ?_; rintro e w' ⟨rfl, rfl⟩)
  have bR := Boxed.new w 22 (.slice none 0 0)
  have bE := Boxed.new (w.alloc (.cells #[.slice none 0 0] 22)) 38 (.int .i64 0)
  have bC := Boxed.new ((w.alloc (.cells #[.slice none 0 0] 22)).alloc (.cells #[.int .i64 0] 38)) 22 (.slice none 0 0)
  have bV := Boxed.new (((w.alloc (.cells #[.slice none 0 0] 22)).alloc (.cells #[.int .i64 0] 38)).alloc (.cells #[.slice none 0 0] 22)) 52 (.slice a len cap)
  have bN := Boxed.new ((((w.alloc (.cells #[.slice none 0 0] 22)).alloc (.cells #[.int .i64 0] 38)).alloc (.cells #[.slice none 0 0] 22)).alloc (.cells #[.slice a len cap] 52)) 3 (.int .i64 6)
  simp only [World.size_alloc] at bE bC bV bN
  have hB0 : Below w.heap.size w (((((w.alloc (.cells #[.slice none 0 0] 22)).alloc (.cells #[.int .i64 0] 38)).alloc (.cells #[.slice none 0 0] 22)).alloc (.cells #[.slice a len cap] 52)).alloc (.cells #[.int .i64 6] 3)) :=
    (((((Below.refl _ w).alloc (Nat.le_refl _) _).alloc (by simp) _).alloc (by simp; omega) _).alloc (by simp; omega) _).alloc (by simp; omega) _
  try simp only [World.size_alloc]
  refine wpIn_rangeFunc_ownG (n := 4) rfl (by omega) (gf := 112) (lb := #[.pointer (some ⟨w.heap.size + 1 + 1 + 1, 0, none⟩), .pointer (some ⟨w.heap.size + 1 + 1 + 1 + 1, 0, none⟩)]) rfl trivial (enters_of Try.func112 (by kernel_rfl) rfl)
    (chunk_stops Fence.wide _ trivial rfl (by omega) (w.heap.size + 1 + 1 + 1) (w.heap.size + 1 + 1 + 1 + 1) (.slice a len cap) b off K hK _ (by simp) (by simp) (bV.alloc _).cell bN.cell hV) KpC.trans (KpC.put (by simp) (by simp)) (Below.refl _ _) (fun _ => rfl)
    (DcI w (.slice a len cap) xs K) (DcX w xs K) (dcI_own w _ xs K _ (by simp; omega)) (dcX_own w xs K _ (by simp; omega))
    ⟨⟨⟨⟨_, ((bC.alloc _).alloc _), World.ownsRow_nil _ _ _ _, trivial⟩, ((((bR.alloc _).alloc _).alloc _).alloc _), (((bE.alloc _).alloc _).alloc _), bV.alloc _, bN⟩, by simp⟩, hB0⟩
    (fun x => { tmps := #[.slice a len cap, undef, .pointer (some ⟨w.heap.size, 0, none⟩), .pointer (some ⟨w.heap.size + 1, 0, none⟩), .pointer (some ⟨w.heap.size + 1 + 1, 0, none⟩), chkV b off x.1, undef, undef, .slice a len cap, .func (.func 112) #[] #[.pointer (some ⟨w.heap.size + 1 + 1 + 1, 0, none⟩), .pointer (some ⟨w.heap.size + 1 + 1 + 1 + 1, 0, none⟩)], chkV b off x.1, undef, undef, undef, undef, undef, undef, undef, undef, undef, undef, undef, undef], defers := [] }) ?assign ?body ?done ?stop
  case assign =>
    intro l x W Kq hK
    gi_wp2
    exact hK
  case body =>
    rintro l pre x W ⟨⟨⟨⟨cv, hv, hrow, _⟩, hR, hE, hS3, hS4⟩, hpre⟩, hB⟩ hlt
    have hl6 : (sixB xs x.1).length = 6 := by have := x.2; simp only [sixB, List.length_take, List.length_drop]; omega
    obtain ⟨y, hy⟩ : ∃ y, y = dcX xs x.1 := ⟨_, rfl⟩
    obtain ⟨ec, he⟩ : ∃ ec, ec = dcE xs x.1 := ⟨_, rfl⟩
    have HD : Hid (CallsIn Fence.wide 1 Try.prog 94 #[.slice (some ⟨b, off + 6 * x.1, none⟩) 6 6] W (fun e w' => e = .returned (.tuple #[insV y, .int .i64 ec]) ∧ Below W.heap.size W w')) := Lib.hid (by
      have h := instr_Decode (some ⟨b, off + 6 * x.1, none⟩) (sixB xs x.1) 6 W (by omega) (hat W hB x.1 x.2) (fun y hy => hx y (List.mem_of_mem_drop (List.mem_of_mem_take hy)))
      rw [hl6] at h
      exact callsIn_wide.2 (h.mono fun e w' h => by rw [hy, he]; exact h))
    have HA : Hid (∀ w1, Below W.heap.size W w1 → Below W.heap.size W (w1.alloc (.cells #[.int .i64 y.op, .int .i64 y.a, .int .i64 y.b, .int .i64 y.c, .int .i64 y.imm] 66))) := Lib.hid (fun w1 h => h.alloc h.size _)
    have hm : Hid ((pre ++ [x]).length = pre.length + 1 ∧ (insRows ((pre ++ [x]).map fun x => dcX xs x.1)).flatten = (insRows (pre.map fun x => dcX xs x.1)).flatten ++ [.int .i64 y.op, .int .i64 y.a, .int .i64 y.b, .int .i64 y.c, .int .i64 y.imm]) := Lib.hid ⟨by simp, by rw [List.map_append, insRows_append, hy]; simp [insRows, insRow]⟩
    have hne : Hid (∀ z ∈ pre ++ [x], z ∈ pre ∨ z = x) := Lib.hid (fun z hz => by simpa using hz)
    have he' : Hid (ec = dcE xs x.1) := Lib.hid he
    clear hy he
    generalize (insRows (pre.map fun x => dcX xs x.1)).flatten = rows at *
    have hsz := hS4.lt
    simp only [chkV]
    gi_wp2_with (first
      | (refine ⟨trivial, ?_⟩; gi_at_call 94; refine (CallsIn.inRound l HD.out).mono ?_; rintro e w1 ⟨rfl, hb1⟩; simp only [insV]
         have hb2 := HA.out w1 hb1
         have r2 := Blk.new (W := w1) #[.int .i64 y.op, .int .i64 y.a, .int .i64 y.b, .int .i64 y.c, .int .i64 y.imm] 66
         have c0 := (r2 0 (by simp)).1
         have c1 := (r2 1 (by simp)).1
         have c2 := (r2 2 (by simp)).1
         have c3 := (r2 3 (by simp)).1
         have c4 := (r2 4 (by simp)).1
         have hv2 := hv.kept (grownBy_below hb2 rfl none) (by simp)
         have hR2 := hR.kept (grownBy_below hb2 rfl none) (by simp)
         have hE2 := hE.kept (grownBy_below hb2 rfl none) (by simp)
         have k1 := hv2.cell
         have k2 := hR2.cell
         have k3 := hR2.frozen
         have k4 := hE2.cell
         have k5 := hE2.frozen
         have hrow2 := own_later8 hrow hb2)
      | (gi_at_builtin; refine wpListIn_append_own _ rfl (.tmp 18) (.tmp 20) 22 rfl w.heap.size 66 i0 (.agg #[.int .i64 0, .int .i64 0, .int .i64 0, .int .i64 0, .int .i64 0]) 5 40 Try.underlying22 hi hz0 hz1 hz2 rfl (by decide) cv pre.length rows rfl (hrow2.alloc _) ⟨w1.heap.size + 1, 0, none⟩ 1 1 [.int .i64 y.op, .int .i64 y.a, .int .i64 y.b, .int .i64 y.c, .int .i64 y.imm] rfl rfl ?a1 ?a2 ?a3 ?a4 ?a5 ?_
         case a1 =>
           have h := Blk.new (W := w1.alloc (.cells #[.int .i64 y.op, .int .i64 y.a, .int .i64 y.b, .int .i64 y.c, .int .i64 y.imm] 66)) #[.int .i64 y.op, .int .i64 y.a, .int .i64 y.b, .int .i64 y.c, .int .i64 y.imm] 66
           rw [World.size_alloc] at h
           exact blk_news8 h
         case a2 => intro u hu; simp at hu; rcases hu with rfl | rfl | rfl | rfl | rfl <;> rfl
         case a3 => have : maxLen = 9223372036854775807 := rfl; omega
         case a4 => omega
         case a5 => have h1 := hB.size; have h2 := hb1.size; simp only [World.size_alloc]; omega
         intro v' w3 hown' hgrow _
         obtain ⟨g', cap', rfl⟩ := ownsRow_succ hown'
         obtain ⟨hv3, hv4, hr4, hk4, hb4⟩ := hv2.appended (by decide) hrow2 (Nat.le_trans hB.size hb2.size) (by omega) hown' hgrow
         have hc3 := hv3.cell
         have hf3 := hv3.frozen
         have s3 := ((hS3.kept (grownBy_below hb2 rfl none) (by simp)).alloc (.cells #[.int .i64 y.op, .int .i64 y.a, .int .i64 y.b, .int .i64 y.c, .int .i64 y.imm] 66)).kept hgrow ((hS3.kept (grownBy_below hb2 rfl none) (by simp)).not_row (by decide) hrow2)
         have s4 := ((hS4.kept (grownBy_below hb2 rfl none) (by simp)).alloc (.cells #[.int .i64 y.op, .int .i64 y.a, .int .i64 y.b, .int .i64 y.c, .int .i64 y.imm] 66)).kept hgrow ((hS4.kept (grownBy_below hb2 rfl none) (by simp)).not_row (by decide) hrow2)
         have s1 := ((hR2).alloc (.cells #[.int .i64 y.op, .int .i64 y.a, .int .i64 y.b, .int .i64 y.c, .int .i64 y.imm] 66)).kept hgrow (hR2.not_row (by decide) hrow2)
         have s2 := ((hE2).alloc (.cells #[.int .i64 y.op, .int .i64 y.a, .int .i64 y.b, .int .i64 y.c, .int .i64 y.imm] 66)).kept hgrow (hE2.not_row (by decide) hrow2)
         have HF : Hid _ := Lib.hid (And.intro s1 (And.intro s2 (And.intro s3 (And.intro s4 (And.intro hv4 (And.intro hr4 (And.intro hk4 hb4)))))))
         clear s1 s2 s3 s4 hv4 hr4 hk4 hb4))
    · have h0 : (ec != 0) = true := by assumption
      have h0' : dcE xs x.1 ≠ 0 := by rw [← he'.out]; simpa using h0
      exact ⟨((KeepsOthers.of_grownBy (grownBy_below hb2 rfl none) (fun _ _ e => by cases e)).trans ((KeepsOthers.setCell _ _ _).trans (KeepsOthers.setCell _ _ _))).from _,
        ⟨rfl, ⟨x, by simp, h0'⟩, (hR2.set _).kept (grownBy_setCell' _ _ _) (by simp), (hE2.kept (grownBy_setCell' _ _ _) (by simp)).set _⟩,
        ((hB.trans (hb2.mono hB.size)).setCell (p := ⟨w.heap.size, 0, none⟩) (Nat.le_refl _) _).setCell (p := ⟨w.heap.size + 1, 0, none⟩) (by show w.heap.size ≤ w.heap.size + 1; omega) _⟩
    · have h0 : (ec != 0) = false := by assumption
      have h0' : dcE xs x.1 = 0 := by rw [← he'.out]; simpa using h0
      obtain ⟨s1, s2, s3, s4, hv4, hr4, hk4, hb4⟩ := HF.out
      have t3 := s3.kept (grownBy_setCell' w3 (w.heap.size + 1 + 1) (.slice (some ⟨g', 0, none⟩) (pre.length + 1) cap')) (by simp <;> omega)
      have t4 := s4.kept (grownBy_setCell' w3 (w.heap.size + 1 + 1) (.slice (some ⟨g', 0, none⟩) (pre.length + 1) cap')) (by simp <;> omega)
      refine ⟨((KeepsOthers.of_grownBy (grownBy_below hb2 rfl none) (fun _ _ e => by cases e)).trans hk4).from _, ⟨t3.cell.trans hS3.cell.symm, t4.cell.trans hS4.cell.symm⟩,
        ⟨⟨⟨_, hv4, by rw [hm.out.1, hm.out.2]; exact hr4, trivial⟩, s1.kept (grownBy_setCell' _ _ _) (by simp <;> omega), s2.kept (grownBy_setCell' _ _ _) (by simp <;> omega), t3, t4⟩, fun z hz => (hne.out z hz).elim (hpre z) (fun e => by rw [e]; exact h0')⟩, hB.trans ((hb2.mono hB.size).trans hb4)⟩
  case done =>
    rintro D ys W hD rfl ⟨⟨⟨⟨cv, hv, hrow, _⟩, hR, hE, hS3, hS4⟩, hpre⟩, hB⟩ hK
    rw [chkTo_map, chkTo_len] at hrow
    have k1 := hv.cell
    have k2 := hR.cell
    have k3 := hR.frozen
    have k4 := hE.cell
    have k5 := hE.frozen
    obtain ⟨a9, c9, rfl⟩ := own_form8 hrow
    have hall : ∀ j < K, dcE xs j = 0 := fun j hj => hpre _ (chkTo_mem K K (Nat.le_refl _) j hj)
    gi_wp2
    have hrow1 := own_kept8 (own_kept8 hrow (grownBy_setCell' W w.heap.size (.slice a9 K c9)) (fun b e => by cases e; exact (hR.not_row (by decide) hrow).symm)) (grownBy_setCell' _ (w.heap.size + 1) (.int .i64 0)) (fun b e => by cases e; exact (hE.not_row (by decide) hrow).symm)
    have r1 := (hR.set (.slice a9 K c9)).kept (grownBy_setCell' _ (w.heap.size + 1) (.int .i64 0)) (by simp)
    have r2 := (hE.kept (grownBy_setCell' W w.heap.size (.slice a9 K c9)) (by simp)).set (.int .i64 0)
    have hK' := ((KeepsOthers.setCell W ⟨w.heap.size, 0, none⟩ (.slice a9 K c9)).trans (KeepsOthers.setCell _ ⟨w.heap.size + 1, 0, none⟩ (.int .i64 0))).same D _ hK rfl
    refine ⟨by simp, .inl ⟨_, _, rfl, run_takeDeferred hK', ?_⟩⟩
    have hc5 := cell_kept r1.cell (grownBy_putObj' _ D (.deferred none)) (fun r e => by cases e; exact ⟨_, hK', rfl⟩)
    have hc6 := cell_kept r2.cell (grownBy_putObj' _ D (.deferred none)) (fun r e => by cases e; exact ⟨_, hK', rfl⟩)
    refine ⟨.tuple #[.slice a9 K c9, .int .i64 0], by simp [results, Try.results66, go_sem, hc5, hc6], ((hB.setCell (p := ⟨w.heap.size, 0, none⟩) (Nat.le_refl _) _).setCell (p := ⟨w.heap.size + 1, 0, none⟩) (by show w.heap.size ≤ w.heap.size + 1; omega) _).trans (belowK_b (w := w) (Nat.le_refl _) _ D _ _ (by simp at hD; omega) hK' rfl rfl), .inl ⟨hall, _, rfl, ownsRow_putObj hrow1 (.deferred none) hK' rfl⟩⟩
  case stop =>
    rintro D c pre W hD ⟨k, hk, rfl⟩ ⟨⟨rfl, hex, hr, he⟩, hB⟩ hK
    have k2 := hr.cell
    have k4 := he.cell
    gi_wp2
    refine ⟨by simp, .inl ⟨_, _, rfl, run_takeDeferred hK, ?_⟩⟩
    have hc5 := cell_kept k2 (grownBy_putObj' _ D (.deferred none)) (fun r e => by cases e; exact ⟨_, hK, rfl⟩)
    have hc6 := cell_kept k4 (grownBy_putObj' _ D (.deferred none)) (fun r e => by cases e; exact ⟨_, hK, rfl⟩)
    refine ⟨.tuple #[.slice none 0 0, .int .i64 5], by simp [results, Try.results66, go_sem, hc5, hc6], hB.trans (belowK_b (w := w) (Nat.le_refl _) W D _ _ (by simp at hD; omega) hK rfl rfl), .inr ⟨?_, rfl⟩⟩
    obtain ⟨x, _, h⟩ := hex
    exact ⟨x.1, x.2, h⟩
end Go.Proofs.Ythajndgljfbifaa
namespace Go.Proofs.Ythajndgljfbifaa
open Go.RowKit
set_option maxRecDepth 100000

/-- What lies behind the regions. -/
def dqX (l1 : List Nat) : List Nat := tkT l1.tail (6 * nmV l1)
def dqR (l1 : List Nat) : List Nat := tkL l1.tail (6 * nmV l1)
def dqZ (l1 : List Nat) (s1 : Bool) : Bool := tkS l1.tail (nmS l1 s1) (6 * nmV l1)
def dqC (l1 : List Nat) : List Ins := (List.range (nmV l1)).map (dcX (dqX l1))
def dqE (S : List Nat) (L : List (List Nat)) (l1 : List Nat) (s1 : Bool) : Int :=
  if dqZ l1 s1 = true then 4 else if 0 < (dqR l1).length then 5 else if ∀ j < nmV l1, dcE (dqX l1) j = 0 then chkE (dqC l1) (S.map fun x : Nat => (x : Int)) L else 5

def zeroPg8 : Value := .agg #[.slice none 0 0, .slice none 0 0, .slice none 0 0]

/-- What Decode gives. -/
def GivesDq (S : List Nat) (L : List (List Nat)) (l1 : List Nat) (s1 : Bool) (w : World) (e : Ending) (w' : World) : Prop :=
  Below w.heap.size w w' ∧ ((dqE S L l1 s1 ≠ 0 ∧ e = .returned (.tuple #[zeroPg8, .int .i64 (dqE S L l1 s1)])) ∨
    (dqE S L l1 s1 = 0 ∧ ∃ ac cc a2 c2 ad cd, e = .returned (.tuple #[.agg #[.slice ac (dqC l1).length cc, .slice a2 S.length c2, .slice ad L.length cd], .int .i64 0]) ∧ CodeAt w' ac (dqC l1) ∧ IntsAt .i64 w' a2 (S.map fun x : Nat => (x : Int)) ∧ DatAt w' ad L))

theorem dq_err {S : List Nat} {L : List (List Nat)} {l1 : List Nat} {s1 : Bool} {w w' : World} {v : Int} (hb : Below w.heap.size w w') (hv : dqE S L l1 s1 = v) (h0 : v ≠ 0) : GivesDq S L l1 s1 w (.returned (.tuple #[zeroPg8, .int .i64 v])) w' := ⟨hb, .inl ⟨by rw [hv]; exact h0, by rw [hv]⟩⟩

/-- The three cells of a program's box are set. -/
def put3 (R : Nat) (w : World) (v0 v1 v2 : Value) : World := ((w.setCell ⟨R, 0, none⟩ v0).setCell ⟨R, 1, none⟩ v1).setCell ⟨R, 2, none⟩ v2

theorem grown_put3 (R : Nat) (w : World) (v0 v1 v2 : Value) : w.grownBy (put3 R w v0 v1 v2) (some R) :=
  grownBy_trans (grownBy_trans (grownBy_cell w R 0 v0) (grownBy_cell _ R 1 v1)) (grownBy_cell _ R 2 v2)

theorem below_put3 {w w1 : World} (h : Below w.heap.size w w1) (v0 v1 v2 : Value) : Below w.heap.size w (put3 w.heap.size w1 v0 v1 v2) :=
  h.grown (grown_put3 w.heap.size w1 v0 v1 v2) h.size (fun k hk => by cases hk; omega)

theorem nmV_lt {l : List Nat} (hx : ∀ x ∈ l, x < 256) : nmV l < 256 := headD_lt hx

theorem chkV_of {P : Nat} {W : World} {v : Value} {xs : List Nat} {K : Nat} (hl : xs.length = 6 * K) (h : BytesV P W v xs) :
    ∃ b off, ChkV v b off K ∧ ∀ W', Below W.heap.size W W' → ∀ j < K, NatsAt .u8 W' (some ⟨b, off + 6 * j, none⟩) (sixB xs j) := by
  rcases h with ⟨rfl, rfl⟩ | ⟨b, off, cap, rfl, hc, _, h⟩
  · have hK : K = 0 := by simp at hl; omega
    exact ⟨0, 0, .inl ⟨rfl, hK⟩, fun _ _ j hj => by omega⟩
  · refine ⟨b, off, .inr ⟨cap, by rw [hl], by omega⟩, fun W' hb j hj => .inr ⟨b, off + 6 * j, rfl, fun i hi => ?_⟩⟩
    have hi' : i < 6 ∧ 6 * j + i < xs.length := by simp only [sixB, List.length_take, List.length_drop] at hi; omega
    have e : (sixB xs j)[i] = xs[6 * j + i]'hi'.2 := by simp [sixB, List.getElem_take, List.getElem_drop]
    rw [e, Nat.add_assoc]
    exact cell_later hb (h (6 * j + i) hi'.2)

/-- The own rows of a program that is being read. -/
theorem dq_close {S : List Nat} {L : List (List Nat)} {l1 : List Nat} {s1 : Bool} {w W : World} {P B ac cc a2 c2 ad cd : _} (hE : dqE S L l1 s1 = 0) (hb : Below w.heap.size w W) (hP : w.heap.size ≤ P) (hB : w.heap.size < B) (hS : RgS P S L (.slice a2 S.length c2) (.slice ad L.length cd) W)
    (hC : W.ownsRow B 66 5 (.slice ac (dqC l1).length cc) (dqC l1).length (insRows (dqC l1)).flatten) :
    GivesDq S L l1 s1 w (.returned (.tuple #[.agg #[.slice ac (dqC l1).length cc, .slice a2 S.length c2, .slice ad L.length cd], .int .i64 0])) (put3 w.heap.size W (.slice ac (dqC l1).length cc) (.slice a2 S.length c2) (.slice ad L.length cd)) := by
  have hg := grown_put3 w.heap.size W (.slice ac (dqC l1).length cc) (.slice a2 S.length c2) (.slice ad L.length cd)
  obtain ⟨a2', c2', ad', cd', e1, e2, hi, hd⟩ := (hS.kept hg (fun b hb => by cases hb; exact hP)).at
  obtain ⟨ac', cc', e3, hcd⟩ := code_at8 (own_kept8 hC hg (fun b hb e => by cases hb; have := (hC.lt _ e).1; omega))
  cases e1; cases e2; cases e3
  exact ⟨below_put3 hb _ _ _, .inr ⟨hE, ac, cc, a2, c2, ad, cd, rfl, hcd, hi, hd⟩⟩

theorem rgTo_words : ∀ (n : Nat) (l : List Nat) (sh : Bool), ∀ ws ∈ (rgTo n l sh).2.1, ws.length ≤ l.length
  | 0, _, _, ws, h => by cases h
  | n + 1, l, sh, ws, h => by
    have h' : ws ∈ (rgTo n l sh).2.1 ++ [rgW (rgTo n l sh).2.2.1] := h
    rcases List.mem_append.1 h' with h | h
    · exact rgTo_words n l sh ws h
    · rw [List.mem_singleton] at h
      subst h
      have h1 := (rgTo_len n l sh).2.2
      have h2 := tkT_len (rgTo n l sh).2.2.1.tail.tail (2 * nmV (rgTo n l sh).2.2.1.tail)
      unfold rgW wdV
      rw [length_wordsOf]
      rw [List.length_tail, List.length_tail] at h2
      omega

set_option maxHeartbeats 4000000 in
theorem program_Decode0 (v : Value) (xs : List Nat) (w : World) (h : BytesV w.heap.size w v xs) (hl : xs.length ≤ 1000000) (hx : ∀ x ∈ xs, x < 256) :
    Calls Try.prog 23 #[v] w (GivesDq (rgTo (nmV xs) xs.tail (nmS xs false)).1 (rgTo (nmV xs) xs.tail (nmS xs false)).2.1 (rgTo (nmV xs) xs.tail (nmS xs false)).2.2.1 (rgTo (nmV xs) xs.tail (nmS xs false)).2.2.2 w) := by
  obtain ⟨a, cap, rfl, hcap, hn⟩ := h.form
  have A1 := Below.alloc (Below.refl w.heap.size w) (Nat.le_refl _) (.cells #[.slice none 0 0, .slice none 0 0, .slice none 0 0] 26)
  have e1 : (w.alloc (.cells #[.slice none 0 0, .slice none 0 0, .slice none 0 0] 26)).heap.size = w.heap.size + 1 := by simp
  have bR := Blk.new (W := w) #[.slice none 0 0, .slice none 0 0, .slice none 0 0] 26
  have bP := Blk.new (W := w.alloc (.cells #[.slice none 0 0, .slice none 0 0, .slice none 0 0] 26)) #[.slice a xs.length cap, .bool false] 108
  have A2 := A1.alloc (by rw [e1]; omega) (.cells #[.slice a xs.length cap, .bool false] 108)
  rw [e1] at bP
  have bR1 := bR.later (Below.alloc (Below.refl _ _) (Nat.le_refl _) (.cells #[.slice a xs.length cap, .bool false] 108))
  have e2 : ((w.alloc (.cells #[.slice none 0 0, .slice none 0 0, .slice none 0 0] 26)).alloc (.cells #[.slice a xs.length cap, .bool false] 108)).heap.size = w.heap.size + 1 + 1 := by simp
  have hR0 : RdB (w.heap.size + 1) xs false ((w.alloc (.cells #[.slice none 0 0, .slice none 0 0, .slice none 0 0] 26)).alloc (.cells #[.slice a xs.length cap, .bool false] 108)) := ⟨_, bP, by
    have hk := h.kept (grownBy_below A2 rfl none) (fun b hb => by cases hb)
    rcases hk with hk | ⟨b, off, cp, e, hc, hb, hh⟩
    · exact .inl hk
    · exact .inr ⟨b, off, cp, e, hc, by omega, hh⟩⟩
  have hlen := (rgTo_len (nmV xs) xs.tail (nmS xs false)).2.2
  have hmem := rgTo_mem (nmV xs) xs.tail (nmS xs false)
  have hsho := rgTo_short (nmV xs) xs.tail (nmS xs false) (nm_short xs false (fun e => by cases e))
  clear A1 e1 bR bP h hn
  go_enter Try.func23, Try.ntmps23
  go_upto_region 2 with fail
  generalize (w.alloc (.cells #[.slice none 0 0, .slice none 0 0, .slice none 0 0] 26)).alloc (.cells #[.slice a xs.length cap, .bool false] 108) = W0 at *
  have HG := Lib.hid (reader_regions (w.heap.size + 1) xs false W0 hR0 hl (fun e => by cases e) hx)
  have hx0 : ∀ x ∈ (rgTo (nmV xs) xs.tail (nmS xs false)).2.2.1, x < 256 := fun x hm => hx x (List.mem_of_mem_tail (hmem x hm))
  have hl0 : (rgTo (nmV xs) xs.tail (nmS xs false)).2.2.1.length ≤ 1000000 := by rw [List.length_tail] at hlen; omega
  have HLen := Lib.hid (rgTo_len (nmV xs) xs.tail (nmS xs false))
  have HNx := Lib.hid (nmV_lt hx)
  have HXL := Lib.hid hl
  clear hx hl hR0 hmem hlen
  go_upto_region 3 with (go_at_call 63; (with_reducible refine HG.out.mono ?_); rintro e w1 ⟨vs, vd, rfl, hK⟩)
  obtain ⟨hS, hR1, hg1⟩ := hK
  rw [show W0.heap.size - 1 = w.heap.size + 1 by omega] at hS
  have hbr1 := bR1.kept hg1 (by simp)
  have hB1 := A2.grown hg1 A2.size (fun k hk => by cases hk; omega)
  have HLS : Hid ((rgTo (nmV xs) xs.tail (nmS xs false)).1.length ≤ 1000000 ∧ (rgTo (nmV xs) xs.tail (nmS xs false)).2.1.length ≤ 1000000) := Lib.hid (by have := HLen.out; have := HNx.out; omega)
  have HLW : Hid (∀ l ∈ (rgTo (nmV xs) xs.tail (nmS xs false)).2.1, l.length ≤ 1000000) := Lib.hid (fun ws hm => by have := rgTo_words _ _ _ ws hm; rw [List.length_tail] at this; have := HXL.out; omega)
  clear HXL HLen HNx HG bR1 hg1 hcap
  generalize (rgTo (nmV xs) xs.tail (nmS xs false)).1 = S at *
  generalize (rgTo (nmV xs) xs.tail (nmS xs false)).2.1 = L at *
  generalize (rgTo (nmV xs) xs.tail (nmS xs false)).2.2.1 = l1 at *
  generalize (rgTo (nmV xs) xs.tail (nmS xs false)).2.2.2 = s1 at *
  obtain ⟨a2, c2, ad, cd, rfl, rfl, _, _⟩ := hS.at
  have hn1 := nmV_lt hx0
  have hxt : ∀ x ∈ l1.tail, x < 256 := fun x hm => hx0 x (List.mem_of_mem_tail hm)
  have HN := Lib.hid (reader_number (w.heap.size + 1) l1 s1 w1 hR1 hl0 hsho hx0)
  have hlt : l1.tail.length ≤ 1000000 := by rw [List.length_tail]; omega
  have HT : Hid (∀ W, RdB (w.heap.size + 1) l1.tail (nmS l1 s1) W → Calls Try.prog 64 #[.pointer (some ⟨w.heap.size + 1, 0, none⟩), .int .i64 (6 * (nmV l1 : Int))] W (GivesTake (w.heap.size + 1) l1.tail (nmS l1 s1) (6 * nmV l1) W)) := Lib.hid (fun W hR => by
    have h := reader_take (w.heap.size + 1) l1.tail (nmS l1 s1) (6 * nmV l1) W hR hlt (by omega)
    rwa [show ((6 * nmV l1 : Nat) : Int) = 6 * (nmV l1 : Int) by omega] at h)
  have i1 : IntKind.i64.wrap (6 * (nmV l1 : Int)) = 6 * (nmV l1 : Int) := IntWalk.i64_in _ (by omega)
  go_upto_region 4 with (first
    | (go_at_call 65; (with_reducible refine HN.out.mono ?_); rintro e w2 ⟨rfl, hR2, hg2⟩)
    | (go_at_call 64; (with_reducible refine (HT.out _ hR2).mono ?_); rintro e w3 ⟨v3, rfl, hV3, hR3, hg3⟩))
  have hbr3 := (hbr1.kept hg2 (by simp)).kept hg3 (by simp)
  have hB3 := (hB1.grown hg2 hB1.size (fun k hk => by cases hk; omega)).grown hg3 (Nat.le_trans hB1.size hg2.size) (fun k hk => by cases hk; omega)
  have hS3 := (hS.kept hg2 (fun b hb => by cases hb; omega)).kept hg3 (fun b hb => by cases hb; omega)
  have hV3' : BytesV (w.heap.size + 1) w3 v3 (dqX l1) := hV3
  have hR3' : RdB (w.heap.size + 1) (dqR l1) (dqZ l1 s1) w3 := hR3
  have hZl : dqZ l1 s1 = false → (dqX l1).length = 6 * nmV l1 := by
    unfold dqZ dqX tkS tkT
    split
    · intro _; rw [List.length_take]; omega
    · intro e; cases e
  have hxX : ∀ x ∈ dqX l1, x < 256 := fun x hm => hxt x (tkT_mem _ _ x hm)
  have hlC : (dqC l1).length = nmV l1 := by simp [dqC]
  have hs3 : w.heap.size + 1 < w3.heap.size := rd_lt hR3
  obtain ⟨vl, hBk, hBv⟩ := hR3'
  obtain ⟨al, cl, rfl, _, _⟩ := hBv.form
  have p0 := (hBk 0 (by simp)).1
  have p1 := (hBk 1 (by simp)).1
  clear hBk hBv hR3 hV3 hR2 hR1 hg2 hg3 hS hB1 hbr1 HT HN i1 A2 hsho hxt hlt hl0 hx0
  cases hz : dqZ l1 s1 with
  | true =>
    have HE : Hid (dqE S L l1 s1 = 4) := Lib.hid (if_pos hz)
    rw [hz] at p1
    have r0 := (hbr3 0 (by simp)).1
    have k0 := (hbr3 0 (by simp)).2
    have r1 := (hbr3 1 (by simp)).1
    have k1 := (hbr3 1 (by simp)).2
    have r2 := (hbr3 2 (by simp)).1
    have k2 := (hbr3 2 (by simp)).2
    have HF := Lib.hid (below_put3 hB3 (.slice none 0 0) (.slice none 0 0) (.slice none 0 0))
    clear hB3 hbr3 hS3 hV3'
    go_wp2_with fail
    refine bodyPost_ret (v := .tuple #[zeroPg8, .int .i64 4]) (by simp [results, Try.results23, go_sem, zeroPg8, r0, r1, r2]) rfl (dq_err HF.out HE.out (by decide))
  | false =>
  rw [hz] at p1
  have hl6 := hZl hz
  by_cases hr : 0 < (dqR l1).length
  · have HE : Hid (dqE S L l1 s1 = 5) := Lib.hid (by unfold dqE; rw [if_neg (by rw [hz]; simp), if_pos hr])
    have hri : (0 : Int) < ((dqR l1).length : Int) := by omega
    have r0 := (hbr3 0 (by simp)).1
    have k0 := (hbr3 0 (by simp)).2
    have r1 := (hbr3 1 (by simp)).1
    have k1 := (hbr3 1 (by simp)).2
    have r2 := (hbr3 2 (by simp)).1
    have k2 := (hbr3 2 (by simp)).2
    have HF := Lib.hid (below_put3 hB3 (.slice none 0 0) (.slice none 0 0) (.slice none 0 0))
    clear hB3 hbr3 hS3 hV3' hr
    go_wp2_with fail
    refine bodyPost_ret (v := .tuple #[zeroPg8, .int .i64 5]) (by simp [results, Try.results23, go_sem, zeroPg8, r0, r1, r2]) rfl (dq_err HF.out HE.out (by decide))
  · have hri : ¬ (0 : Int) < ((dqR l1).length : Int) := by omega
    have HE5 : Hid ((∃ j < nmV l1, dcE (dqX l1) j ≠ 0) → dqE S L l1 s1 = 5) := Lib.hid (fun ⟨j, hj, h⟩ => by unfold dqE; rw [if_neg (by rw [hz]; simp), if_neg hr, if_neg (fun hh => h (hh j hj))])
    have HE0 : Hid ((∀ j < nmV l1, dcE (dqX l1) j = 0) → dqE S L l1 s1 = chkE (dqC l1) (S.map fun x : Nat => (x : Int)) L) := Lib.hid (fun h => by unfold dqE; rw [if_neg (by rw [hz]; simp), if_neg hr, if_pos h])
    obtain ⟨b, off, hCV, hat⟩ := chkV_of hl6 hV3'
    have HD := Lib.hid (program_decodeCode v3 b off (dqX l1) (nmV l1) w3 (by omega) hl6 hCV hat hxX)
    clear hV3' hxX hl6 hZl hCV hat hr
    go_upto_region 9 with (go_at_call 66; (with_reducible refine HD.out.mono ?_); rintro e w4 ⟨hb4, ⟨hall, v4, rfl, hown⟩ | ⟨hex, rfl⟩⟩)
    · -- decoded
      have hE0 := HE0.out hall
      have hbr4 := hbr3.later hb4
      have hB4 := hB3.trans (hb4.mono hB3.size)
      have hS4 := hS3.kept (grownBy_below hb4 rfl none) (fun b hb => by cases hb)
      have hown : w4.ownsRow w3.heap.size 66 5 v4 (dqC l1).length (insRows (dqC l1)).flatten := by rw [hlC]; exact hown
      obtain ⟨ac, cc, rfl, hcd⟩ := code_at8 (C := dqC l1) hown
      obtain ⟨a2', c2', ad', cd', e1, e2', hi, hd⟩ := hS4.at
      cases e1; cases e2'
      have hA := Below.alloc (Below.refl w4.heap.size w4) (Nat.le_refl _) (.cells #[.slice ac (dqC l1).length cc, .slice a2 S.length c2, .slice ad L.length cd] 26)
      have bQ := Blk.new (W := w4) #[.slice ac (dqC l1).length cc, .slice a2 S.length c2, .slice ad L.length cd] 26
      have HCk := Lib.hid (program_Check ac a2 ad (dqC l1) (S.map fun x : Nat => (x : Int)) L cc c2 cd _ (hcd.later hA) (ints_later7 hi hA) (hd.later hA) (by omega) (by rw [List.length_map]; exact HLS.out.1) HLS.out.2 HLW.out)
      simp only [List.length_map] at HCk
      have q0 := (bQ 0 (by simp)).1
      have q1 := (bQ 1 (by simp)).1
      have q2 := (bQ 2 (by simp)).1
      have hbr5 := hbr4.later hA
      have hB5 := hB4.trans (hA.mono hB4.size)
      have hS5 := hS4.kept (grownBy_below hA rfl none) (fun b hb => by cases hb)
      have hown5 := own_later8 hown hA
      clear hbr3 hB3 hS3 hbr4 hB4 hS4 hown hcd hi hd hb4 hA HE5 HE0 HD hall hlC
      generalize hk0 : chkE (dqC l1) (S.map fun x : Nat => (x : Int)) L = k0 at *
      have HE : Hid (dqE S L l1 s1 = k0) := Lib.hid hE0
      clear hk0 hE0
      by_cases hk : k0 = 0
      · subst hk
        have HB := Lib.hid hB5
        have HR := Lib.hid hbr5
        have HS5 := Lib.hid hS5
        have HO5 := Lib.hid hown5
        have HB3 : Hid (w.heap.size < w3.heap.size) := Lib.hid (by omega)
        clear hB5 hbr5 hS5 hown5
        go_upto_region 15 with (go_at_call 15; (with_reducible refine HCk.out.mono ?_); rintro e w6 ⟨rfl, hb6⟩; have hbr6 := HR.out.later hb6; have bQ6 := bQ.later hb6; have HZ := Lib.hid (dq_close (s1 := s1) HE.out (HB.out.trans (hb6.mono HB.out.size)) (Nat.le_succ _) HB3.out (HS5.out.kept (grownBy_below hb6 rfl none) (fun b hb => by cases hb)) (own_later8 HO5.out hb6)))
        have q6 : w6.cell? ⟨w4.heap.size, 0, none⟩ = some (.slice ac (dqC l1).length cc) := (bQ6 0 (by simp)).1
        have q7 : w6.cell? ⟨w4.heap.size, 1, none⟩ = some (.slice a2 S.length c2) := (bQ6 1 (by simp)).1
        have q8 : w6.cell? ⟨w4.heap.size, 2, none⟩ = some (.slice ad L.length cd) := (bQ6 2 (by simp)).1
        have r0 := (hbr6 0 (by simp)).1
        have j0 := (hbr6 0 (by simp)).2
        have r1 := (hbr6 1 (by simp)).1
        have j1 := (hbr6 1 (by simp)).2
        have r2 := (hbr6 2 (by simp)).1
        have j2 := (hbr6 2 (by simp)).2
        clear hbr6 bQ6 q0 q1 q2 bQ
        go_wp2_with fail
        refine bodyPost_ret (v := .tuple #[.agg #[.slice ac (dqC l1).length cc, .slice a2 S.length c2, .slice ad L.length cd], .int .i64 0]) (by simp [results, Try.results23, go_sem, r0, r1, r2]) rfl (by exact HZ.out)
      · have hne : (k0 != 0) = true := by rw [bne_iff_ne]; exact hk
        have HB := Lib.hid hB5
        have HR := Lib.hid hbr5
        clear hB5 hbr5 hS5 hown5
        go_upto_region 14 with (go_at_call 15; (with_reducible refine HCk.out.mono ?_); rintro e w6 ⟨rfl, hb6⟩; have hbr6 := HR.out.later hb6; have HF := Lib.hid (below_put3 (HB.out.trans (hb6.mono HB.out.size)) (.slice none 0 0) (.slice none 0 0) (.slice none 0 0)))
        have r0 := (hbr6 0 (by simp)).1
        have j0 := (hbr6 0 (by simp)).2
        have r1 := (hbr6 1 (by simp)).1
        have j1 := (hbr6 1 (by simp)).2
        have r2 := (hbr6 2 (by simp)).1
        have j2 := (hbr6 2 (by simp)).2
        clear hbr6
        go_wp2_with fail
        refine bodyPost_ret (v := .tuple #[zeroPg8, .int .i64 k0]) (by simp [results, Try.results23, go_sem, zeroPg8, r0, r1, r2]) rfl (dq_err HF.out HE.out hk)
    · have HE : Hid (dqE S L l1 s1 = 5) := Lib.hid (HE5.out hex)
      have hbr4 := hbr3.later hb4
      have r0 := (hbr4 0 (by simp)).1
      have k0 := (hbr4 0 (by simp)).2
      have r1 := (hbr4 1 (by simp)).1
      have k1 := (hbr4 1 (by simp)).2
      have r2 := (hbr4 2 (by simp)).1
      have k2 := (hbr4 2 (by simp)).2
      have HF := Lib.hid (below_put3 (hB3.trans (hb4.mono hB3.size)) (.slice none 0 0) (.slice none 0 0) (.slice none 0 0))
      clear hB3 hbr3 hbr4 hS3 hex HE5 HE0 HD
      go_wp2_with fail
      refine bodyPost_ret (v := .tuple #[zeroPg8, .int .i64 5]) (by simp [results, Try.results23, go_sem, zeroPg8, r0, r1, r2]) rfl (dq_err HF.out HE.out (by decide))
end Go.Proofs.Ythajndgljfbifaa
namespace Go.Proofs.Ythajndgljfbifaa
open Go.RowKit
set_option maxRecDepth 100000

theorem regB_drop : ∀ (s : List Int) (L : List (List Nat)) (k : Nat) (h : k < s.length) (h2 : k < L.length), regB (s.drop k) (L.drop k) = s[k].toNat :: L[k].length :: (bytesOf L[k] ++ regB (s.drop (k + 1)) (L.drop (k + 1)))
  | [], _, _, h, _ => by simp at h
  | _ :: _, [], _, _, h => by simp at h
  | n :: s, l :: L, 0, _, _ => rfl
  | n :: s, l :: L, k + 1, h, h2 => regB_drop s L k (by simpa using h) (by simpa using h2)

theorem tk_app (a b : List Nat) (n : Nat) (h : a.length = n) : tkT (a ++ b) n = a ∧ tkL (a ++ b) n = b ∧ ∀ sh, tkS (a ++ b) sh n = sh := by
  have h1 : n ≤ (a ++ b).length := by rw [List.length_append]; omega
  subst h
  refine ⟨?_, ?_, fun sh => ?_⟩
  · rw [tkT, if_pos h1, List.take_left]
  · rw [tkL, if_pos h1, List.drop_left]
  · rw [tkS, if_pos h1]

theorem rgTo_enc (s : List Int) (L : List (List Nat)) (R : List Nat) (hl : L.length = s.length) : ∀ k, k ≤ s.length → rgTo k (regB s L ++ R) false = ((s.take k).map Int.toNat, L.take k, regB (s.drop k) (L.drop k) ++ R, false)
  | 0, _ => rfl
  | k + 1, h => by
    have ih := rgTo_enc s L R hl k (by omega)
    have hd := regB_drop s L k (by omega) (by omega)
    obtain ⟨t1, t2, t3⟩ := tk_app (bytesOf L[k]) (regB (s.drop (k + 1)) (L.drop (k + 1)) ++ R) (2 * L[k].length) (length_bytesOf _)
    have e : rgTo (k + 1) (regB s L ++ R) false = ((rgTo k (regB s L ++ R) false).1 ++ [nmV (rgTo k (regB s L ++ R) false).2.2.1], (rgTo k (regB s L ++ R) false).2.1 ++ [rgW (rgTo k (regB s L ++ R) false).2.2.1], rgL (rgTo k (regB s L ++ R) false).2.2.1, rgS (rgTo k (regB s L ++ R) false).2.2.1 (rgTo k (regB s L ++ R) false).2.2.2) := rfl
    rw [e, ih]
    have hd2 : regB (s.drop k) (L.drop k) ++ R = s[k].toNat :: L[k].length :: (bytesOf L[k] ++ (regB (s.drop (k + 1)) (L.drop (k + 1)) ++ R)) := by
      rw [hd]; simp
    simp only
    rw [hd2]
    have w1 : rgW (s[k].toNat :: L[k].length :: (bytesOf L[k] ++ (regB (s.drop (k + 1)) (L.drop (k + 1)) ++ R))) = L[k] := by
      show wordsOf (tkT (bytesOf L[k] ++ _) (2 * L[k].length)) = _
      rw [t1, words_bytes]
    have w2 : rgL (s[k].toNat :: L[k].length :: (bytesOf L[k] ++ (regB (s.drop (k + 1)) (L.drop (k + 1)) ++ R))) = regB (s.drop (k + 1)) (L.drop (k + 1)) ++ R := t2
    have w3 : rgS (s[k].toNat :: L[k].length :: (bytesOf L[k] ++ (regB (s.drop (k + 1)) (L.drop (k + 1)) ++ R))) false = false := t3 false
    rw [w1, w2, w3]
    have a1 : (s.take (k + 1)).map Int.toNat = (s.take k).map Int.toNat ++ [s[k].toNat] := by rw [List.take_succ_eq_append_getElem (by omega), List.map_append]; rfl
    have a2 : L.take (k + 1) = L.take k ++ [L[k]] := List.take_succ_eq_append_getElem (by omega)
    rw [a1, a2]
    rfl

theorem six_flat : ∀ (C : List Ins) (j : Nat) (h : j < C.length), sixB (C.flatMap encB) j = encB C[j]
  | [], _, h => by simp at h
  | x :: C, 0, _ => by
    rw [sixB, List.flatMap_cons]
    exact List.take_left (l₁ := encB x)
  | x :: C, j + 1, h => by
    have ih := six_flat C j (by simpa using h)
    rw [sixB] at ih ⊢
    rw [List.flatMap_cons, List.drop_append, List.drop_of_length_le (by show 6 ≤ 6 * (j + 1); omega), show 6 * (j + 1) - (encB x).length = 6 * j by show 6 * (j + 1) - 6 = 6 * j; omega]
    simpa using ih

/-- The bytes of a program that is accepted, read again. -/
theorem dq_enc {C : List Ins} {s : List Int} {L : List (List Nat)} (hg : GoodPg C s L) :
    rgTo (nmV (encP C s L)) (encP C s L).tail (nmS (encP C s L) false) = (s.map Int.toNat, L, C.length :: C.flatMap encB, false) ∧ dqC (C.length :: C.flatMap encB) = C ∧ dqE (s.map Int.toNat) L (C.length :: C.flatMap encB) false = 0 ∧ ((s.map Int.toNat).map fun x : Nat => (x : Int)) = s := by
  obtain ⟨l64, s1, s4, hln, hsz, hdl⟩ := good_lens hg
  have h1 : rgTo (nmV (encP C s L)) (encP C s L).tail (nmS (encP C s L) false) = (s.map Int.toNat, L, C.length :: C.flatMap encB, false) := by
    have h := rgTo_enc s L (C.length :: C.flatMap encB) hln s.length (Nat.le_refl _)
    rw [List.take_length, ← hln, List.take_length, List.drop_length, hln, List.drop_length] at h
    exact h
  have hF := flat_enc_length C
  have hX : dqX (C.length :: C.flatMap encB) = C.flatMap encB := by
    show tkT (C.flatMap encB) (6 * C.length) = _
    rw [tkT, if_pos (by omega), List.take_of_length_le (by omega)]
  have hR : dqR (C.length :: C.flatMap encB) = [] := by
    show tkL (C.flatMap encB) (6 * C.length) = _
    rw [tkL, if_pos (by omega), List.drop_of_length_le (by omega)]
  have hZ : dqZ (C.length :: C.flatMap encB) false = false := by
    show tkS (C.flatMap encB) _ (6 * C.length) = _
    rw [tkS, if_pos (by omega)]
    rfl
  have hd : ∀ j (h : j < C.length), dcX (C.flatMap encB) j = C[j] ∧ dcE (C.flatMap encB) j = 0 := fun j h => by
    have := dec_enc C[j] (hg.2.2.2.2.2 j h).1
    rw [← six_flat C j h] at this
    exact this
  have hC : dqC (C.length :: C.flatMap encB) = C := by
    show (List.range C.length).map (dcX (dqX (C.length :: C.flatMap encB))) = C
    rw [hX]
    apply List.ext_getElem
    · simp
    · intro i h1 h2
      rw [List.getElem_map, List.getElem_range]
      exact (hd i h2).1
  have hs : ((s.map Int.toNat).map fun x : Nat => (x : Int)) = s := by
    apply List.ext_getElem
    · simp
    · intro i h1 h2
      have := hsz i h2
      simp only [List.getElem_map]
      omega
  refine ⟨h1, hC, ?_, hs⟩
  rw [dqE, hZ, if_neg (by simp), hR, if_neg (by simp), if_pos (fun j hj => by rw [hX]; exact (hd j hj).2), hC, hs]
  exact chk_good.2 hg

theorem encP_lt {C : List Ins} {s : List Int} {L : List (List Nat)} (hg : GoodU C s L) : ∀ x ∈ encP C s L, x < 256 := by
  obtain ⟨l64, s1, s4, hln, hsz, hdl⟩ := good_lens hg.1
  have hr : ∀ (s : List Int) (L : List (List Nat)), (∀ n ∈ s, n.toNat < 256) → (∀ l ∈ L, l.length < 256 ∧ ∀ v ∈ l, v < 65536) → ∀ x ∈ regB s L, x < 256 := by
    intro s
    induction s with
    | nil => intro L _ _ x hx; simp [regB] at hx
    | cons n s ih =>
      intro L h1 h2 x hx
      cases L with
      | nil => simp [regB] at hx
      | cons l L =>
        simp only [regB, List.mem_cons, List.mem_append] at hx
        rcases hx with rfl | rfl | hx | hx
        · exact h1 n (by simp)
        · exact (h2 l (by simp)).1
        · exact bytesOf_lt l (h2 l (by simp)).2 x hx
        · exact ih L (fun n hn => h1 n (by simp [hn])) (fun l hl => h2 l (by simp [hl])) x hx
  intro x hx
  simp only [encP, List.mem_cons, List.mem_append, List.mem_flatMap] at hx
  rcases hx with rfl | hx | rfl | ⟨y, hy, hx⟩
  · omega
  · refine hr s L (fun n hn => ?_) (fun l hl => ?_) x hx
    · obtain ⟨i, hi, rfl⟩ := List.mem_iff_getElem.1 hn
      have := hsz i hi
      omega
    · obtain ⟨i, hi, rfl⟩ := List.mem_iff_getElem.1 hl
      have := hdl i hi
      exact ⟨by omega, hg.2 _ (List.getElem_mem _)⟩
  · omega
  · obtain ⟨i, hi, rfl⟩ := List.mem_iff_getElem.1 hy
    exact encB_lt _ (hg.1.2.2.2.2.2 i hi).1 x hx

theorem encP_len {C : List Ins} {s : List Int} {L : List (List Nat)} (hg : GoodPg C s L) : 1 ≤ (encP C s L).length ∧ (encP C s L).length ≤ 1000000 := by
  obtain ⟨l64, s1, s4, hln, hsz, hdl⟩ := good_lens hg
  have h1 := regB_length s L 32 (fun l hl => by obtain ⟨i, hi, rfl⟩ := List.mem_iff_getElem.1 hl; exact hdl i hi)
  have h2 := flat_enc_length C
  simp only [encP, List.length_cons, List.length_append]
  omega

/-- What Decode gives for the bytes of a program that is accepted. -/
theorem program_DecodeEnc (a : Option Addr) (cap : Nat) (C : List Ins) (s : List Int) (L : List (List Nat)) (w : World) (hg : GoodU C s L) (hc : (encP C s L).length ≤ cap) (ha : NatsAt .u8 w a (encP C s L)) :
    Calls Try.prog 23 #[.slice a (encP C s L).length cap] w fun e w' => Below w.heap.size w w' ∧ ∃ ac cc a2 c2 ad cd, e = .returned (.tuple #[.agg #[.slice ac C.length cc, .slice a2 s.length c2, .slice ad L.length cd], .int .i64 0]) ∧ PgAt w' ac a2 ad C s L := by
  obtain ⟨l1, l2⟩ := encP_len hg.1
  obtain ⟨b, off, rfl, hcell⟩ := ha.some (j := 0) l1
  have hb : b < w.heap.size := World.block_lt_of_cell? _ _ (hcell 0 l1)
  have h := program_Decode0 _ (encP C s L) w (.inr ⟨b, off, cap, rfl, hc, hb, hcell⟩) l2 (encP_lt hg)
  obtain ⟨e1, e2, e3, e4⟩ := dq_enc hg.1
  rw [e1] at h
  refine h.mono ?_
  rintro e w' ⟨hB, ⟨h0, _⟩ | ⟨_, ac, cc, a2, c2, ad, cd, rfl, hcd, hi, hd⟩⟩
  · exact absurd e3 h0
  · simp only at hcd hi hd
    rw [e2] at hcd
    rw [e4] at hi
    refine ⟨hB, ac, cc, a2, c2, ad, cd, ?_, hcd, hi, hd⟩
    simp only [e2, List.length_map]
end Go.Proofs.Ythajndgljfbifaa
