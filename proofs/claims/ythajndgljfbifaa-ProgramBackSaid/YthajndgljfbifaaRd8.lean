/-
  The program's reader of bytes: take, number, words.
-/
import Derived.Test.YthajndgljfbifaaEnc8
namespace Go.Proofs.Ythajndgljfbifaa
open Go.RowKit
set_option maxRecDepth 100000

/-- A slice of bytes in a block below P. -/
def BytesV (P : Nat) (w : World) (v : Value) (l : List Nat) : Prop :=
  (v = .slice none 0 0 ∧ l = []) ∨ ∃ b off cap, v = .slice (some ⟨b, off, none⟩) l.length cap ∧ l.length ≤ cap ∧ b < P ∧ ∀ i (h : i < l.length), w.cell? ⟨b, off + i, none⟩ = some (.int .u8 (l[i] : Int))

theorem BytesV.kept {P : Nat} {w w' : World} {v : Value} {l : List Nat} {r : Option Nat} (h : BytesV P w v l) (hg : w.grownBy w' r) (hr : ∀ b, r = some b → P ≤ b) : BytesV P w' v l := by
  rcases h with h | ⟨b, off, cap, hv, hc, hb, h⟩
  · exact .inl h
  · exact .inr ⟨b, off, cap, hv, hc, hb, fun i hi => hg.cell (h i hi) (fun e => by have := hr b e.symm; omega)⟩

theorem BytesV.form {P : Nat} {w : World} {v : Value} {l : List Nat} (h : BytesV P w v l) : ∃ a cap, v = .slice a l.length cap ∧ l.length ≤ cap ∧ NatsAt .u8 w a l := by
  rcases h with ⟨rfl, rfl⟩ | ⟨b, off, cap, hv, hc, _, h⟩
  · exact ⟨none, 0, rfl, Nat.le_refl _, .inl rfl⟩
  · exact ⟨_, cap, hv, hc, .inr ⟨b, off, rfl, h⟩⟩

theorem BytesV.take {P : Nat} {w : World} {b off cap : Nat} {l : List Nat} {n : Nat} (hn : n ≤ l.length) (hc : l.length ≤ cap) (hb : b < P) (h : ∀ i (h : i < l.length), w.cell? ⟨b, off + i, none⟩ = some (.int .u8 (l[i] : Int))) : BytesV P w (.slice (some ⟨b, off, none⟩) n cap) (l.take n) := by
  have e : (l.take n).length = n := by rw [List.length_take]; omega
  refine .inr ⟨b, off, cap, by rw [e], by omega, hb, fun i hi => ?_⟩
  rw [List.getElem_take]
  exact h i (by omega)

theorem BytesV.drop {P : Nat} {w : World} {b off cap : Nat} {l : List Nat} {n : Nat} (hn : n ≤ l.length) (hc : l.length ≤ cap) (hb : b < P) (h : ∀ i (h : i < l.length), w.cell? ⟨b, off + i, none⟩ = some (.int .u8 (l[i] : Int))) : BytesV P w (.slice (some ⟨b, off + n, none⟩) (l.length - n) (cap - n)) (l.drop n) := by
  have e : (l.drop n).length = l.length - n := List.length_drop
  refine .inr ⟨b, off + n, cap - n, by rw [e], by omega, hb, fun i hi => ?_⟩
  rw [List.getElem_drop, Nat.add_assoc]
  exact h (n + i) (by omega)

/-- What is taken, what is left, whether the bytes have ended. -/
def tkT (l : List Nat) (n : Nat) : List Nat := if n ≤ l.length then l.take n else []
def tkL (l : List Nat) (n : Nat) : List Nat := if n ≤ l.length then l.drop n else []
def tkS (l : List Nat) (sh : Bool) (n : Nat) : Bool := if n ≤ l.length then sh else true

/-- A reader in its block. -/
def RdB (P : Nat) (l : List Nat) (sh : Bool) (w : World) : Prop := ∃ v, Blk w P [v, .bool sh] ∧ BytesV P w v l

theorem RdB.later {P : Nat} {l : List Nat} {sh : Bool} {w w' : World} (h : RdB P l sh w) (hb : Below w.heap.size w w') : RdB P l sh w' := by
  obtain ⟨v, h1, h2⟩ := h
  exact ⟨v, h1.later hb, h2.kept (grownBy_below hb rfl none) (fun b hb => by cases hb)⟩

theorem RdB.grown {P : Nat} {l : List Nat} {sh : Bool} {w w' : World} {r : Option Nat} (h : RdB P l sh w) (hg : w.grownBy w' r) (hr : ∀ b, r = some b → P < b) : RdB P l sh w' := by
  obtain ⟨v, h1, h2⟩ := h
  exact ⟨v, h1.kept hg (fun e => by have := hr P e.symm; omega), h2.kept hg (fun b hb => by have := hr b hb; omega)⟩

/-- The call takes n bytes. -/
def GivesTake (P : Nat) (l : List Nat) (sh : Bool) (n : Nat) (w : World) (e : Ending) (w' : World) : Prop :=
  ∃ v, e = .returned v ∧ BytesV P w' v (tkT l n) ∧ RdB P (tkL l n) (tkS l sh n) w' ∧ w.grownBy w' (some P)

set_option maxHeartbeats 1000000 in
theorem reader_take (P : Nat) (l : List Nat) (sh : Bool) (n : Nat) (w : World) (h : RdB P l sh w) (hl : l.length ≤ 1000000) (hn : n ≤ 1000000) :
    Calls Try.prog 64 #[.pointer (some ⟨P, 0, none⟩), .int .i64 (n : Int)] w (GivesTake P l sh n w) := by
  obtain ⟨v, hB, hV⟩ := h
  have p0 := (hB 0 (by simp)).1
  have p1 := (hB 1 (by simp)).1
  have f0 := (hB 0 (by simp)).2
  have f1 := (hB 1 (by simp)).2
  have n0 : 0 ≤ (n : Int) := by omega
  by_cases hnl : n ≤ l.length
  · have g1 : ¬ (l.length : Int) < (n : Int) := by omega
    have hT : tkT l n = l.take n := if_pos hnl
    have hL : tkL l n = l.drop n := if_pos hnl
    have hS : tkS l sh n = sh := if_pos hnl
    rcases hV with ⟨rfl, rfl⟩ | ⟨b, off, cap, rfl, hc, hb, hcell⟩
    · have h0 : n = 0 := by simpa using hnl
      subst h0
      have HG : Hid (GivesTake P [] sh 0 w (.returned (.slice none 0 0)) (w.setCell ⟨P, 0, none⟩ (.slice none 0 0))) := Lib.hid
        ⟨_, rfl, .inl ⟨rfl, rfl⟩, ⟨.slice none 0 0, hB.put 0 _, .inl ⟨rfl, rfl⟩⟩, grownBy_cell w P 0 _⟩
      clear hT hL hS hnl hB
      go_enter Try.func64, Try.ntmps64
      go_wp2
      go_ret
      exact HG.out
    · have hbt := BytesV.take hnl hc hb hcell
      have hbd := BytesV.drop hnl hc hb hcell
      have hg := fun v : Value => grownBy_cell w P 0 v
      have i1 : (n : Int) ≤ (l.length : Int) := by omega
      have i2 : (n : Int) ≤ (cap : Int) := by omega
      have i3 : (l.length : Int) ≤ (cap : Int) := by omega
      by_cases hcn : cap = n
      · have hln : l.length = n := by omega
        have hld : l.drop n = [] := List.drop_eq_nil_of_le (by omega)
        subst hcn
        have HG : Hid (GivesTake P l sh cap w (.returned (.slice (some ⟨b, off, none⟩) cap cap)) (w.setCell ⟨P, 0, none⟩ (.slice (some ⟨b, off, none⟩) (l.length - cap) 0))) := Lib.hid
          ⟨_, rfl, by rw [hT]; exact hbt.kept (hg _) (fun x hx => by cases hx; exact Nat.le_refl _), ⟨_, by rw [hS]; exact hB.put 0 _, by rw [hL, hld]; exact .inr ⟨b, off, 0, by simp [hln], by simp, hb, fun i hi => by simp at hi⟩⟩, hg _⟩
        clear hT hL hS hbt hbd hg hln hld hB hcell hnl hc i2
        go_enter Try.func64, Try.ntmps64
        go_wp2
        go_ret
        exact HG.out
      · have HG : Hid (GivesTake P l sh n w (.returned (.slice (some ⟨b, off, none⟩) n cap)) (w.setCell ⟨P, 0, none⟩ (.slice (some ⟨b, off + n, none⟩) (l.length - n) (cap - n)))) := Lib.hid
          ⟨_, rfl, by rw [hT]; exact hbt.kept (hg _) (fun x hx => by cases hx; exact Nat.le_refl _), ⟨_, by rw [hS]; exact hB.put 0 _, by rw [hL]; exact hbd.kept (hg _) (fun x hx => by cases hx; exact Nat.le_refl _)⟩, hg _⟩
        clear hT hL hS hbt hbd hg hB hcell hnl hc
        go_enter Try.func64, Try.ntmps64
        go_wp2
        go_ret
        exact HG.out
  · have g1 : (l.length : Int) < (n : Int) := by omega
    have HG : Hid (GivesTake P l sh n w (.returned (.slice none 0 0)) ((w.setCell ⟨P, 0, none⟩ (.slice none 0 0)).setCell ⟨P, 1, none⟩ (.bool true))) := Lib.hid
      ⟨_, rfl, by unfold tkT; rw [if_neg hnl]; exact .inl ⟨rfl, rfl⟩, ⟨.slice none 0 0, by unfold tkS; rw [if_neg hnl]; exact (hB.put 0 _).put 1 _, by unfold tkL; rw [if_neg hnl]; exact .inl ⟨rfl, rfl⟩⟩, grownBy_trans (grownBy_cell w P 0 _) (grownBy_cell _ P 1 _)⟩
    obtain ⟨a, cap, rfl, _, _⟩ := hV.form
    clear hnl hB hV
    go_enter Try.func64, Try.ntmps64
    go_wp2
    go_ret
    exact HG.out
/-- The call returns a list of words in the next block and no error. -/
def GivesWordsF (xs : List Nat) (w : World) (e : Ending) (w' : World) : Prop :=
  e = .returned (.tuple #[.slice (some ⟨w.heap.size, 0, none⟩) xs.length xs.length, .int .i64 0]) ∧ NatsAt .u16 w' (some ⟨w.heap.size, 0, none⟩) xs ∧ Below w.heap.size w w'

theorem word_WordsF (a : Option Addr) (xs : List Nat) (cap : Nat) (w : World) (he : xs.length % 2 = 0) (hl : xs.length ≤ 1000000) (ha : NatsAt .u8 w a xs) (hx : ∀ x ∈ xs, x < 256) :
    Calls Try.prog 111 #[.slice a xs.length cap] w (GivesWordsF (wordsOf xs) w) := by
  obtain ⟨i0, hi, hz0, hz1, hz2⟩ := info_parts info_u16
  have h1 : ((xs.length : Int) % 2 != 0) = false := by rw [bne_eq_false_iff_eq]; omega
  obtain ⟨n, hn, hn2⟩ : ∃ n : Nat, (xs.length : Int) / 2 = (n : Int) ∧ 2 * n ≤ xs.length ∧ xs.length ≤ 2 * n := ⟨xs.length / 2, by omega, by omega, by omega⟩
  obtain ⟨hn2, hn3⟩ := hn2
  go_enter Try.func111, Try.ntmps111
  go_wp2_with (first
    | (at_make; refine wpList_make_full _ rfl _ _ 84 rfl w.heap.size 27 i0 (.int .u16 0) 1 Try.underlying84 hi hz0 hz1 .i64 .i64 _ _ n rfl rfl rfl rfl ?c1 ?c2 ?c3 ?_))
  case c1 => rw [hz2]; omega
  case c2 => unfold maxLen; omega
  case c3 => omega
  intro w1 hown hg
  rw [show (madeCells #[Value.int .u16 0] n).toList = rowTo (wordsTo xs 0) n by rw [toList_madeCells_one]; simp [rowTo, wordsTo]] at hown
  have hbel := (Below.refl w.heap.size w).grown hg (Nat.le_refl _) (fun k hk => by cases hk)
  clear hg hn h1
  go_wp2
  go_loopw [5, 16] (fun _ c wr => ∃ k : Nat, k ≤ n ∧ c = .int .i64 k ∧ wr.ownsRow w.heap.size 27 1 (.slice (some ⟨w.heap.size, 0, none⟩) n n) n (rowTo (wordsTo xs k) n) ∧ Below w.heap.size w wr) (fun _ c _ => n - (intOf c).toNat)
  case atStart => exact ⟨0, by omega, rfl, hown, hbel⟩
  case round =>
    obtain ⟨k, hk, rfl, hownr, hw⟩ := hrel
    by_cases hlt : k < n
    · obtain ⟨b, off, rfl, hc⟩ := (ha.later hw).some (j := 2 * k) (by omega)
      have c1 := hc (2 * k) (by omega)
      have c2 := hc (2 * k + 1) (by omega)
      clear hc
      have x1 := hx _ (List.getElem_mem (show 2 * k < xs.length by omega))
      have x2 := hx _ (List.getElem_mem (show 2 * k + 1 < xs.length by omega))
      have hA := Lib.hid (show wordAt xs k = xs[2 * k] * 256 + xs[2 * k + 1] by
        unfold wordAt
        rw [List.getD_eq_getElem?_getD, List.getElem?_eq_getElem (show 2 * k < xs.length by omega), List.getD_eq_getElem?_getD, List.getElem?_eq_getElem (show 2 * k + 1 < xs.length by omega)]
        rfl)
      generalize xs[2 * k] = x at *
      generalize xs[2 * k + 1] = y at *
      have hj := word_join x y x1 x2
      have i1 : IntKind.i64.wrap (2 * (k : Int)) = 2 * (k : Int) := IntWalk.i64_in _ (by omega)
      have i2 : IntKind.i64.wrap (2 * (k : Int) + 1) = 2 * (k : Int) + 1 := IntWalk.i64_in _ (by omega)
      have i3 : (2 * (k : Int)).toNat = 2 * k := by omega
      have i4 : (2 * (k : Int) + 1).toNat = 2 * k + 1 := by omega
      have i5 : 2 * (k : Int) < (xs.length : Int) := by omega
      have i6 : 2 * (k : Int) + 1 < (xs.length : Int) := by omega
      have i7 : 0 ≤ 2 * (k : Int) := by omega
      have i8 : 0 ≤ 2 * (k : Int) + 1 := by omega
      have i9 : (k : Int) < (n : Int) := by omega
      have hf := hownr.frozenAt k
      have hcell := hownr.cellAt k (by omega)
      rw [show (rowTo (wordsTo xs k) n)[k]? = some (.int .u16 0) by have := rowTo_at (wordsTo xs k) n (by rw [length_wordsTo]; exact hlt); rw [length_wordsTo] at this; exact this] at hcell
      have hst := Lib.hid (hownr.stored k (.int .u16 ((x : Int) * 256 + (y : Int))))
      go_wp2
      go_region
      have hst2 := hst.out
      have hset := rowTo_set (wordsTo xs k) n (x * 256 + y) (by rw [length_wordsTo]; exact hlt)
      rw [length_wordsTo, ← hA.out, ← wordsTo_succ, hA.out, show ((x * 256 + y : Nat) : Int) = (x : Int) * 256 + (y : Int) by omega] at hset
      rw [hset] at hst2
      have r1 := hst2.1.drew
      have r2 := (hw.grown hst2.2 hw.size (fun j hj => by cases hj; exact Nat.le_refl _)).drew
      clear hst2 hset hst hcell hf
      go_wp2
      go_roundw
      case rel => exact ⟨k + 1, by omega, by go_num, r1, r2⟩
      case measure => simp [intOf]; omega
    · obtain rfl : k = n := by omega
      have hrow : rowTo (wordsTo xs k) k = (wordsTo xs k).map (fun x : Nat => Value.int .u16 (x : Int)) := by
        have := rowTo_full (wordsTo xs k)
        rw [length_wordsTo] at this
        exact this
      rw [hrow] at hownr
      have hof := NatsAt.of_row hownr
      have hlen : xs.length / 2 = k := by omega
      have hG : ∀ w', Below w.heap.size w w' → NatsAt .u16 w' (some ⟨w.heap.size, 0, none⟩) (wordsTo xs k) → GivesWordsF (wordsOf xs) w (.returned (.tuple #[.slice (some ⟨w.heap.size, 0, none⟩) k k, .int .i64 0])) w' := by
        intro w' hb hn
        refine ⟨?_, by unfold wordsOf; rw [hlen]; exact hn, hb⟩
        rw [length_wordsOf, hlen]
      obtain ⟨q0, a2, cap2, hv, hn⟩ := hof
      clear q0
      simp only [Value.slice.injEq] at hv
      obtain ⟨rfl, q1, q2⟩ := hv
      clear q1 q2
      have HG := Lib.hid (hG _ hw hn)
      clear hG hn hlen hrow hownr hown ha hx
      go_wp2
      go_ret2
      exact HG.out

/-- What number gives: the byte, what is left, whether the bytes have ended. -/
def nmV (l : List Nat) : Nat := l.headD 0
def nmS (l : List Nat) (sh : Bool) : Bool := if l = [] then true else sh

/-- The call takes a number. -/
def GivesNum (P : Nat) (l : List Nat) (sh : Bool) (w : World) (e : Ending) (w' : World) : Prop :=
  e = .returned (.int .i64 (nmV l : Int)) ∧ RdB P l.tail (nmS l sh) w' ∧ w.grownBy w' (some P)

set_option maxHeartbeats 1000000 in
theorem reader_number (P : Nat) (l : List Nat) (sh : Bool) (w : World) (h : RdB P l sh w) (hl : l.length ≤ 1000000) (hsh : sh = true → l = []) (hx : ∀ x ∈ l, x < 256) :
    Calls Try.prog 65 #[.pointer (some ⟨P, 0, none⟩)] w (GivesNum P l sh w) := by
  have HT : Hid (Calls Try.prog 64 #[.pointer (some ⟨P, 0, none⟩), .int .i64 1] w (GivesTake P l sh 1 w)) := Lib.hid (reader_take P l sh 1 w h hl (by omega))
  cases l with
  | nil =>
    have HG : Hid (∀ w', RdB P [] true w' → w.grownBy w' (some P) → GivesNum P [] sh w (.returned (.int .i64 0)) w') := Lib.hid (fun w' h1 h2 => ⟨rfl, h1, h2⟩)
    clear hx hsh hl h
    go_enter Try.func65, Try.ntmps65
    go_upto_region 2 with (go_at_call 64; (with_reducible refine HT.out.mono ?_); rintro e w1 ⟨v1, rfl, hV1, hR1, hg1⟩)
    have hR : RdB P [] true w1 := hR1
    have HF := Lib.hid (HG.out w1 hR hg1)
    obtain ⟨u, hB, _⟩ := hR
    have p1 := (hB 1 (by simp)).1
    clear hB hV1 hR1 hg1 HG HT
    go_wp2
    go_ret
    exact HF.out
  | cons x r =>
    have hs : sh = false := by
      cases sh with
      | false => rfl
      | true => have := hsh rfl; cases this
    subst hs
    have hx0 := hx x (by simp)
    have HG : Hid (∀ w', RdB P r false w' → w.grownBy w' (some P) → GivesNum P (x :: r) false w (.returned (.int .i64 (x : Int))) w') := Lib.hid (fun w' h1 h2 => ⟨rfl, by show RdB P r (nmS (x :: r) false) w'; unfold nmS; rw [if_neg (by simp)]; exact h1, h2⟩)
    clear hx hsh h
    go_enter Try.func65, Try.ntmps65
    go_upto_region 2 with (go_at_call 64; (with_reducible refine HT.out.mono ?_); rintro e w1 ⟨v1, rfl, hV1, hR1, hg1⟩)
    have eT : tkT (x :: r) 1 = [x] := by unfold tkT; rw [if_pos (by simp)]; rfl
    have eL : tkL (x :: r) 1 = r := by unfold tkL; rw [if_pos (by simp)]; rfl
    have eS : tkS (x :: r) false 1 = false := by unfold tkS; rw [if_pos (by simp)]
    rw [eT] at hV1
    rw [eL, eS] at hR1
    have HF := Lib.hid (HG.out w1 hR1 hg1)
    obtain ⟨u, hB, _⟩ := hR1
    have p1 := (hB 1 (by simp)).1
    obtain ⟨b, off, cap, rfl, hc, _, hcell⟩ : ∃ b off cap, v1 = .slice (some ⟨b, off, none⟩) 1 cap ∧ 1 ≤ cap ∧ b < P ∧ ∀ i (h : i < [x].length), w1.cell? ⟨b, off + i, none⟩ = some (.int .u8 ([x][i] : Int)) := by
      rcases hV1 with ⟨_, h0⟩ | h0
      · cases h0
      · exact h0
    have c0 := hcell 0 (by simp)
    simp only [Nat.add_zero, List.getElem_cons_zero] at c0
    have wx : IntKind.i64.wrap (x : Int) = (x : Int) := IntWalk.i64_in _ (by omega)
    clear hB hg1 HG HT hcell eT eL eS hl
    go_wp2
    go_ret
    exact HF.out

/-- What words gives. -/
def wdV (l : List Nat) (k : Nat) : List Nat := wordsOf (tkT l (2 * k))

/-- The call takes k words. -/
def GivesWd (P : Nat) (l : List Nat) (sh : Bool) (k : Nat) (w : World) (e : Ending) (w' : World) : Prop :=
  ∃ B, w.heap.size ≤ B ∧ e = .returned (.slice (some ⟨B, 0, none⟩) (wdV l k).length (wdV l k).length) ∧ NatsAt .u16 w' (some ⟨B, 0, none⟩) (wdV l k) ∧ RdB P (tkL l (2 * k)) (tkS l sh (2 * k)) w' ∧ w.grownBy w' (some P)

theorem tkT_even (l : List Nat) (k : Nat) : (tkT l (2 * k)).length % 2 = 0 := by
  unfold tkT
  split
  · rw [List.length_take]; omega
  · rfl

theorem tkT_len (l : List Nat) (n : Nat) : (tkT l n).length ≤ l.length := by
  unfold tkT
  split
  · rw [List.length_take]; omega
  · simp

theorem tkT_mem (l : List Nat) (n : Nat) : ∀ x ∈ tkT l n, x ∈ l := by
  unfold tkT
  intro x hx
  split at hx
  · exact List.mem_of_mem_take hx
  · simp at hx

set_option maxHeartbeats 1000000 in
theorem reader_words (P : Nat) (l : List Nat) (sh : Bool) (k : Nat) (w : World) (h : RdB P l sh w) (hl : l.length ≤ 1000000) (hk : k ≤ 1000) (hx : ∀ x ∈ l, x < 256) :
    Calls Try.prog 92 #[.pointer (some ⟨P, 0, none⟩), .int .i64 (k : Int)] w (GivesWd P l sh k w) := by
  have HT := Lib.hid (reader_take P l sh (2 * k) w h hl (by omega))
  have hsz : w.heap.size = w.heap.size := rfl
  have HW := Lib.hid (fun (W : World) a cap (hW : NatsAt .u8 W a (tkT l (2 * k))) => word_WordsF a (tkT l (2 * k)) cap W (tkT_even l k) (by have := tkT_len l (2 * k); omega) hW (fun x hm => hx x (tkT_mem l _ x hm)))
  have i1 : ((2 * k : Nat) : Int) = 2 * (k : Int) := by omega
  rw [i1] at HT
  have i2 : IntKind.i64.wrap (2 * (k : Int)) = 2 * (k : Int) := IntWalk.i64_in _ (by omega)
  clear hx hsz i1
  go_enter Try.func92, Try.ntmps92
  go_wp2_with (first
    | (go_at_call 64; (with_reducible refine HT.out.mono ?_); rintro e w1 ⟨v1, rfl, hV1, hR1, hg1⟩; obtain ⟨a1, c1, rfl, hc1, hn1⟩ := hV1.form)
    | (go_at_call 111; (with_reducible refine (HW.out w1 a1 c1 hn1).mono ?_); rintro e w2 ⟨rfl, hn2, hb2⟩))
  go_ret
  exact ⟨w1.heap.size, hg1.size, rfl, hn2, hR1.later hb2, grownBy_trans hg1 (grownBy_below hb2 rfl _)⟩

/-- One region is taken: its size, its words. -/
def rgL (l : List Nat) : List Nat := tkL l.tail.tail (2 * nmV l.tail)
def rgS (l : List Nat) (sh : Bool) : Bool := tkS l.tail.tail (nmS l.tail (nmS l sh)) (2 * nmV l.tail)
def rgW (l : List Nat) : List Nat := wdV l.tail.tail (nmV l.tail)

/-- n regions are taken: the sizes, the words, what is left, whether the bytes have ended. -/
def rgTo : Nat → List Nat → Bool → List Nat × List (List Nat) × List Nat × Bool
  | 0, l, sh => ([], [], l, sh)
  | n + 1, l, sh => ((rgTo n l sh).1 ++ [nmV (rgTo n l sh).2.2.1], (rgTo n l sh).2.1 ++ [rgW (rgTo n l sh).2.2.1], rgL (rgTo n l sh).2.2.1, rgS (rgTo n l sh).2.2.1 (rgTo n l sh).2.2.2)

theorem rgL_len (r : List Nat) : (rgL r).length ≤ r.length := by
  unfold rgL tkL
  split
  · simp only [List.length_drop, List.length_tail]; omega
  · simp

theorem rgTo_len : ∀ (n : Nat) (l : List Nat) (sh : Bool), (rgTo n l sh).1.length = n ∧ (rgTo n l sh).2.1.length = n ∧ (rgTo n l sh).2.2.1.length ≤ l.length
  | 0, _, _ => ⟨rfl, rfl, Nat.le_refl _⟩
  | n + 1, l, sh => by
    obtain ⟨h1, h2, h3⟩ := rgTo_len n l sh
    have h4 := rgL_len (rgTo n l sh).2.2.1
    refine ⟨?_, ?_, ?_⟩
    · show ((rgTo n l sh).1 ++ [_]).length = n + 1
      rw [List.length_append, h1]; rfl
    · show ((rgTo n l sh).2.1 ++ [_]).length = n + 1
      rw [List.length_append, h2]; rfl
    · show (rgL (rgTo n l sh).2.2.1).length ≤ l.length
      omega

theorem rg_mem (r : List Nat) : ∀ x ∈ rgL r, x ∈ r := by
  intro x hx
  unfold rgL tkL at hx
  split at hx
  · exact List.mem_of_mem_tail (List.mem_of_mem_tail (List.mem_of_mem_drop hx))
  · simp at hx

theorem rgTo_mem : ∀ (n : Nat) (l : List Nat) (sh : Bool), ∀ x ∈ (rgTo n l sh).2.2.1, x ∈ l
  | 0, _, _ => fun _ hx => hx
  | n + 1, l, sh => fun x hx => rgTo_mem n l sh x (rg_mem _ x hx)

theorem tk_short (l : List Nat) (sh : Bool) (n : Nat) (h : sh = true → l = []) : tkS l sh n = true → tkL l n = [] := by
  unfold tkS tkL
  split
  · intro e; rw [h e]; simp
  · intro _; rfl

theorem nm_short (l : List Nat) (sh : Bool) (h : sh = true → l = []) : nmS l sh = true → l.tail = [] := by
  unfold nmS
  split
  · intro _; simp_all
  · intro e; rw [h e]; rfl

theorem rg_short (l : List Nat) (sh : Bool) (h : sh = true → l = []) : rgS l sh = true → rgL l = [] :=
  tk_short _ _ _ (nm_short _ _ (nm_short _ _ h))

theorem rgTo_short : ∀ (n : Nat) (l : List Nat) (sh : Bool), (sh = true → l = []) → (rgTo n l sh).2.2.2 = true → (rgTo n l sh).2.2.1 = []
  | 0, _, _, h => h
  | n + 1, l, sh, h => rg_short _ _ (rgTo_short n l sh h)
end Go.Proofs.Ythajndgljfbifaa
