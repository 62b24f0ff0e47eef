/-
  Contracts of the functions on lists of words and bytes: Words, Bytes, SameWords, Numbers and the document's own.
-/
import Derived.Test.YthajndgljfbifaaWords
import Derived.Test.YthajndgljfbifaaNats
import Derived.Test.YthajndgljfbifaaListMath
import Derived.WalkKit
import Derived.WalkSpells
import Derived.Lib.Hide
import Derived.Outline
import Derived.StillTailTactics
import Derived.BigRegion
import Derived.Deep.QuietTactic
import Derived.BigQuiet
import Derived.Deep.RegionHeld3
import Derived.Deep.AppendLies
namespace Go.Proofs.Ythajndgljfbifaa
open Go.RowKit
set_option maxRecDepth 100000

/-- The call returns a new list of numbers. -/
def GivesNats (k : IntKind) (xs : List Nat) (w : World) (e : Ending) (w' : World) : Prop :=
  ∃ a cap, e = .returned (.slice a xs.length cap) ∧ NatsAt k w' a xs ∧ Below w.heap.size w w'

/-- The call returns a new list of words and no error. -/
def GivesWords (xs : List Nat) (w : World) (e : Ending) (w' : World) : Prop :=
  ∃ a cap, e = .returned (.tuple #[.slice a xs.length cap, .int .i64 0]) ∧ NatsAt .u16 w' a xs ∧ Below w.heap.size w w'

theorem info_u16 : (Try.prog.info? 27).map (fun i => (i.zero, i.size, i.bytes)) = some (some (.int .u16 0), 1, 2) := by kernel_rfl
theorem info_u8 : (Try.prog.info? 5).map (fun i => (i.zero, i.size, i.bytes)) = some (some (.int .u8 0), 1, 1) := by kernel_rfl

/-- Two bytes as a word. -/
theorem word_join (x y : Nat) (hx : x < 256) (hy : y < 256) : bits .or .u16 ((x : Int) * 256) (y : Int) = ((x * 256 + y : Nat) : Int) := by
  have e : (x : Int) * 256 = ((x * 256 : Nat) : Int) := by simp
  rw [e, u16_or_nat _ _ (by omega) (by omega), nat_join 8 (x * 256) y (by omega) (by omega)]

/-- The cells of the words that are there, behind them zeros. -/
def rowTo (ws : List Nat) (n : Nat) : List Value := ws.map (fun x : Nat => Value.int .u16 (x : Int)) ++ List.replicate (n - ws.length) (.int .u16 0)

theorem rowTo_set (ws : List Nat) (n x : Nat) (h : ws.length < n) : (rowTo ws n).set ws.length (.int .u16 (x : Int)) = rowTo (ws ++ [x]) n := by
  unfold rowTo
  rw [List.set_append_right _ _ (by simp), List.length_map, Nat.sub_self, List.length_append, show n - ws.length = n - (ws.length + [x].length) + 1 by simp; omega, List.replicate_succ]
  simp

theorem rowTo_at (ws : List Nat) (n : Nat) (h : ws.length < n) : (rowTo ws n)[ws.length]? = some (.int .u16 0) := by
  unfold rowTo
  rw [List.getElem?_append_right (by simp), List.length_map, Nat.sub_self, List.getElem?_replicate, if_pos (by omega)]

theorem rowTo_full (ws : List Nat) : rowTo ws ws.length = ws.map (fun x : Nat => Value.int .u16 (x : Int)) := by simp [rowTo]

theorem wraps_word (x : Nat) (h : x < 256) : IntKind.u16.wrap (x : Int) = (x : Int) ∧ IntKind.u16.wrap ((x : Int) * 256) = (x : Int) * 256 := by
  rw [IntKind.wrap_u16, IntKind.wrap_u16]
  omega

theorem word_Words_odd (a : Option Addr) (xs : List Nat) (cap : Nat) (w : World) (ho : xs.length % 2 = 1) (hl : xs.length ≤ 1000000) :
    Calls Try.prog 111 #[.slice a xs.length cap] w fun e w' => e = .returned (.tuple #[.slice none 0 0, .int .i64 5]) ∧ w = w' := by
  have h1 : ((xs.length : Int) % 2 != 0) = true := by rw [bne_iff_ne]; omega
  go_enter Try.func111, Try.ntmps111
  go_wp2
  go_ret2
  exact ⟨rfl, rfl⟩

theorem word_Words (a : Option Addr) (xs : List Nat) (cap : Nat) (w : World) (he : xs.length % 2 = 0) (hl : xs.length ≤ 1000000) (ha : NatsAt .u8 w a xs) (hx : ∀ x ∈ xs, x < 256) :
    Calls Try.prog 111 #[.slice a xs.length cap] w (GivesWords (wordsOf xs) w) := by
  obtain ⟨i0, hi, hz0, hz1, hz2⟩ := info_parts info_u16
  have h1 : ((xs.length : Int) % 2 != 0) = false := by rw [bne_eq_false_iff_eq]; omega
  obtain ⟨n, hn, hn2⟩ : ∃ n : Nat, (xs.length : Int) / 2 = (n : Int) ∧ 2 * n ≤ xs.length ∧ xs.length ≤ 2 * n := ⟨xs.length / 2, by omega, by omega, by omega⟩
  obtain ⟨hn2, hn3⟩ := hn2
  go_enter Try.func111, Try.ntmps111
  go_wp2_with (first
    | (at_make; refine wpList_make_full _ rfl _ _ 84 rfl w.heap.size 27 i0 (.int .u16 0) 1 Try.underlying84 hi hz0 hz1 .i64 .i64 _ _ n rfl rfl rfl rfl ?c1 ?c2 ?c3 ?_))
  case c1 => rw [hz2]; omega
  case c2 => unfold maxLen; omega
  case c3 => omega
  intro w1 hown hg
  rw [show (madeCells #[Value.int .u16 0] n).toList = rowTo (wordsTo xs 0) n by rw [toList_madeCells_one]; simp [rowTo, wordsTo]] at hown
  have hbel := (Below.refl w.heap.size w).grown hg (Nat.le_refl _) (fun k hk => by cases hk)
  clear hg hn h1
  go_wp2
  go_loopw [5, 16] (fun _ c wr => ∃ k : Nat, k ≤ n ∧ c = .int .i64 k ∧ wr.ownsRow w.heap.size 27 1 (.slice (some ⟨w.heap.size, 0, none⟩) n n) n (rowTo (wordsTo xs k) n) ∧ Below w.heap.size w wr) (fun _ c _ => n - (intOf c).toNat)
  case atStart => exact ⟨0, by omega, rfl, hown, hbel⟩
  case round =>
    obtain ⟨k, hk, rfl, hownr, hw⟩ := hrel
    by_cases hlt : k < n
    · obtain ⟨b, off, rfl, hc⟩ := (ha.later hw).some (j := 2 * k) (by omega)
      have c1 := hc (2 * k) (by omega)
      have c2 := hc (2 * k + 1) (by omega)
      clear hc
      have x1 := hx _ (List.getElem_mem (show 2 * k < xs.length by omega))
      have x2 := hx _ (List.getElem_mem (show 2 * k + 1 < xs.length by omega))
      have hA := Lib.hid (show wordAt xs k = xs[2 * k] * 256 + xs[2 * k + 1] by
        unfold wordAt
        rw [List.getD_eq_getElem?_getD, List.getElem?_eq_getElem (show 2 * k < xs.length by omega), List.getD_eq_getElem?_getD, List.getElem?_eq_getElem (show 2 * k + 1 < xs.length by omega)]
        rfl)
      generalize xs[2 * k] = x at *
      generalize xs[2 * k + 1] = y at *
      have hj := word_join x y x1 x2
      have i1 : IntKind.i64.wrap (2 * (k : Int)) = 2 * (k : Int) := IntWalk.i64_in _ (by omega)
      have i2 : IntKind.i64.wrap (2 * (k : Int) + 1) = 2 * (k : Int) + 1 := IntWalk.i64_in _ (by omega)
      have i3 : (2 * (k : Int)).toNat = 2 * k := by omega
      have i4 : (2 * (k : Int) + 1).toNat = 2 * k + 1 := by omega
      have i5 : 2 * (k : Int) < (xs.length : Int) := by omega
      have i6 : 2 * (k : Int) + 1 < (xs.length : Int) := by omega
      have i7 : 0 ≤ 2 * (k : Int) := by omega
      have i8 : 0 ≤ 2 * (k : Int) + 1 := by omega
      have i9 : (k : Int) < (n : Int) := by omega
      have hf := hownr.frozenAt k
      have hcell := hownr.cellAt k (by omega)
      rw [show (rowTo (wordsTo xs k) n)[k]? = some (.int .u16 0) by have := rowTo_at (wordsTo xs k) n (by rw [length_wordsTo]; exact hlt); rw [length_wordsTo] at this; exact this] at hcell
      have hst := Lib.hid (hownr.stored k (.int .u16 ((x : Int) * 256 + (y : Int))))
      go_wp2
      go_region
      have hst2 := hst.out
      have hset := rowTo_set (wordsTo xs k) n (x * 256 + y) (by rw [length_wordsTo]; exact hlt)
      rw [length_wordsTo, ← hA.out, ← wordsTo_succ, hA.out, show ((x * 256 + y : Nat) : Int) = (x : Int) * 256 + (y : Int) by omega] at hset
      rw [hset] at hst2
      have r1 := hst2.1.drew
      have r2 := (hw.grown hst2.2 hw.size (fun j hj => by cases hj; exact Nat.le_refl _)).drew
      clear hst2 hset hst hcell hf
      go_wp2
      go_roundw
      case rel => exact ⟨k + 1, by omega, by go_num, r1, r2⟩
      case measure => simp [intOf]; omega
    · obtain rfl : k = n := by omega
      have hrow : rowTo (wordsTo xs k) k = (wordsTo xs k).map (fun x : Nat => Value.int .u16 (x : Int)) := by
        have := rowTo_full (wordsTo xs k)
        rw [length_wordsTo] at this
        exact this
      rw [hrow] at hownr
      have hof := NatsAt.of_row hownr
      have hlen : xs.length / 2 = k := by omega
      have hG : ∀ w', Below w.heap.size w w' → NatsAt .u16 w' (some ⟨w.heap.size, 0, none⟩) (wordsTo xs k) → GivesWords (wordsOf xs) w (.returned (.tuple #[.slice (some ⟨w.heap.size, 0, none⟩) k k, .int .i64 0])) w' := by
        intro w' hb hn
        refine ⟨_, k, ?_, hlen ▸ hn, hb⟩
        rw [length_wordsOf, hlen]
      obtain ⟨q0, a2, cap2, hv, hn⟩ := hof
      clear q0
      simp only [Value.slice.injEq] at hv
      obtain ⟨rfl, q1, q2⟩ := hv
      clear q1 q2
      have HG := Lib.hid (hG _ hw hn)
      clear hG hn hlen hrow hownr hown ha hx
      go_wp2
      go_ret2
      exact HG.out

/-- What lies below the call's own blocks is not the block that it owns. -/
theorem far_of {wr : World} {base e size n : Nat} {v : Value} {xs : List Value} (h : wr.ownsRow base e size v n xs) {b : Nat} (hb : b < base) : Option.some b ≠ v.ownBlock := by
  intro he
  have := (h.lt b he.symm).1
  omega

theorem ref01_Words_odd (a : Option Addr) (xs : List Nat) (cap : Nat) (w : World) (ho : xs.length % 2 = 1) (hl : xs.length ≤ 1000000) :
    Calls Try.prog 67 #[.slice a xs.length cap] w fun e w' => e = .returned (.tuple #[.slice none 0 0, .int .i64 5]) ∧ w = w' := by
  have h1 : ((xs.length : Int) % 2 == 1) = true := by rw [beq_iff_eq]; omega
  go_enter Try.func67, Try.ntmps67
  go_wp2
  go_ret2
  exact ⟨rfl, rfl⟩

theorem map_snoc (k : IntKind) (l : List Nat) (x : Nat) : (l ++ [x]).map (fun y : Nat => Value.int k (y : Int)) = l.map (fun y : Nat => Value.int k (y : Int)) ++ [.int k (x : Int)] := by simp

theorem ref01_Words (a : Option Addr) (xs : List Nat) (cap : Nat) (w : World) (he : xs.length % 2 = 0) (hl : xs.length ≤ 1000000) (ha : NatsAt .u8 w a xs) (hx : ∀ x ∈ xs, x < 256) :
    Calls Try.prog 67 #[.slice a xs.length cap] w (GivesWords (wordsOf xs) w) := by
  obtain ⟨i0, hi, hz0, hz1, hz2⟩ := info_parts info_u16
  have h1 : ((xs.length : Int) % 2 == 1) = false := by rw [beq_eq_false_iff_ne]; omega
  obtain ⟨n, hn2, hn3⟩ : ∃ n : Nat, 2 * n ≤ xs.length ∧ xs.length ≤ 2 * n := ⟨xs.length / 2, by omega, by omega⟩
  go_enter Try.func67, Try.ntmps67
  go_wp2
  go_loopw [4, 5] (fun v c wr => ∃ k : Nat, k ≤ n ∧ c = .int .i64 ((2 * k : Nat) : Int) ∧ wr.ownsRow w.heap.size 27 1 v k ((wordsTo xs k).map fun x : Nat => Value.int .u16 (x : Int)) ∧ Below w.heap.size w wr) (fun _ c _ => xs.length - (intOf c).toNat)
  case atStart => exact ⟨0, by omega, rfl, World.ownsRow_nil _ _ _ _, Below.refl _ _⟩
  case round =>
    obtain ⟨k, hk, rfl, hown, hw⟩ := hrel
    by_cases hlt : k < n
    · obtain ⟨b, off, rfl, hc⟩ := (ha.later hw).some (j := 2 * k) (by omega)
      have c1 := hc (2 * k) (by omega)
      have c2 := hc (2 * k + 1) (by omega)
      clear hc
      have x1 := hx _ (List.getElem_mem (show 2 * k < xs.length by omega))
      have x2 := hx _ (List.getElem_mem (show 2 * k + 1 < xs.length by omega))
      have hA := Lib.hid (show wordAt xs k = xs[2 * k] * 256 + xs[2 * k + 1] by
        unfold wordAt
        rw [List.getD_eq_getElem?_getD, List.getElem?_eq_getElem (show 2 * k < xs.length by omega), List.getD_eq_getElem?_getD, List.getElem?_eq_getElem (show 2 * k + 1 < xs.length by omega)]
        rfl)
      generalize xs[2 * k] = x at *
      generalize xs[2 * k + 1] = y at *
      have hj := word_join x y x1 x2
      have e1 := (wraps_word x x1).1
      have e2 := (wraps_word x x1).2
      have e3 := (wraps_word y x2).1
      have i2 : IntKind.i64.wrap (2 * (k : Int) + 1) = 2 * (k : Int) + 1 := IntWalk.i64_in _ (by omega)
      have i3 : (2 * (k : Int)).toNat = 2 * k := by omega
      have i4 : (2 * (k : Int) + 1).toNat = 2 * k + 1 := by omega
      have i5 : 2 * (k : Int) < (xs.length : Int) := by omega
      have i6 : 2 * (k : Int) + 1 < (xs.length : Int) := by omega
      have i7 : 0 ≤ 2 * (k : Int) := by omega
      have i8 : 0 ≤ 2 * (k : Int) + 1 := by omega
      have hb : b < w.heap.size := by
        have hbb := (ha.some (j := 2 * k) (by omega))
        obtain ⟨b', off', he, hc'⟩ := hbb
        cases he
        exact World.block_lt_of_cell? _ _ (hc' (2 * k) (by omega))
      have hfar := far_of hown hb
      go_wp2
      go_region_held3 (fun w' => w'.cell? ⟨b, off + 2 * k, none⟩ = some (.int .u8 (x : Int)) ∧ w'.cell? ⟨b, off + (2 * k + 1), none⟩ = some (.int .u8 (y : Int)))
        (first | go_keep | (go_split_ands; exact ⟨hgrow.cell (by assumption) hfar, hgrow.cell (by assumption) hfar⟩))
        ((refine step_append_lies _ (by rfl) _ _ _ (by rfl) w.heap.size 27 i0 _ 1 2 Try.underlying84 hi hz0 hz1 hz2 rfl (by omega) _ k _ (by rfl) ((hown.alloc _).drew) ⟨wr.heap.size, 0, none⟩ 1 1 [.int .u16 ((x : Int) * 256 + (y : Int))] (by rfl) (by rfl) (World.news_of_block (cs := #[.int .u16 ((x : Int) * 256 + (y : Int))]) (t := 27) (fr := (0, 0)) (heap_alloc_new wr _)) (by simp [Value.oneCell']) (by omega) (by unfold maxLen; omega) (by omega) (by have := hw.size; simp; omega) (wr.heap.size + 1) (by simp) ?_; intro gg cap5 w1 hown1 hgrow hat hlt5))
      have hB := ((hw.alloc hw.size (.cells #[.int .u16 ((x : Int) * 256 + (y : Int))] 27)).drew).grown hgrow (by have := hw.size; simp; omega) (fun j hj => (hown.lt j hj).1)
      rw [show (x : Int) * 256 + (y : Int) = ((x * 256 + y : Nat) : Int) by omega, ← map_snoc, ← hA.out, ← wordsTo_succ] at hown1
      clear hgrow hat hlt5
      go_wp2
      go_roundw
      case rel => exact ⟨k + 1, by omega, by go_num, hown1, hB⟩
      case measure => simp [intOf]; omega
    · have hkn : k = xs.length / 2 := by omega
      have hG : ∃ a2 cap2, u4 = .slice a2 (wordsOf xs).length cap2 ∧ NatsAt .u16 wr a2 (wordsOf xs) := by
        subst hkn
        exact (NatsAt.of_row hown).2
      obtain ⟨a2, cap2, rfl, hn⟩ := hG
      have HG : Hid (GivesWords (wordsOf xs) w (.returned (.tuple #[.slice a2 (wordsOf xs).length cap2, .int .i64 0])) wr) := Lib.hid ⟨a2, cap2, rfl, hn, hw⟩
      clear hkn hn hown ha hx
      go_wp2
      go_ret2
      exact HG.out
end Go.Proofs.Ythajndgljfbifaa
