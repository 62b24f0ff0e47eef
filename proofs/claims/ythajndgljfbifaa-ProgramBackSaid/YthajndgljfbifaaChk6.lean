/-
  slices.Chunk of bytes by six: the iterator's contract.
  slices.Chunk of bytes by six: what it hands back.
-/
import Derived.RangeFuncBox
import Derived.RangeFuncLeaves
import Derived.Shelf.Abstract
import Derived.Shelf.RegionOpen
import Derived.WalkKit
import Derived.OwnWalkIn
import Derived.TacticsInMore
import Derived.LoopNIn
import Derived.LoopIn
import Derived.Maps.AppendAt
import Derived.Test.YthajndgljfbifaaRd8
namespace Go.Proofs.Ythajndgljfbifaa
open Go.RowKit Go.Shelf
set_option maxRecDepth 100000

attribute [local go_sem] Oper.semAt_some

/-- What a round keeps for the iterator: its two boxes. -/
def KpC (Bs Bn : Nat) (W W' : World) : Prop := W'.cell? ⟨Bs, 0, none⟩ = W.cell? ⟨Bs, 0, none⟩ ∧ W'.cell? ⟨Bn, 0, none⟩ = W.cell? ⟨Bn, 0, none⟩

theorem KpC.trans {Bs Bn : Nat} {A B C : World} (h : KpC Bs Bn A B) (k : KpC Bs Bn B C) : KpC Bs Bn A C := ⟨k.1.trans h.1, k.2.trans h.2⟩

theorem KpC.put {Bs Bn : Nat} {w : World} (h1 : Bs < w.heap.size) (h2 : Bn < w.heap.size) (W : World) (l : Nat) (o o' : Obj) (hl : w.heap.size ≤ l) (_ : W.heap[l]? = some o) (_ : o.isCells = false) (_ : o.isWalk = false) : KpC Bs Bn W (W.putObj l o') :=
  ⟨World.cell?_of_block (World.putObj_heap_other (fun e => by have e2 : Bs = l := e; omega)), World.cell?_of_block (World.putObj_heap_other (fun e => by have e2 : Bn = l := e; omega))⟩

/-- The chunks of K: their numbers. -/
abbrev Chk (K : Nat) := { j : Nat // j < K }

/-- A chunk's slice. -/
def chkV (b off : Nat) (j : Nat) : Value := .slice (some ⟨b, off + 6 * j, none⟩) 6 6

def chkTo (K : Nat) : (k : Nat) → k ≤ K → List (Chk K)
  | 0, _ => []
  | k + 1, h => chkTo K k (by omega) ++ [⟨k, by omega⟩]

theorem chkTo_len (K : Nat) : ∀ k h, (chkTo K k h).length = k
  | 0, _ => rfl
  | k + 1, h => by simp [chkTo, chkTo_len K k]

set_option maxHeartbeats 2000000 in
theorem chunk1_in (F : Fence) (n : Nat) (h7 : F.fn 112) (hro : F.round = none) (hn : 1 ≤ n) (l Bs Bn b off cap K : Nat) (hcap : 6 * K ≤ cap) (hK : K ≤ 1000) (J Jx : List (Chk K) → World → Prop) (hJd : ∀ pre W, J pre W → J pre W.drew)
    (hY : ∀ pre (x : Chk K) W, J pre W → pre.length < K → YieldAt F (n - 1) Try.prog l #[chkV b off x.1] W fun e W' =>
      (e = .returned (.bool true) ∧ J (pre ++ [x]) W' ∧ KpC Bs Bn W W') ∨ (e = .returned (.bool false) ∧ Jx (pre ++ [x]) W'))
    (W : World) (hBs : W.cell? ⟨Bs, 0, none⟩ = some (.slice (some ⟨b, off, none⟩) (6 * K) cap)) (hBn : W.cell? ⟨Bn, 0, none⟩ = some (.int .i64 6)) (h0 : J [] W) :
    CallsIn F n Try.prog 112 #[.func (.yield l) #[] #[], .pointer (some ⟨Bs, 0, none⟩), .pointer (some ⟨Bn, 0, none⟩)] W fun e W' => (∃ v, e = .returned v) ∧
      ((∃ ys, ys = chkTo K K (Nat.le_refl _) ∧ J ys W') ∨ (∃ pre, (∃ k h, pre = chkTo K k h) ∧ Jx pre W')) := by
  refine callsIn_of_wp Try.func112 rfl h7 ?_ hro
  simp only [Try.ntmps112, List.size_toArray, List.length_cons, List.length_nil, Nat.reduceAdd, Nat.reduceSub, Array.replicate_succ, Array.replicate_zero, List.push_toArray, List.append_toArray, List.nil_append, List.cons_append]
  gi_wp2
  gi_loopw [4] (fun i wr => ∃ k : Nat, ∃ h : k ≤ K, i = .int .i64 ((6 * k : Nat) : Int) ∧ J (chkTo K k h) wr ∧ KpC Bs Bn W wr)
    (fun i _ => 6 * K - (intOf i).toNat)
  case atStart => exact ⟨0, Nat.zero_le _, rfl, h0, rfl, rfl⟩
  case round =>
    obtain ⟨k, hk, rfl, hJs, hnx⟩ := hrel
    have c0 := hnx.1.trans hBs
    have c1 := hnx.2.trans hBn
    by_cases hlt : k < K
    · obtain ⟨fn, tmps, assign, body, hy, hR⟩ := hY _ ⟨k, hlt⟩ wr.drew (hJd _ _ hJs) (by rw [chkTo_len]; exact hlt)
      dsimp only [chkV] at hy
      obtain ⟨m, hm⟩ : ∃ m, 6 * k = m := ⟨_, rfl⟩
      obtain ⟨M, hM⟩ : ∃ M, 6 * K = M := ⟨_, rfl⟩
      rw [hm] at hy ⊢
      rw [hM] at c0 hcap
      have HM := Lib.hid (And.intro hm hM)
      have q1 : m + 6 ≤ M := by omega
      have q2 : M ≤ 6000 := by omega
      have q3 : ¬ cap = m := by omega
      have i1 : (m : Int) < (M : Int) := by omega
      have i2 : 0 ≤ (m : Int) := by omega
      have i3 : (m : Int) ≤ (M : Int) := by omega
      have i4 : ¬ ((M - m : Nat) : Int) < 6 := by omega
      have i5 : (6 : Int) ≤ ((M - m : Nat) : Int) := by omega
      clear hm hM
      gi_wp2
      gi_region
      all_goals
        have c0d : wr.drew.cell? ⟨Bs, 0, none⟩ = some (.slice (some ⟨b, off, none⟩) M cap) := c0
        have c1d : wr.drew.cell? ⟨Bn, 0, none⟩ = some (.int .i64 6) := c1
        have q6 : ¬ cap - m = 0 := by omega
        have q7 : m + 6 ≤ cap := by omega
        simp only [if_neg (show ¬ ((M - m : Nat) : Int) < 6 by omega)]
        gi_wp2
        refine hR.mono ?_
        rintro e W3 (⟨rfl, hJ3, hk3⟩ | ⟨rfl, hJx3⟩)
        · have c1z : W3.cell? ⟨Bn, 0, none⟩ = some (.int .i64 6) := hk3.2.trans c1d
          have i6 : IntKind.i64.wrap ((m : Int) + 6) = (m : Int) + 6 := IntWalk.i64_in _ (by omega)
          clear c0 c1 c0d c1d hY hBs hBn
          gi_wp2
          go_roundw
          case rel => exact ⟨k + 1, hlt, by have := HM.out.1; rw [show ((6 * (k + 1) : Nat) : Int) = (m : Int) + 6 by omega], hJ3, hnx.trans (show KpC Bs Bn wr W3 from hk3)⟩
          case measure => simp [intOf]; have := HM.out.1; have := HM.out.2; omega
        · clear c0 c1 c0d c1d hY hBs hBn
          gi_wp2
          refine bodyPost_ret (results_none rfl _ _ _) rfl ?_
          exact ⟨⟨_, rfl⟩, .inr ⟨_, ⟨k + 1, by omega, rfl⟩, hJx3⟩⟩
    · obtain rfl : k = K := by omega
      gi_wp2
      go_end0
      exact ⟨⟨_, rfl⟩, .inl ⟨_, rfl, hJs⟩⟩
end Go.Proofs.Ythajndgljfbifaa
namespace Go.Proofs.Ythajndgljfbifaa
open Go.RowKit Go.Shelf
set_option maxRecDepth 100000

attribute [local go_sem] Oper.semAt_some

set_option maxHeartbeats 1000000 in
/-- .. at the nil slice: no round. -/
theorem chunk1_nil_in (F : Fence) (n : Nat) (h7 : F.fn 112) (hro : F.round = none) (l Bs Bn K : Nat) (J : List (Chk K) → World → Prop) (W : World) (hBs : W.cell? ⟨Bs, 0, none⟩ = some (.slice none 0 0)) (h0 : J [] W) :
    CallsIn F n Try.prog 112 #[.func (.yield l) #[] #[], .pointer (some ⟨Bs, 0, none⟩), .pointer (some ⟨Bn, 0, none⟩)] W fun e W' => (∃ v, e = .returned v) ∧ J [] W' := by
  refine callsIn_of_wp Try.func112 rfl h7 ?_ hro
  simp only [Try.ntmps112, List.size_toArray, List.length_cons, List.length_nil, Nat.reduceAdd, Nat.reduceSub, Array.replicate_succ, Array.replicate_zero, List.push_toArray, List.append_toArray, List.nil_append, List.cons_append]
  gi_wp2
  gi_loopw [4] (fun i wr => i = .int .i64 0 ∧ J [] wr ∧ wr.cell? ⟨Bs, 0, none⟩ = some (.slice none 0 0)) (fun _ _ => 0)
  case atStart => exact ⟨rfl, h0, hBs⟩
  case round =>
    obtain ⟨rfl, hJs, hc⟩ := hrel
    gi_wp2
    go_end0
    exact ⟨⟨_, rfl⟩, hJs⟩

set_option maxHeartbeats 1000000 in
/-- slices.Chunk(s, 6): the slice and the number are boxed; the function value has captured the boxes. -/
theorem chunk_in (F : Fence) (n : Nat) (h5 : F.fn 93) (hro : F.round = none) (a : Option Addr) (len cap : Nat) (w : World) :
    CallsIn F n Try.prog 93 #[.slice a len cap, .int .i64 6] w fun e w' => e = .returned (.func (.func 112) #[] #[.pointer (some ⟨w.heap.size, 0, none⟩), .pointer (some ⟨w.heap.size + 1, 0, none⟩)]) ∧ w' = (w.alloc (.cells #[.slice a len cap] 52)).alloc (.cells #[.int .i64 6] 3) := by
  refine callsIn_of_wp Try.func93 rfl h5 ?_ hro
  simp only [Try.ntmps93, List.size_toArray, List.length_cons, List.length_nil, Nat.reduceAdd, Nat.reduceSub, Array.replicate_succ, Array.replicate_zero, List.push_toArray, List.append_toArray, List.nil_append, List.cons_append]
  gi_wp2
  go_ret
  exact ⟨rfl, rfl⟩

/-- The bytes of K chunks, below n₀, or none. -/
def ChkV (v : Value) (b off K : Nat) : Prop := (v = .slice none 0 0 ∧ K = 0) ∨ ∃ cap, v = .slice (some ⟨b, off, none⟩) (6 * K) cap ∧ 6 * K ≤ cap

theorem chunk_stops (F : Fence) (n : Nat) (h7 : F.fn 112) (hro : F.round = none) (hn : 1 ≤ n) (Bs Bn : Nat) (v : Value) (b off K : Nat) (hK : K ≤ 1000) (w : World) (hBs0 : Bs < w.heap.size) (hBn0 : Bn < w.heap.size)
    (hc : w.cell? ⟨Bs, 0, none⟩ = some v) (hc2 : w.cell? ⟨Bn, 0, none⟩ = some (.int .i64 6)) (hV : ChkV v b off K) :
    SeqStopsK F n Try.prog 112 #[.pointer (some ⟨Bs, 0, none⟩), .pointer (some ⟨Bn, 0, none⟩)] (fun x : Chk K => #[chkV b off x.1]) (KpC Bs Bn) (fun ys => ys = chkTo K K (Nat.le_refl _)) (fun pre => ∃ k h, pre = chkTo K k h) K w := fun l J Jx W hW hJ _ hY h0 => by
  have hc' := (hW.cell (p := ⟨Bs, 0, none⟩) hBs0).trans hc
  have hc2' := (hW.cell (p := ⟨Bn, 0, none⟩) hBn0).trans hc2
  rcases hV with ⟨rfl, rfl⟩ | ⟨cap, rfl, hcap⟩
  · exact (chunk1_nil_in F n h7 hro l Bs Bn 0 J W hc' h0).mono fun e W' ⟨he, hj⟩ => ⟨he, .inl ⟨_, rfl, hj⟩⟩
  · exact chunk1_in F n h7 hro hn l Bs Bn b off cap K hcap hK J Jx (fun pre W0 h => hJ pre W0 W0.drew none h (grownBy_drewN W0 none 1) (fun r e => by cases e)) hY W hc' hc2' h0
end Go.Proofs.Ythajndgljfbifaa
