/-
  Contract of the deck: Instr.
-/
import Derived.Test.YthajndgljfbifaaIns
import Derived.Test.YthajndgljfbifaaDeck
import Derived.Test.YthajndgljfbifaaReg4
import Derived.Deep.DeepCutAuto
import Derived.Deep.CutBlock
namespace Go.Proofs.Ythajndgljfbifaa
open Go.RowKit
set_option maxRecDepth 100000

/-- The cells of a block. -/
def Blk (W : World) (B : Nat) (l : List Value) : Prop := ∀ j (h : j < l.length), W.cell? ⟨B, j, none⟩ = some l[j] ∧ W.frozen? ⟨B, j, none⟩ = false

theorem Blk.kept {W W' : World} {B : Nat} {l : List Value} {r : Option Nat} (h : Blk W B l) (hg : W.grownBy W' r) (hne : some B ≠ r) : Blk W' B l := by
  intro j hj
  obtain ⟨h0, h2⟩ := h j hj
  have hB := World.block_lt_of_cell? _ _ h0
  exact ⟨hg.cell h0 hne, by rw [World.frozen?_of_block (w := W) (hg.block B hB hne)]; exact h2⟩

theorem Blk.later {W W' : World} {B : Nat} {l : List Value} (h : Blk W B l) (hb : Below W.heap.size W W') : Blk W' B l := h.kept (grownBy_below hb rfl none) (by simp)

theorem Blk.put {W : World} {B : Nat} {l : List Value} (h : Blk W B l) (i : Nat) (v : Value) : Blk (W.setCell ⟨B, i, none⟩ v) B (l.set i v) := by
  intro j hj
  rw [List.length_set] at hj
  obtain ⟨h0, h2⟩ := h j hj
  refine ⟨?_, by go_simp⟩
  by_cases e : i = j
  · subst e
    rw [List.getElem_set_self]
    exact World.cell?_setCell_same _ _ _ h0
  · have hne : (⟨B, i, none⟩ : Addr) ≠ ⟨B, j, none⟩ := fun h => e (by injection h)
    rw [List.getElem_set_ne e, World.cell?_setCell_other (h := hne)]
    exact h0

theorem Blk.new {W : World} (l : Array Value) (T : TypeId) : Blk (W.alloc (.cells l T)) W.heap.size l.toList := by
  intro j hj
  refine ⟨?_, by go_simp⟩
  rw [World.cell?_alloc_at _ _ _ _ rfl]
  simp at hj ⊢

/-- While Instr goes on: the deck, the result's block, the instruction and the array. -/
structure InsS (D : Nat) (w : World) (Bi Bu : Nat) (op : Int) (x : Ins) (wx : World) : Prop where
  deck : Deck wx D
  grown : w.grownBy wx (some D)
  res : Blk wx w.heap.size (insRow ⟨0, 0, 0, 0, 0⟩)
  ins : Blk wx Bi (insRow x)
  us : Blk wx Bu [.bool (usA op), .bool (usB op), .bool (usC op), .bool (usI op)]
  hD : D < w.heap.size
  hi : w.heap.size < Bi
  hu : Bi < Bu

variable {D Bi Bu : Nat} {w wx w' : World} {op : Int} {x : Ins}

theorem InsS.draw (h : InsS D w Bi Bu op x wx) (hg : wx.grownBy w' (some D)) (hd : Deck w' D) : InsS D w Bi Bu op x w' := by
  have h1 := h.hD
  have h2 := h.hi
  have h3 := h.hu
  exact ⟨hd, grownBy_trans h.grown hg, h.res.kept hg (by simp; omega), h.ins.kept hg (by simp; omega), h.us.kept hg (by simp; omega), h1, h2, h3⟩

theorem InsS.put (h : InsS D w Bi Bu op x wx) (i : Nat) (v : Int) {x' : Ins} (hx : insRow x' = (insRow x).set i (.int .i64 v)) : InsS D w Bi Bu op x' (wx.setCell ⟨Bi, i, none⟩ (.int .i64 v)) := by
  have h1 := h.hD
  have h2 := h.hi
  have h3 := h.hu
  have hg := grownBy_cell wx Bi i (.int .i64 v)
  refine ⟨h.deck.kept hg (fun k hk => by cases hk; omega), grownBy_new h.grown (by omega) i _, h.res.kept hg (by simp; omega), ?_, h.us.kept hg (by simp; omega), h1, h2, h3⟩
  rw [hx]
  exact h.ins.put i _

/-- The call gives some valid instruction and writes to the deck alone. -/
def GivesIns (n most D : Nat) (w : World) (e : Ending) (w' : World) : Prop :=
  ∃ x : Ins, e = .returned (insV x) ∧ InsIn n most x ∧ Deck w' D ∧ w.grownBy w' (some D)

theorem ins_cells {W : World} {B : Nat} {x : Ins} (h : Blk W B (insRow x)) :
    W.cell? ⟨B, 0, none⟩ = some (.int .i64 x.op) ∧ W.cell? ⟨B, 1, none⟩ = some (.int .i64 x.a) ∧ W.cell? ⟨B, 2, none⟩ = some (.int .i64 x.b) ∧ W.cell? ⟨B, 3, none⟩ = some (.int .i64 x.c) ∧ W.cell? ⟨B, 4, none⟩ = some (.int .i64 x.imm) ∧
    W.frozen? ⟨B, 0, none⟩ = false ∧ W.frozen? ⟨B, 1, none⟩ = false ∧ W.frozen? ⟨B, 2, none⟩ = false ∧ W.frozen? ⟨B, 3, none⟩ = false ∧ W.frozen? ⟨B, 4, none⟩ = false :=
  ⟨(h 0 (by simp [insRow])).1, (h 1 (by simp [insRow])).1, (h 2 (by simp [insRow])).1, (h 3 (by simp [insRow])).1, (h 4 (by simp [insRow])).1, (h 0 (by simp [insRow])).2, (h 1 (by simp [insRow])).2, (h 2 (by simp [insRow])).2, (h 3 (by simp [insRow])).2, (h 4 (by simp [insRow])).2⟩

theorem us_cells {W : World} {B : Nat} {a b c d : Bool} (h : Blk W B [.bool a, .bool b, .bool c, .bool d]) :
    W.cell? ⟨B, 0, none⟩ = some (.bool a) ∧ W.cell? ⟨B, 1, none⟩ = some (.bool b) ∧ W.cell? ⟨B, 2, none⟩ = some (.bool c) ∧ W.cell? ⟨B, 3, none⟩ = some (.bool d) :=
  ⟨(h 0 (by simp)).1, (h 1 (by simp)).1, (h 2 (by simp)).1, (h 3 (by simp)).1⟩

set_option maxHeartbeats 2000000 in
theorem deck_Instr (D n most : Nat) (w : World) (hd : Deck w D) (hn1 : 1 ≤ n) (hn2 : n ≤ 4) (hm1 : 1 ≤ most) (hm2 : most ≤ 64) :
    Calls Try.prog 35 #[.pointer (some ⟨D, 0, none⟩), .int .i64 (n : Int), .int .i64 (most : Int)] w (GivesIns n most D w) := by
  have hDl := hd.lt
  have hN := Lib.hid (fun m W (h : Deck W D) (h1 : 1 ≤ m) (h2 : m ≤ 4000000000) => deck_Next D m W h h1 h2)
  have hWd := Lib.hid (fun W (h : Deck W D) => deck_Word D W h)
  have hU := Lib.hid (fun op W (h0 : 0 ≤ op) (h1 : op ≤ 24) => ref06_Uses op W h0 h1)
  have hJ := Lib.hid (fun op W => ref06_Jump op W)
  have hd0 := hd.kept (World.grownBy_alloc w (.cells #[.int .i64 0, .int .i64 0, .int .i64 0, .int .i64 0, .int .i64 0] 66) none) (fun k hk => by cases hk)
  have G0 := World.grownBy_alloc w (.cells #[.int .i64 0, .int .i64 0, .int .i64 0, .int .i64 0, .int .i64 0] 66) (some D)
  have b0 := Blk.new (W := w) #[.int .i64 0, .int .i64 0, .int .i64 0, .int .i64 0, .int .i64 0] 66
  go_enter Try.func35, Try.ntmps35
  go_wp2_with fail
  refine (hN.out 25 _ hd0 (by omega) (by omega)).mono ?_
  rintro e w1 ⟨q, hq, rfl, hd1, hg1⟩
  have hw1 : w.heap.size + 1 ≤ w1.heap.size := by have := hg1.size; simpa using this
  have A1 := World.grownBy_alloc w1 (.cells #[.int .i64 (q : Int), .int .i64 0, .int .i64 0, .int .i64 0, .int .i64 0] 66)
  have b1 := (b0.kept hg1 (by simp; omega)).kept (A1 none) (by simp)
  have d1 := hd1.kept (A1 none) (fun k hk => by cases hk)
  have G1 := grownBy_trans (grownBy_trans G0 hg1) (A1 (some D))
  have i1 := Blk.new (W := w1) #[.int .i64 (q : Int), .int .i64 0, .int .i64 0, .int .i64 0, .int .i64 0] 66
  have i1q : (w1.alloc (.cells #[.int .i64 (q : Int), .int .i64 0, .int .i64 0, .int .i64 0, .int .i64 0] 66)).cell? ⟨w1.heap.size, 0, none⟩ = some (.int .i64 (q : Int)) := (i1 0 (by simp)).1
  have hs1 : (w1.alloc (.cells #[.int .i64 (q : Int), .int .i64 0, .int .i64 0, .int .i64 0, .int .i64 0] 66)).heap.size = w1.heap.size + 1 := by simp
  clear hd0 G0 b0 hd1 hg1 A1
  go_upto_region 2 with fail
  generalize w1.alloc (.cells #[.int .i64 (q : Int), .int .i64 0, .int .i64 0, .int .i64 0, .int .i64 0] 66) = W1 at *
  generalize w1.heap.size = Bi at *
  go_wp2_with fail
  refine (hU.out (q : Int) _ (by omega) (by omega)).mono ?_
  rintro e w2 ⟨rfl, hb2⟩
  unfold usV
  have A2 := World.grownBy_alloc w2 (.cells #[.bool (usA (q : Int)), .bool (usB (q : Int)), .bool (usC (q : Int)), .bool (usI (q : Int))] 133)
  have S0 : InsS D w Bi w2.heap.size (q : Int) ⟨(q : Int), 0, 0, 0, 0⟩ (w2.alloc (.cells #[.bool (usA (q : Int)), .bool (usB (q : Int)), .bool (usC (q : Int)), .bool (usI (q : Int))] 133)) :=
    ⟨(d1.kept (grownBy_below hb2 rfl none) (fun k hk => by cases hk)).kept (A2 none) (fun k hk => by cases hk), grownBy_trans (grownBy_trans G1 (grownBy_below hb2 rfl (some D))) (A2 (some D)), (b1.later hb2).kept (A2 none) (by simp), (i1.later hb2).kept (A2 none) (by simp), Blk.new _ _, hDl, by omega, by have := hb2.size; omega⟩
  clear A2 d1 b1 i1 i1q G1 hb2 hs1 hU
  go_upto_region 3 with fail
  generalize w2.alloc (.cells #[.bool (usA (q : Int)), .bool (usB (q : Int)), .bool (usC (q : Int)), .bool (usI (q : Int))] 133) = W2 at *
  generalize w2.heap.size = Bu at *
  have u0 := us_cells S0.us
  obtain ⟨u0, _, _, _⟩ := u0
  go_upto_if 16 with fail
  go_cut [17] (fun _ wx => ∃ x, InsS D w Bi Bu (q : Int) x wx ∧ x.op = (q : Int) ∧ (0 ≤ x.a ∧ x.a < 8) ∧ (usA (q : Int) = false → x.a = 0) ∧ x.b = 0 ∧ x.c = 0 ∧ x.imm = 0)
  case first =>
    clear u0
    cases hA : usA (q : Int) with
    | true =>
      go_wp2_with fail
      refine (hN.out 8 _ S0.deck (by omega) (by omega)).mono ?_
      rintro e w3 ⟨y, hy, rfl, hd3, hg3⟩
      have S1 := S0.draw hg3 hd3
      obtain ⟨e0, e1, e2, e3, e4, f0, f1, f2, f3, f4⟩ := ins_cells S1.ins
      have HS := Lib.hid (S1.put 1 (y : Int) (x' := ⟨(q : Int), (y : Int), 0, 0, 0⟩) rfl)
      clear S0 S1 hg3 hd3
      go_wp2
      go_meet
      exact ⟨_, HS.out, rfl, by show 0 ≤ (y : Int) ∧ (y : Int) < 8; omega, (fun h => absurd (h.symm.trans hA) (by simp)), rfl, rfl, rfl⟩
    | false =>
      have HS := Lib.hid S0
      clear S0
      go_wp2
      go_meet
      exact ⟨_, HS.out, rfl, by simp, fun _ => rfl, rfl, rfl, rfl⟩
  case rest =>
  obtain ⟨x, S1, hop, ha, hA, hb0, hc0, hi0⟩ := hcut
  obtain ⟨op1, a1, b1, c1, m1⟩ := x
  obtain rfl : op1 = (q : Int) := hop
  obtain rfl : b1 = 0 := hb0
  obtain rfl : c1 = 0 := hc0
  obtain rfl : m1 = 0 := hi0
  replace ha : 0 ≤ a1 ∧ a1 < 8 := ha
  replace hA : usA (q : Int) = false → a1 = 0 := hA
  have HA := Lib.hid hA
  clear S0 u0 hA
  have u1 := us_cells S1.us
  obtain ⟨_, u1, _, _⟩ := u1
  go_upto_if 21 with fail
  go_cut [22] (fun _ wx => ∃ b, InsS D w Bi Bu (q : Int) ⟨(q : Int), a1, b, 0, 0⟩ wx ∧ (0 ≤ b ∧ b < 8) ∧ (usB (q : Int) = false → b = 0))
  case first =>
    clear u1
    cases hA : usB (q : Int) with
    | true =>
      go_wp2_with fail
      refine (hN.out 8 _ S1.deck (by omega) (by omega)).mono ?_
      rintro e w3 ⟨y, hy, rfl, hd3, hg3⟩
      have S2 := S1.draw hg3 hd3
      obtain ⟨e0, e1, e2, e3, e4, f0, f1, f2, f3, f4⟩ := ins_cells S2.ins
      have HS := Lib.hid (S2.put 2 (y : Int) (x' := ⟨(q : Int), a1, (y : Int), 0, 0⟩) rfl)
      clear S1 S2 hg3 hd3
      go_wp2
      go_meet
      exact ⟨_, HS.out, by omega, (fun h => absurd (h.symm.trans hA) (by simp))⟩
    | false =>
      have HS := Lib.hid S1
      clear S1
      go_wp2
      go_meet
      exact ⟨_, HS.out, by omega, fun _ => rfl⟩
  case rest =>
  obtain ⟨b1, S2, hb, hB⟩ := hcut
  have HB := Lib.hid hB
  clear S1 u1 hB
  have u2 := us_cells S2.us
  obtain ⟨_, _, u2, _⟩ := u2
  go_upto_if 26 with fail
  go_cut [27] (fun _ wx => ∃ c, InsS D w Bi Bu (q : Int) ⟨(q : Int), a1, b1, c, 0⟩ wx ∧ (0 ≤ c ∧ c < 8) ∧ (usC (q : Int) = false → c = 0))
  case first =>
    clear u2
    cases hA : usC (q : Int) with
    | true =>
      go_wp2_with fail
      refine (hN.out 8 _ S2.deck (by omega) (by omega)).mono ?_
      rintro e w3 ⟨y, hy, rfl, hd3, hg3⟩
      have S3 := S2.draw hg3 hd3
      obtain ⟨e0, e1, e2, e3, e4, f0, f1, f2, f3, f4⟩ := ins_cells S3.ins
      have HS := Lib.hid (S3.put 3 (y : Int) (x' := ⟨(q : Int), a1, b1, (y : Int), 0⟩) rfl)
      clear S2 S3 hg3 hd3
      go_wp2
      go_meet
      exact ⟨_, HS.out, by omega, (fun h => absurd (h.symm.trans hA) (by simp))⟩
    | false =>
      have HS := Lib.hid S2
      clear S2
      go_wp2
      go_meet
      exact ⟨_, HS.out, by omega, fun _ => rfl⟩
  case rest =>
  obtain ⟨c1, S3, hc, hC⟩ := hcut
  have HC := Lib.hid hC
  clear S2 u2 hC
  have u3 := us_cells S3.us
  obtain ⟨_, _, _, u3⟩ := u3
  have i0 := (ins_cells S3.ins).1
  go_upto_block 0 with fail
  go_cut [30, 38, 46, 53] (fun _ _ _ _ wx => ∃ m, InsS D w Bi Bu (q : Int) ⟨(q : Int), a1, b1, c1, m⟩ wx ∧ (0 ≤ m ∧ m ≤ 65535) ∧ (usI (q : Int) = false → m = 0) ∧ (jumpB (q : Int) = true → m < (most : Int)) ∧ ((q : Int) = 15 → m < (n : Int)) ∧ ((q : Int) = 23 → m ≤ 15))
  case first =>
    go_wp2_with fail
    refine (hJ.out (q : Int) _).mono ?_
    rintro e w' ⟨rfl, rfl⟩
    cases hjj : jumpB (q : Int) with
    | true =>
      have hI : usI (q : Int) = true := by
        unfold jumpB at hjj; unfold usI
        have := of_decide_eq_true hjj
        exact decide_eq_true (by omega)
      have h15 : (q : Int) ≠ 15 := by have := of_decide_eq_true hjj; omega
      have h23 : (q : Int) ≠ 23 := by have := of_decide_eq_true hjj; omega
      go_wp2_with fail
      refine (hN.out (most : Int) _ S3.deck (by omega) (by omega)).mono ?_
      rintro e w3 ⟨y, hy, rfl, hd3, hg3⟩
      have S4 := S3.draw hg3 hd3
      obtain ⟨e0, e1, e2, e3, e4, f0, f1, f2, f3, f4⟩ := ins_cells S4.ins
      have HS := Lib.hid (S4.put 4 (y : Int) (x' := ⟨(q : Int), a1, b1, c1, (y : Int)⟩) rfl)
      clear S3 S4 hg3 hd3
      go_wp2
      go_meet
      exact ⟨_, HS.out, by omega, (fun h => absurd (h.symm.trans hI) (by simp)), (fun _ => by omega), (fun h => absurd h h15), (fun h => absurd h h23)⟩
    | false =>
      by_cases h15 : q = 15
      · subst h15
        go_wp2_with fail
        refine (hN.out (n : Int) _ S3.deck (by omega) (by omega)).mono ?_
        rintro e w3 ⟨y, hy, rfl, hd3, hg3⟩
        have S4 := S3.draw hg3 hd3
        obtain ⟨e0, e1, e2, e3, e4, f0, f1, f2, f3, f4⟩ := ins_cells S4.ins
        have HS := Lib.hid (S4.put 4 (y : Int) (x' := ⟨((15 : Nat) : Int), a1, b1, c1, (y : Int)⟩) rfl)
        clear S3 S4 hg3 hd3
        go_wp2
        go_meet
        exact ⟨_, HS.out, by omega, (fun h => by simp [usI] at h), (fun h => absurd (h.symm.trans hjj) (by simp)), (fun _ => by omega), (fun h => by simp at h)⟩
      · have g15 : ((q : Int) == 15) = false := by rw [beq_eq_false_iff_ne]; omega
        by_cases h23 : q = 23
        · subst h23
          go_wp2_with fail
          refine (hN.out 16 _ S3.deck (by omega) (by omega)).mono ?_
          rintro e w3 ⟨y, hy, rfl, hd3, hg3⟩
          have S4 := S3.draw hg3 hd3
          obtain ⟨e0, e1, e2, e3, e4, f0, f1, f2, f3, f4⟩ := ins_cells S4.ins
          have HS := Lib.hid (S4.put 4 (y : Int) (x' := ⟨((23 : Nat) : Int), a1, b1, c1, (y : Int)⟩) rfl)
          clear S3 S4 hg3 hd3
          go_wp2
          go_meet
          exact ⟨_, HS.out, by omega, (fun h => by simp [usI] at h), (fun h => absurd (h.symm.trans hjj) (by simp)), (fun h => by simp at h), (fun _ => by omega)⟩
        · have g23 : ((q : Int) == 23) = false := by rw [beq_eq_false_iff_ne]; omega
          cases hI : usI (q : Int) with
          | true =>
            rw [hI] at u3
            go_wp2_with fail
            refine (hWd.out _ S3.deck).mono ?_
            rintro e w3 ⟨y, hy, rfl, hd3, hg3⟩
            have S4 := S3.draw hg3 hd3
            obtain ⟨e0, e1, e2, e3, e4, f0, f1, f2, f3, f4⟩ := ins_cells S4.ins
            have HS := Lib.hid (S4.put 4 (y : Int) (x' := ⟨(q : Int), a1, b1, c1, (y : Int)⟩) rfl)
            clear S3 S4 hg3 hd3
            go_wp2
            go_meet
            exact ⟨_, HS.out, by omega, (fun h => absurd (h.symm.trans hI) (by simp)), (fun h => absurd (h.symm.trans hjj) (by simp)), (fun h => absurd h (by omega)), (fun h => absurd h (by omega))⟩
          | false =>
            rw [hI] at u3
            have HS := Lib.hid S3
            clear S3
            go_wp2
            go_meet
            exact ⟨_, HS.out, by omega, (fun _ => rfl), (fun h => absurd (h.symm.trans hjj) (by simp)), (fun h => absurd h (by omega)), (fun h => absurd h (by omega))⟩
  case rest =>
  obtain ⟨m1, S4, hm, hM, hM1, hM2, hM3⟩ := hcut
  have HP : Hid (InsIn n most ⟨(q : Int), a1, b1, c1, m1⟩) := Lib.hid ⟨by show 0 ≤ (q : Int); omega, by show (q : Int) ≤ 24; omega, ha.1, ha.2, hb.1, hb.2, hc.1, hc.2, hm.1, hm.2, HA.out, HB.out, HC.out, hM, hM1, hM2, hM3⟩
  obtain ⟨e0, e1, e2, e3, e4, f0, f1, f2, f3, f4⟩ := ins_cells S4.ins
  obtain ⟨k0, k1, k2, k3, k4, g0, g1, g2, g3, g4⟩ := ins_cells S4.res
  have HG := Lib.hid (grownBy_new (grownBy_new (grownBy_new (grownBy_new (grownBy_new S4.grown (Nat.le_refl _) 0 (.int .i64 (q : Int))) (Nat.le_refl _) 1 (.int .i64 a1)) (Nat.le_refl _) 2 (.int .i64 b1)) (Nat.le_refl _) 3 (.int .i64 c1)) (Nat.le_refl _) 4 (.int .i64 m1))
  have hk : ∀ k, some w.heap.size = some k → D < k := fun k hk => by cases hk; exact hDl
  have HD := Lib.hid (((((S4.deck.kept (grownBy_cell _ w.heap.size 0 (.int .i64 (q : Int))) hk).kept (grownBy_cell _ w.heap.size 1 (.int .i64 a1)) hk).kept (grownBy_cell _ w.heap.size 2 (.int .i64 b1)) hk).kept (grownBy_cell _ w.heap.size 3 (.int .i64 c1)) hk).kept (grownBy_cell _ w.heap.size 4 (.int .i64 m1)) hk)
  clear S4 S3 HA HB HC hM hM1 hM2 hM3 u3 i0
  go_wp2
  refine bodyPost_ret (v := insV ⟨(q : Int), a1, b1, c1, m1⟩) (by simp [results, Try.results35, go_sem, insV, k0, k1, k2, k3, k4]) rfl ⟨_, rfl, HP.out, HD.out, HG.out⟩
end Go.Proofs.Ythajndgljfbifaa
