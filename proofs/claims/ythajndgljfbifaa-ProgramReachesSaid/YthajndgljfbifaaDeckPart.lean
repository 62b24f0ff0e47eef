/-
  Contract of the deck: part.
-/
import Derived.Test.YthajndgljfbifaaPartS
import Derived.Deep.RegionWith
namespace Go.Proofs.Ythajndgljfbifaa
open Go.RowKit
set_option maxRecDepth 100000

set_option maxHeartbeats 40000000 in
set_option maxRecDepth 100000 in
theorem deck_part (D : Nat) (a2 : Option Addr) (s : List Nat) (c2 at_ : Nat) (w : World) (hd : Deck w D) (hz : Sz s) (hs : NatsFrom (D + 1) .i64 w a2 s) (hat : at_ ≤ 62) :
    Calls Try.prog 40 #[.pointer (some ⟨D, 0, none⟩), .slice a2 s.length c2, .int .i64 ((at_ + 1 : Nat) : Int), .int .i64 (at_ : Int)] w (GivesPart s.length at_ D w) := by
  obtain ⟨i0, hi, hz0, hz1, hz2⟩ := info_parts info_instr
  have hDl := hd.lt
  have hl1 := hz.1
  have hl4 := hz.2.1
  have hN := Lib.hid (fun m W (h : Deck W D) (h1 : 1 ≤ m) (h2 : m ≤ 4000000000) => deck_Next D m W h h1 h2)
  have hWd := Lib.hid (fun W (h : Deck W D) => deck_Word D W h)
  have hI := Lib.hid (fun W (h : Deck W D) => deck_Instr D s.length (at_ + 1) W h hl1 hl4 (by omega) (by omega))
  have hLi : Hid (∀ r n W, Calls Try.prog 41 #[.int .i64 r, .int .i64 n] W fun e w' => e = .returned (.agg #[.int .i64 1, .int .i64 r, .int .i64 0, .int .i64 0, .int .i64 n]) ∧ Below W.heap.size W w') := Lib.hid make_li
  have hMov : Hid (∀ r n W, Calls Try.prog 82 #[.int .i64 r, .int .i64 n] W fun e w' => e = .returned (.agg #[.int .i64 2, .int .i64 r, .int .i64 n, .int .i64 0, .int .i64 0]) ∧ Below W.heap.size W w') := Lib.hid make_mov
  have hSys : Hid (∀ n W, Calls Try.prog 42 #[.int .i64 n] W fun e w' => e = .returned (.agg #[.int .i64 23, .int .i64 0, .int .i64 0, .int .i64 0, .int .i64 n]) ∧ Below W.heap.size W w') := Lib.hid make_sys
  go_enter Try.func40, Try.ntmps40
  go_wp2_with fail
  refine (hN.out ((s.length : Nat) : Int) _ hd (by omega) (by omega)).mono ?_
  rintro e w1 ⟨r, hr, rfl, hd1, hg1⟩
  have hr0 : ∀ d, some D = some d → d < D + 1 := fun d hd => by cases hd; omega
  have hs1 := hs.kept hg1 hr0
  have hrs : r < s.length := by omega
  have hy := hz.2.2 _ (List.getElem_mem hrs)
  obtain ⟨b, off, rfl, hc⟩ := hs.at.some hrs
  have cr : ∀ W, w.grownBy W (some D) → W.cell? ⟨b, off + r, none⟩ = some (.int .i64 ((s[r] : Nat) : Int)) := fun W hg => by
    rcases hs.kept hg hr0 with h0 | ⟨b', off', ha', _, hc'⟩
    · rw [h0] at hrs; simp at hrs
    · cases ha'; exact hc' r hrs
  have CR := Lib.hid cr
  have c1 := cr _ hg1
  have i1 : (r : Int) < ((s.length : Nat) : Int) := by omega
  have i2 : 0 ≤ (r : Int) := by omega
  clear hc cr hs1 hs hd
  generalize s[r] = y at *
  have hmin : (5 ≤ (y : Int) + 1) ∨ ((y : Int) + 1 < 5) := by omega
  go_upto_region 2 with fail
  go_cut [10] (fun v wx => ∃ n5 : Nat, n5 ≤ 4 ∧ v = .int .i64 (n5 : Int) ∧ Deck wx D ∧ w.grownBy wx (some D))
  case first =>
    rcases hmin with hm | hm
    · go_wp2_with fail
      refine (hN.out 5 _ hd1 (by omega) (by omega)).mono ?_
      rintro e w2 ⟨n5, hn5, rfl, hd2, hg2⟩
      have HG := Lib.hid (grownBy_trans hg1 hg2)
      go_wp2
      go_meet
      exact ⟨n5, by omega, rfl, hd2, HG.out⟩
    · go_wp2_with fail
      refine (hN.out ((y : Int) + 1) _ hd1 (by omega) (by omega)).mono ?_
      rintro e w2 ⟨n5, hn5, rfl, hd2, hg2⟩
      have HG := Lib.hid (grownBy_trans hg1 hg2)
      go_wp2
      go_meet
      exact ⟨n5, by omega, rfl, hd2, HG.out⟩
  case rest =>
  obtain ⟨n5, hn5, rfl, hd2, hg2⟩ := hcut
  clear hd1 hg1 c1 hmin
  go_wp2_with fail
  refine (hLi.out 2 (n5 : Int) _).mono ?_
  rintro e w3 ⟨rfl, hb3⟩
  have hs3 : w.heap.size ≤ w3.heap.size := Nat.le_trans hg2.size hb3.size
  have K0 : PartS D w w3.heap.size [⟨15, 1, 0, 0, (r : Int)⟩, ⟨1, 2, 0, 0, (n5 : Int)⟩] (w3.alloc (.cells #[.int .i64 15, .int .i64 1, .int .i64 0, .int .i64 0, .int .i64 (r : Int), .int .i64 1, .int .i64 2, .int .i64 0, .int .i64 0, .int .i64 (n5 : Int)] 66)) := by
    have A := World.grownBy_alloc w3 (.cells #[.int .i64 15, .int .i64 1, .int .i64 0, .int .i64 0, .int .i64 (r : Int), .int .i64 1, .int .i64 2, .int .i64 0, .int .i64 0, .int .i64 (n5 : Int)] 66)
    exact ⟨(hd2.kept (grownBy_below hb3 rfl none) (fun k hk => by cases hk)).kept (A none) (fun k hk => by cases hk), grownBy_trans (grownBy_trans hg2 (grownBy_below hb3 rfl (some D))) (A (some D)), Blk.new _ _, hDl, hs3⟩
  clear hd2 hg2 hb3
  go_upto_region 4 with fail
  generalize w3.alloc (.cells #[.int .i64 15, .int .i64 1, .int .i64 0, .int .i64 0, .int .i64 (r : Int), .int .i64 1, .int .i64 2, .int .i64 0, .int .i64 0, .int .i64 (n5 : Int)] 66) = W0 at *
  generalize w3.heap.size = Bb at *
  go_wp2_with fail
  refine (hN.out 20 _ K0.deck (by omega) (by omega)).mono ?_
  rintro e W1 ⟨q, hq, rfl, hd1, hg1⟩
  have K := K0.draw hg1 hd1
  clear K0 hd1 hg1
  have hq20 : q = 0 ∨ q = 1 ∨ q = 2 ∨ q = 3 ∨ q = 4 ∨ q = 5 ∨ q = 6 ∨ q = 7 ∨ q = 8 ∨ q = 9 ∨ q = 10 ∨ q = 11 ∨ q = 12 ∨ q = 13 ∨ q = 14 ∨ q = 15 ∨ q = 16 ∨ q = 17 ∨ q = 18 ∨ q = 19 := by omega
  clear hq
  rcases hq20 with rfl | rfl | rfl | rfl | rfl | rfl | rfl | rfl | rfl | rfl | rfl | rfl | rfl | rfl | rfl | rfl | rfl | rfl | rfl | rfl
  · -- 0
    go_wp2_with fail
    refine (hN.out (3) _ K.deck (by omega) (by omega)).mono ?_
    rintro e W2 ⟨u, hu, rfl, hd2, hg2⟩
    have K := K.draw hg2 hd2
    go_wp2_with fail
    refine (hWd.out _ K.deck).mono ?_
    rintro e W3 ⟨v, hv, rfl, hd3, hg3⟩
    have K := K.draw hg3 hd3
    go_wp2_with fail
    refine (hLi.out _ _ _).mono ?_
    rintro e W4 ⟨rfl, hb4⟩
    have K := K.later hb4
    have HG := Lib.hid (part_lit K [⟨1, (3 + (u : Int)), 0, 0, (v : Int)⟩] #[.int .i64 1, .int .i64 (3 + (u : Int)), .int .i64 0, .int .i64 0, .int .i64 (v : Int)] rfl (n := s.length) (at_ := at_) (by simp) (by simp) (all_one (ins_li (by omega) (by omega))) 66)
    clear K hd2 hg2 hd3 hg3 hb4
    go_wp2
    go_ret
    exact HG.out
  · -- 1
    have KB : PartS D w Bb [⟨15, 1, 0, 0, (r : Int)⟩, ⟨1, 2, 0, 0, (n5 : Int)⟩] W1.drew := K.draw (grownBy_drewN _ (some D) 1) (K.deck.kept (grownBy_drewN _ none 1) (fun k hk => by cases hk))
    have hA0 := (K.new (.cells #[.int .i64 3, .int .i64 4, .int .i64 5, .int .i64 10, .int .i64 13, .int .i64 14, .int .i64 11, .int .i64 9] 3))
    have KA : PartS D w Bb [⟨15, 1, 0, 0, (r : Int)⟩, ⟨1, 2, 0, 0, (n5 : Int)⟩] (W1.alloc (.cells #[.int .i64 3, .int .i64 4, .int .i64 5, .int .i64 10, .int .i64 13, .int .i64 14, .int .i64 11, .int .i64 9] 3)).drew := hA0.draw (grownBy_drewN _ (some D) 1) (hA0.deck.kept (grownBy_drewN _ none 1) (fun k hk => by cases hk))
    have hne1 : some W1.heap.size ≠ some D := by have := K.size; have := K.hD; simp; omega
    clear hA0
    go_wp2_with fail
    go_region_with (first
      | (go_at_call 36; (with_reducible refine (hN.out 3 _ K3.deck (by omega) (by omega)).mono ?_); rintro e W5 ⟨v3, hv3, rfl, hd5, hg5⟩; have K4 := K3.draw hg5 hd5; (try have cT := hg5.cell cT hT))
      | (go_at_call 36; (with_reducible refine (hN.out 3 _ (K3.new (.cells #[.int .i64 3, .int .i64 4, .int .i64 5, .int .i64 10, .int .i64 13, .int .i64 14, .int .i64 11, .int .i64 9] 3)).deck (by omega) (by omega)).mono ?_); rintro e W5 ⟨v3, hv3, rfl, hd5, hg5⟩; have K4 := (K3.new _).draw hg5 hd5; have hT := K3.ne; have cT := hg5.cell (hAny W4) hT)
      | (go_at_call 36; (with_reducible refine (hN.out 3 _ K2.deck (by omega) (by omega)).mono ?_); rintro e W4 ⟨v2, hv2, rfl, hd4, hg4⟩; have K3 := K2.draw hg4 hd4; (try have cT := hg4.cell cT hT))
      | (go_at_call 36; (with_reducible refine (hN.out 3 _ (K2.new (.cells #[.int .i64 3, .int .i64 4, .int .i64 5, .int .i64 10, .int .i64 13, .int .i64 14, .int .i64 11, .int .i64 9] 3)).deck (by omega) (by omega)).mono ?_); rintro e W4 ⟨v2, hv2, rfl, hd4, hg4⟩; have K3 := (K2.new _).draw hg4 hd4; have hT := K2.ne; have cT := hg4.cell (hAny W3) hT)
      | (go_at_call 36; (with_reducible refine (hN.out 3 _ K1.deck (by omega) (by omega)).mono ?_); rintro e W3 ⟨v1, hv1, rfl, hd3, hg3⟩; have K2 := K1.draw hg3 hd3; (try have cT := hg3.cell cT hT))
      | (go_at_call 36; (with_reducible refine (hN.out 3 _ (K1.new (.cells #[.int .i64 3, .int .i64 4, .int .i64 5, .int .i64 10, .int .i64 13, .int .i64 14, .int .i64 11, .int .i64 9] 3)).deck (by omega) (by omega)).mono ?_); rintro e W3 ⟨v1, hv1, rfl, hd3, hg3⟩; have K2 := (K1.new _).draw hg3 hd3; have hT := K1.ne; have cT := hg3.cell (hAny W2) hT)
      | (go_at_call 36; (with_reducible refine (hN.out 8 _ KA.deck (by omega) (by omega)).mono ?_); rintro e W2 ⟨u, hu, rfl, hd2, hg2⟩; have K1 := KA.draw hg2 hd2; obtain ⟨x, hx, hAny⟩ := tab_any #[.int .i64 3, .int .i64 4, .int .i64 5, .int .i64 10, .int .i64 13, .int .i64 14, .int .i64 11, .int .i64 9] [3, 4, 5, 10, 13, 14, 11, 9] rfl 3 (i := u) (by simp; omega); have hT := hne1; have cT := hg2.cell (hAny W1) hT)
      | (go_at_call 36; (with_reducible refine (hN.out 8 _ KB.deck (by omega) (by omega)).mono ?_); rintro e W2 ⟨u, hu, rfl, hd2, hg2⟩; have K1 := KB.draw hg2 hd2; obtain ⟨x, hx, hAny⟩ := tab_any #[.int .i64 3, .int .i64 4, .int .i64 5, .int .i64 10, .int .i64 13, .int .i64 14, .int .i64 11, .int .i64 9] [3, 4, 5, 10, 13, 14, 11, 9] rfl 3 (i := u) (by simp; omega)))
    all_goals
      have hxr : 3 ≤ x ∧ x ≤ 14 := by simp at hx; omega
      have hq1 : IntKind.i64.wrap (3 + (v1 : Int)) = 3 + (v1 : Int) := IntWalk.i64_in _ (by omega)
      have hq2 : IntKind.i64.wrap (3 + (v2 : Int)) = 3 + (v2 : Int) := IntWalk.i64_in _ (by omega)
      have hq3 : IntKind.i64.wrap (3 + (v3 : Int)) = 3 + (v3 : Int) := IntWalk.i64_in _ (by omega)
      have HA := Lib.hid (part_lit K4 [⟨x, IntKind.i64.wrap (3 + (v1 : Int)), IntKind.i64.wrap (3 + (v2 : Int)), IntKind.i64.wrap (3 + (v3 : Int)), 0⟩] #[.int .i64 x, .int .i64 (IntKind.i64.wrap (3 + (v1 : Int))), .int .i64 (IntKind.i64.wrap (3 + (v2 : Int))), .int .i64 (IntKind.i64.wrap (3 + (v3 : Int))), .int .i64 0] rfl (n := s.length) (at_ := at_) (by simp) (by simp) (all_one (ins_three (by omega) (by omega) (by omega) (by omega))) 66)
      have HB := Lib.hid (part_lit (K4.new (.cells #[.int .i64 3, .int .i64 4, .int .i64 5, .int .i64 10, .int .i64 13, .int .i64 14, .int .i64 11, .int .i64 9] 3)) [⟨x, IntKind.i64.wrap (3 + (v1 : Int)), IntKind.i64.wrap (3 + (v2 : Int)), IntKind.i64.wrap (3 + (v3 : Int)), 0⟩] #[.int .i64 x, .int .i64 (IntKind.i64.wrap (3 + (v1 : Int))), .int .i64 (IntKind.i64.wrap (3 + (v2 : Int))), .int .i64 (IntKind.i64.wrap (3 + (v3 : Int))), .int .i64 0] rfl (n := s.length) (at_ := at_) (by simp) (by simp) (all_one (ins_three (by omega) (by omega) (by omega) (by omega))) 66)
      have hszT : (W5.alloc (.cells #[.int .i64 3, .int .i64 4, .int .i64 5, .int .i64 10, .int .i64 13, .int .i64 14, .int .i64 11, .int .i64 9] 3)).heap.size = W5.heap.size + 1 := by simp
      rw [hszT] at HB
      clear hszT K K1 K2 K3 K4 KA KB hd2 hg2 hd3 hg3 hd4 hg4 hd5 hg5 hq1 hq2 hq3
      go_wp2
      go_ret
      first
        | exact HA.out
        | exact HB.out
  · -- 2
    have HG := Lib.hid (part_lit K [⟨15, 6, 0, 0, (r : Int)⟩] #[.int .i64 15, .int .i64 6, .int .i64 0, .int .i64 0, .int .i64 (r : Int)] rfl (n := s.length) (at_ := at_) (by simp) (by simp) (all_one (ins_lea (by omega) (by omega) hl4)) 66)
    clear K 
    go_wp2
    go_ret
    exact HG.out
  · -- 3
    have c1 := CR.out _ K.grown
    have Kd : PartS D w Bb [⟨15, 1, 0, 0, (r : Int)⟩, ⟨1, 2, 0, 0, (n5 : Int)⟩] W1.drew := K.draw (grownBy_drewN _ (some D) 1) (K.deck.kept (grownBy_drewN _ none 1) (fun k hk => by cases hk))
    have hy1 := hy.1
    have hy2 := hy.2
    go_wp2_with fail
    go_region_with (first
      | (go_at_call 36; (with_reducible refine (hN.out 5 _ Kd.deck (by omega) (by omega)).mono ?_); rintro e W2 ⟨u, hu, rfl, hd2, hg2⟩; have K2 := Kd.draw hg2 hd2; have c2 := CR.out _ K2.grown)
      | (go_at_call 36; (with_reducible refine (hN.out (y : Int) _ K2.deck (by omega) (by omega)).mono ?_); rintro e W3 ⟨v, hv, rfl, hd3, hg3⟩; have K3 := K2.draw hg3 hd3))
    all_goals
      have HG := Lib.hid (part_lit K3 [⟨15, 6, 0, 0, (r : Int)⟩, ⟨17, 6, (IntKind.i64.wrap (3 + (u : Int))), 0, (v : Int)⟩] #[.int .i64 15, .int .i64 6, .int .i64 0, .int .i64 0, .int .i64 (r : Int), .int .i64 17, .int .i64 6, .int .i64 (IntKind.i64.wrap (3 + (u : Int))), .int .i64 0, .int .i64 (v : Int)] rfl (n := s.length) (at_ := at_) (by simp) (by simp) (all_cons (ins_lea (by omega) (by omega) hl4) (all_one (ins_mem (by omega) (by first | omega | (rw [IntWalk.i64_in _ (by omega)]; omega)) (by first | omega | (rw [IntWalk.i64_in _ (by omega)]; omega)) (by omega)))) 66)
      clear K K2 K3 Kd hd2 hg2 hd3 hg3
      go_wp2
      go_ret
      exact HG.out
  · -- 4
    have c1 := CR.out _ K.grown
    have Kd : PartS D w Bb [⟨15, 1, 0, 0, (r : Int)⟩, ⟨1, 2, 0, 0, (n5 : Int)⟩] W1.drew := K.draw (grownBy_drewN _ (some D) 1) (K.deck.kept (grownBy_drewN _ none 1) (fun k hk => by cases hk))
    have hy1 := hy.1
    have hy2 := hy.2
    go_wp2_with fail
    go_region_with (first
      | (go_at_call 36; (with_reducible refine (hN.out 5 _ Kd.deck (by omega) (by omega)).mono ?_); rintro e W2 ⟨u, hu, rfl, hd2, hg2⟩; have K2 := Kd.draw hg2 hd2; have c2 := CR.out _ K2.grown)
      | (go_at_call 36; (with_reducible refine (hN.out (y : Int) _ K2.deck (by omega) (by omega)).mono ?_); rintro e W3 ⟨v, hv, rfl, hd3, hg3⟩; have K3 := K2.draw hg3 hd3))
    all_goals
      have HG := Lib.hid (part_lit K3 [⟨15, 6, 0, 0, (r : Int)⟩, ⟨17, 6, (IntKind.i64.wrap (3 + (u : Int))), 0, (v : Int)⟩] #[.int .i64 15, .int .i64 6, .int .i64 0, .int .i64 0, .int .i64 (r : Int), .int .i64 17, .int .i64 6, .int .i64 (IntKind.i64.wrap (3 + (u : Int))), .int .i64 0, .int .i64 (v : Int)] rfl (n := s.length) (at_ := at_) (by simp) (by simp) (all_cons (ins_lea (by omega) (by omega) hl4) (all_one (ins_mem (by omega) (by first | omega | (rw [IntWalk.i64_in _ (by omega)]; omega)) (by first | omega | (rw [IntWalk.i64_in _ (by omega)]; omega)) (by omega)))) 66)
      clear K K2 K3 Kd hd2 hg2 hd3 hg3
      go_wp2
      go_ret
      exact HG.out
  · -- 5
    have c1 := CR.out _ K.grown
    have Kd : PartS D w Bb [⟨15, 1, 0, 0, (r : Int)⟩, ⟨1, 2, 0, 0, (n5 : Int)⟩] W1.drew := K.draw (grownBy_drewN _ (some D) 1) (K.deck.kept (grownBy_drewN _ none 1) (fun k hk => by cases hk))
    have hy1 := hy.1
    have hy2 := hy.2
    go_wp2_with fail
    go_region_with (first
      | (go_at_call 36; (with_reducible refine (hN.out 4 _ Kd.deck (by omega) (by omega)).mono ?_); rintro e W2 ⟨u, hu, rfl, hd2, hg2⟩; have K2 := Kd.draw hg2 hd2; have c2 := CR.out _ K2.grown)
      | (go_at_call 36; (with_reducible refine (hN.out (y : Int) _ K2.deck (by omega) (by omega)).mono ?_); rintro e W3 ⟨v, hv, rfl, hd3, hg3⟩; have K3 := K2.draw hg3 hd3))
    all_goals
      have HG := Lib.hid (part_lit K3 [⟨15, 6, 0, 0, (r : Int)⟩, ⟨16, (IntKind.i64.wrap (3 + (u : Int))), 6, 0, (v : Int)⟩] #[.int .i64 15, .int .i64 6, .int .i64 0, .int .i64 0, .int .i64 (r : Int), .int .i64 16, .int .i64 (IntKind.i64.wrap (3 + (u : Int))), .int .i64 6, .int .i64 0, .int .i64 (v : Int)] rfl (n := s.length) (at_ := at_) (by simp) (by simp) (all_cons (ins_lea (by omega) (by omega) hl4) (all_one (ins_mem (by omega) (by first | omega | (rw [IntWalk.i64_in _ (by omega)]; omega)) (by first | omega | (rw [IntWalk.i64_in _ (by omega)]; omega)) (by omega)))) 66)
      clear K K2 K3 Kd hd2 hg2 hd3 hg3
      go_wp2
      go_ret
      exact HG.out
  · -- 6
    have c1 := CR.out _ K.grown
    have Kd : PartS D w Bb [⟨15, 1, 0, 0, (r : Int)⟩, ⟨1, 2, 0, 0, (n5 : Int)⟩] W1.drew := K.draw (grownBy_drewN _ (some D) 1) (K.deck.kept (grownBy_drewN _ none 1) (fun k hk => by cases hk))
    have hy1 := hy.1
    have hy2 := hy.2
    go_wp2_with fail
    go_region_with (first
      | (go_at_call 36; (with_reducible refine (hN.out 4 _ Kd.deck (by omega) (by omega)).mono ?_); rintro e W2 ⟨u, hu, rfl, hd2, hg2⟩; have K2 := Kd.draw hg2 hd2; have c2 := CR.out _ K2.grown)
      | (go_at_call 36; (with_reducible refine (hN.out (y : Int) _ K2.deck (by omega) (by omega)).mono ?_); rintro e W3 ⟨v, hv, rfl, hd3, hg3⟩; have K3 := K2.draw hg3 hd3))
    all_goals
      have HG := Lib.hid (part_lit K3 [⟨15, 6, 0, 0, (r : Int)⟩, ⟨16, (IntKind.i64.wrap (3 + (u : Int))), 6, 0, (v : Int)⟩] #[.int .i64 15, .int .i64 6, .int .i64 0, .int .i64 0, .int .i64 (r : Int), .int .i64 16, .int .i64 (IntKind.i64.wrap (3 + (u : Int))), .int .i64 6, .int .i64 0, .int .i64 (v : Int)] rfl (n := s.length) (at_ := at_) (by simp) (by simp) (all_cons (ins_lea (by omega) (by omega) hl4) (all_one (ins_mem (by omega) (by first | omega | (rw [IntWalk.i64_in _ (by omega)]; omega)) (by first | omega | (rw [IntWalk.i64_in _ (by omega)]; omega)) (by omega)))) 66)
      clear K K2 K3 Kd hd2 hg2 hd3 hg3
      go_wp2
      go_ret
      exact HG.out
  · -- 7
    go_wp2_with fail
    refine (hN.out (3) _ K.deck (by omega) (by omega)).mono ?_
    rintro e W2 ⟨u, hu, rfl, hd2, hg2⟩
    have K := K.draw hg2 hd2
    go_wp2_with fail
    refine (hLi.out _ _ _).mono ?_
    rintro e W3 ⟨rfl, hb3⟩
    have K := K.later hb3
    have hBb := K.cells.lt (by simp [insRows, insRow])
    have own := World.ownsRow_lit (base := Bb + 1) (e := 66) (size := 5) W3 #[.int .i64 1, .int .i64 0, .int .i64 0, .int .i64 0, .int .i64 (u : Int)] 1 (by omega) (by unfold maxLen; omega) rfl
    have K := K.new (.cells #[.int .i64 1, .int .i64 0, .int .i64 0, .int .i64 0, .int .i64 (u : Int)] 66)
    go_wp2_with (first
      | (at_builtin; refine wpList_append_own _ rfl _ _ 22 rfl (Bb + 1) 66 i0 (.agg #[.int .i64 0, .int .i64 0, .int .i64 0, .int .i64 0, .int .i64 0]) 5 40 Try.underlying22 hi hz0 hz1 hz2 rfl (by decide) _ _ _ rfl own ⟨Bb, 0, none⟩ 2 2 (insRows [⟨15, 1, 0, 0, (r : Int)⟩, ⟨1, 2, 0, 0, (n5 : Int)⟩]).flatten rfl rfl ?c1 ?c2 ?c3 ?c4 ?c5 ?_))
    case c1 => exact K.cells.news
    case c2 => simp [Value.oneCell', insRows, insRow]
    case c3 => unfold maxLen; omega
    case c4 => omega
    case c5 => have := K.cells.lt (by simp [insRows, insRow]); omega
    intro v4 W4 hown4 hgrow4 _h4
    have K := K.own hgrow4 (fun b hb => by have := (own.lt b hb).1; omega)
    have own := hown4
    clear hown4 hgrow4 _h4
    go_wp2_with fail
    refine (hSys.out _ _).mono ?_
    rintro e W5 ⟨rfl, hb5⟩
    have K := K.later hb5
    have own := own.kept (grownBy_below hb5 rfl none) (Classical.em _)
    have K := K.new (.cells #[.int .i64 23, .int .i64 0, .int .i64 0, .int .i64 0, .int .i64 13] 66)
    have own := own.alloc (.cells #[.int .i64 23, .int .i64 0, .int .i64 0, .int .i64 0, .int .i64 13] 66)
    go_wp2_with (first
      | (at_builtin; refine wpList_append_own _ rfl _ _ 22 rfl (Bb + 1) 66 i0 (.agg #[.int .i64 0, .int .i64 0, .int .i64 0, .int .i64 0, .int .i64 0]) 5 40 Try.underlying22 hi hz0 hz1 hz2 rfl (by decide) _ _ _ rfl own ⟨W5.heap.size, 0, none⟩ 1 1 [.int .i64 23, .int .i64 0, .int .i64 0, .int .i64 0, .int .i64 13] rfl rfl ?c1 ?c2 ?c3 ?c4 ?c5 ?_))
    case c1 => exact World.news_of_block (cs := #[.int .i64 23, .int .i64 0, .int .i64 0, .int .i64 0, .int .i64 13]) (t := 66) (fr := (0, 0)) (heap_alloc_new _ _)
    case c2 => simp [Value.oneCell']
    case c3 => unfold maxLen; omega
    case c4 => omega
    case c5 => have := K.cells.lt (by simp [insRows, insRow]); omega
    intro v6 W6 hown6 hgrow6 _h6
    have K := K.own hgrow6 (fun b hb => by have := (own.lt b hb).1; omega)
    have own := hown6
    clear hown6 hgrow6 _h6
    have HG := Lib.hid (part_own K (by have := K.hb; omega) [⟨1, 0, 0, 0, (u : Int)⟩, ⟨15, 1, 0, 0, (r : Int)⟩, ⟨1, 2, 0, 0, (n5 : Int)⟩, ⟨23, 0, 0, 0, 13⟩] (by simp [insRows, insRow]) own (n := s.length) (at_ := at_) (by simp) (by simp) (all_cons (ins_li (by omega) (by omega)) (all_cons (ins_lea (by omega) (by omega) hl4) (all_cons (ins_li (by omega) (by omega)) (all_one (ins_sys (by omega)))))))
    clear K own hd2 hg2 hb3 hb5
    go_wp2
    go_ret
    exact HG.out
  · -- 8
    go_wp2_with fail
    refine (hN.out (3) _ K.deck (by omega) (by omega)).mono ?_
    rintro e W2 ⟨u, hu, rfl, hd2, hg2⟩
    have K := K.draw hg2 hd2
    go_wp2_with fail
    refine (hLi.out _ _ _).mono ?_
    rintro e W3 ⟨rfl, hb3⟩
    have K := K.later hb3
    have hBb := K.cells.lt (by simp [insRows, insRow])
    have own := World.ownsRow_lit (base := Bb + 1) (e := 66) (size := 5) W3 #[.int .i64 1, .int .i64 0, .int .i64 0, .int .i64 0, .int .i64 (u : Int)] 1 (by omega) (by unfold maxLen; omega) rfl
    have K := K.new (.cells #[.int .i64 1, .int .i64 0, .int .i64 0, .int .i64 0, .int .i64 (u : Int)] 66)
    go_wp2_with (first
      | (at_builtin; refine wpList_append_own _ rfl _ _ 22 rfl (Bb + 1) 66 i0 (.agg #[.int .i64 0, .int .i64 0, .int .i64 0, .int .i64 0, .int .i64 0]) 5 40 Try.underlying22 hi hz0 hz1 hz2 rfl (by decide) _ _ _ rfl own ⟨Bb, 0, none⟩ 2 2 (insRows [⟨15, 1, 0, 0, (r : Int)⟩, ⟨1, 2, 0, 0, (n5 : Int)⟩]).flatten rfl rfl ?c1 ?c2 ?c3 ?c4 ?c5 ?_))
    case c1 => exact K.cells.news
    case c2 => simp [Value.oneCell', insRows, insRow]
    case c3 => unfold maxLen; omega
    case c4 => omega
    case c5 => have := K.cells.lt (by simp [insRows, insRow]); omega
    intro v4 W4 hown4 hgrow4 _h4
    have K := K.own hgrow4 (fun b hb => by have := (own.lt b hb).1; omega)
    have own := hown4
    clear hown4 hgrow4 _h4
    go_wp2_with fail
    refine (hSys.out _ _).mono ?_
    rintro e W5 ⟨rfl, hb5⟩
    have K := K.later hb5
    have own := own.kept (grownBy_below hb5 rfl none) (Classical.em _)
    have K := K.new (.cells #[.int .i64 23, .int .i64 0, .int .i64 0, .int .i64 0, .int .i64 13] 66)
    have own := own.alloc (.cells #[.int .i64 23, .int .i64 0, .int .i64 0, .int .i64 0, .int .i64 13] 66)
    go_wp2_with (first
      | (at_builtin; refine wpList_append_own _ rfl _ _ 22 rfl (Bb + 1) 66 i0 (.agg #[.int .i64 0, .int .i64 0, .int .i64 0, .int .i64 0, .int .i64 0]) 5 40 Try.underlying22 hi hz0 hz1 hz2 rfl (by decide) _ _ _ rfl own ⟨W5.heap.size, 0, none⟩ 1 1 [.int .i64 23, .int .i64 0, .int .i64 0, .int .i64 0, .int .i64 13] rfl rfl ?c1 ?c2 ?c3 ?c4 ?c5 ?_))
    case c1 => exact World.news_of_block (cs := #[.int .i64 23, .int .i64 0, .int .i64 0, .int .i64 0, .int .i64 13]) (t := 66) (fr := (0, 0)) (heap_alloc_new _ _)
    case c2 => simp [Value.oneCell']
    case c3 => unfold maxLen; omega
    case c4 => omega
    case c5 => have := K.cells.lt (by simp [insRows, insRow]); omega
    intro v6 W6 hown6 hgrow6 _h6
    have K := K.own hgrow6 (fun b hb => by have := (own.lt b hb).1; omega)
    have own := hown6
    clear hown6 hgrow6 _h6
    have HG := Lib.hid (part_own K (by have := K.hb; omega) [⟨1, 0, 0, 0, (u : Int)⟩, ⟨15, 1, 0, 0, (r : Int)⟩, ⟨1, 2, 0, 0, (n5 : Int)⟩, ⟨23, 0, 0, 0, 13⟩] (by simp [insRows, insRow]) own (n := s.length) (at_ := at_) (by simp) (by simp) (all_cons (ins_li (by omega) (by omega)) (all_cons (ins_lea (by omega) (by omega) hl4) (all_cons (ins_li (by omega) (by omega)) (all_one (ins_sys (by omega)))))))
    clear K own hd2 hg2 hb3 hb5
    go_wp2
    go_ret
    exact HG.out
  · -- 9
    go_wp2_with fail
    refine (hN.out (3) _ K.deck (by omega) (by omega)).mono ?_
    rintro e W2 ⟨u, hu, rfl, hd2, hg2⟩
    have K := K.draw hg2 hd2
    go_wp2_with fail
    refine (hLi.out _ _ _).mono ?_
    rintro e W3 ⟨rfl, hb3⟩
    have K := K.later hb3
    have hBb := K.cells.lt (by simp [insRows, insRow])
    have own := World.ownsRow_lit (base := Bb + 1) (e := 66) (size := 5) W3 #[.int .i64 1, .int .i64 0, .int .i64 0, .int .i64 0, .int .i64 (u : Int)] 1 (by omega) (by unfold maxLen; omega) rfl
    have K := K.new (.cells #[.int .i64 1, .int .i64 0, .int .i64 0, .int .i64 0, .int .i64 (u : Int)] 66)
    go_wp2_with (first
      | (at_builtin; refine wpList_append_own _ rfl _ _ 22 rfl (Bb + 1) 66 i0 (.agg #[.int .i64 0, .int .i64 0, .int .i64 0, .int .i64 0, .int .i64 0]) 5 40 Try.underlying22 hi hz0 hz1 hz2 rfl (by decide) _ _ _ rfl own ⟨Bb, 0, none⟩ 2 2 (insRows [⟨15, 1, 0, 0, (r : Int)⟩, ⟨1, 2, 0, 0, (n5 : Int)⟩]).flatten rfl rfl ?c1 ?c2 ?c3 ?c4 ?c5 ?_))
    case c1 => exact K.cells.news
    case c2 => simp [Value.oneCell', insRows, insRow]
    case c3 => unfold maxLen; omega
    case c4 => omega
    case c5 => have := K.cells.lt (by simp [insRows, insRow]); omega
    intro v4 W4 hown4 hgrow4 _h4
    have K := K.own hgrow4 (fun b hb => by have := (own.lt b hb).1; omega)
    have own := hown4
    clear hown4 hgrow4 _h4
    go_wp2_with fail
    refine (hSys.out _ _).mono ?_
    rintro e W5 ⟨rfl, hb5⟩
    have K := K.later hb5
    have own := own.kept (grownBy_below hb5 rfl none) (Classical.em _)
    go_wp2_with fail
    refine (hMov.out _ _ _).mono ?_
    rintro e W6 ⟨rfl, hb6⟩
    have K := K.later hb6
    have own := own.kept (grownBy_below hb6 rfl none) (Classical.em _)
    have K := K.new (.cells #[.int .i64 23, .int .i64 0, .int .i64 0, .int .i64 0, .int .i64 14, .int .i64 2, .int .i64 3, .int .i64 0, .int .i64 0, .int .i64 0] 66)
    have own := own.alloc (.cells #[.int .i64 23, .int .i64 0, .int .i64 0, .int .i64 0, .int .i64 14, .int .i64 2, .int .i64 3, .int .i64 0, .int .i64 0, .int .i64 0] 66)
    go_wp2_with (first
      | (at_builtin; refine wpList_append_own _ rfl _ _ 22 rfl (Bb + 1) 66 i0 (.agg #[.int .i64 0, .int .i64 0, .int .i64 0, .int .i64 0, .int .i64 0]) 5 40 Try.underlying22 hi hz0 hz1 hz2 rfl (by decide) _ _ _ rfl own ⟨W6.heap.size, 0, none⟩ 2 2 [.int .i64 23, .int .i64 0, .int .i64 0, .int .i64 0, .int .i64 14, .int .i64 2, .int .i64 3, .int .i64 0, .int .i64 0, .int .i64 0] rfl rfl ?c1 ?c2 ?c3 ?c4 ?c5 ?_))
    case c1 => exact World.news_of_block (cs := #[.int .i64 23, .int .i64 0, .int .i64 0, .int .i64 0, .int .i64 14, .int .i64 2, .int .i64 3, .int .i64 0, .int .i64 0, .int .i64 0]) (t := 66) (fr := (0, 0)) (heap_alloc_new _ _)
    case c2 => simp [Value.oneCell']
    case c3 => unfold maxLen; omega
    case c4 => omega
    case c5 => have := K.cells.lt (by simp [insRows, insRow]); omega
    intro v7 W7 hown7 hgrow7 _h7
    have K := K.own hgrow7 (fun b hb => by have := (own.lt b hb).1; omega)
    have own := hown7
    clear hown7 hgrow7 _h7
    have HG := Lib.hid (part_own K (by have := K.hb; omega) [⟨1, 0, 0, 0, (u : Int)⟩, ⟨15, 1, 0, 0, (r : Int)⟩, ⟨1, 2, 0, 0, (n5 : Int)⟩, ⟨23, 0, 0, 0, 14⟩, ⟨2, 3, 0, 0, 0⟩] (by simp [insRows, insRow]) own (n := s.length) (at_ := at_) (by simp) (by simp) (all_cons (ins_li (by omega) (by omega)) (all_cons (ins_lea (by omega) (by omega) hl4) (all_cons (ins_li (by omega) (by omega)) (all_cons (ins_sys (by omega)) (all_one (ins_mov (by omega) (by omega))))))))
    clear K own hd2 hg2 hb3 hb5 hb6
    go_wp2
    go_ret
    exact HG.out
  · -- 10
    go_wp2_with fail
    refine (hN.out (3) _ K.deck (by omega) (by omega)).mono ?_
    rintro e W2 ⟨u, hu, rfl, hd2, hg2⟩
    have K := K.draw hg2 hd2
    go_wp2_with fail
    refine (hLi.out _ _ _).mono ?_
    rintro e W3 ⟨rfl, hb3⟩
    have K := K.later hb3
    go_wp2_with fail
    refine (hN.out (4) _ K.deck (by omega) (by omega)).mono ?_
    rintro e W4 ⟨v, hv, rfl, hd4, hg4⟩
    have K := K.draw hg4 hd4
    go_wp2_with fail
    refine (hLi.out _ _ _).mono ?_
    rintro e W5 ⟨rfl, hb5⟩
    have K := K.later hb5
    go_wp2_with fail
    refine (hSys.out _ _).mono ?_
    rintro e W6 ⟨rfl, hb6⟩
    have K := K.later hb6
    go_wp2_with fail
    refine (hMov.out _ _ _).mono ?_
    rintro e W7 ⟨rfl, hb7⟩
    have K := K.later hb7
    have HG := Lib.hid (part_lit K [⟨1, 0, 0, 0, (u : Int)⟩, ⟨1, 1, 0, 0, (v : Int)⟩, ⟨23, 0, 0, 0, 3⟩, ⟨2, 7, 0, 0, 0⟩] #[.int .i64 1, .int .i64 0, .int .i64 0, .int .i64 0, .int .i64 (u : Int), .int .i64 1, .int .i64 1, .int .i64 0, .int .i64 0, .int .i64 (v : Int), .int .i64 23, .int .i64 0, .int .i64 0, .int .i64 0, .int .i64 3, .int .i64 2, .int .i64 7, .int .i64 0, .int .i64 0, .int .i64 0] rfl (n := s.length) (at_ := at_) (by simp) (by simp) (all_cons (ins_li (by omega) (by omega)) (all_cons (ins_li (by omega) (by omega)) (all_cons (ins_sys (by omega)) (all_one (ins_mov (by omega) (by omega)))))) 66)
    clear K hd2 hg2 hb3 hd4 hg4 hb5 hb6 hb7
    go_wp2
    go_ret
    exact HG.out
  · -- 11
    go_wp2_with fail
    refine (hMov.out _ _ _).mono ?_
    rintro e W2 ⟨rfl, hb2⟩
    have K := K.later hb2
    have hBb := K.cells.lt (by simp [insRows, insRow])
    have own := World.ownsRow_lit (base := Bb + 1) (e := 66) (size := 5) W2 #[.int .i64 2, .int .i64 0, .int .i64 7, .int .i64 0, .int .i64 0] 1 (by omega) (by unfold maxLen; omega) rfl
    have K := K.new (.cells #[.int .i64 2, .int .i64 0, .int .i64 7, .int .i64 0, .int .i64 0] 66)
    go_wp2_with (first
      | (at_builtin; refine wpList_append_own _ rfl _ _ 22 rfl (Bb + 1) 66 i0 (.agg #[.int .i64 0, .int .i64 0, .int .i64 0, .int .i64 0, .int .i64 0]) 5 40 Try.underlying22 hi hz0 hz1 hz2 rfl (by decide) _ _ _ rfl own ⟨Bb, 0, none⟩ 2 2 (insRows [⟨15, 1, 0, 0, (r : Int)⟩, ⟨1, 2, 0, 0, (n5 : Int)⟩]).flatten rfl rfl ?c1 ?c2 ?c3 ?c4 ?c5 ?_))
    case c1 => exact K.cells.news
    case c2 => simp [Value.oneCell', insRows, insRow]
    case c3 => unfold maxLen; omega
    case c4 => omega
    case c5 => have := K.cells.lt (by simp [insRows, insRow]); omega
    intro v3 W3 hown3 hgrow3 _h3
    have K := K.own hgrow3 (fun b hb => by have := (own.lt b hb).1; omega)
    have own := hown3
    clear hown3 hgrow3 _h3
    have hts : w.heap.size ≤ W3.heap.size := K.size
    have K := K.new (.cells #[.int .i64 1, .int .i64 2] 3)
    have own := own.alloc (.cells #[.int .i64 1, .int .i64 2] 3)
    go_wp2_with fail
    refine (hN.out (2) _ K.deck (by omega) (by omega)).mono ?_
    rintro e W4 ⟨u, hu, rfl, hd4, hg4⟩
    have K := K.draw hg4 hd4
    have own := own.kept hg4 (by right; intro e; have := (own.lt D e).1; have := K.hb; have := K.hD; omega)
    obtain ⟨x, hx, cx⟩ := tab_at W3 #[.int .i64 1, .int .i64 2] [1, 2] rfl 3 (i := u) (by simp; omega)
    have cx := hg4.cell cx (by intro e; have e2 : W3.heap.size = D := Option.some.inj e; have h1 := K.hD; omega)
    clear hts
    go_wp2_with fail
    refine (hSys.out _ _).mono ?_
    rintro e W5 ⟨rfl, hb5⟩
    have K := K.later hb5
    have own := own.kept (grownBy_below hb5 rfl none) (Classical.em _)
    have K := K.new (.cells #[.int .i64 23, .int .i64 0, .int .i64 0, .int .i64 0, .int .i64 x] 66)
    have own := own.alloc (.cells #[.int .i64 23, .int .i64 0, .int .i64 0, .int .i64 0, .int .i64 x] 66)
    go_wp2_with (first
      | (at_builtin; refine wpList_append_own _ rfl _ _ 22 rfl (Bb + 1) 66 i0 (.agg #[.int .i64 0, .int .i64 0, .int .i64 0, .int .i64 0, .int .i64 0]) 5 40 Try.underlying22 hi hz0 hz1 hz2 rfl (by decide) _ _ _ rfl own ⟨W5.heap.size, 0, none⟩ 1 1 [.int .i64 23, .int .i64 0, .int .i64 0, .int .i64 0, .int .i64 x] rfl rfl ?c1 ?c2 ?c3 ?c4 ?c5 ?_))
    case c1 => exact World.news_of_block (cs := #[.int .i64 23, .int .i64 0, .int .i64 0, .int .i64 0, .int .i64 x]) (t := 66) (fr := (0, 0)) (heap_alloc_new _ _)
    case c2 => simp [Value.oneCell']
    case c3 => unfold maxLen; omega
    case c4 => omega
    case c5 => have := K.cells.lt (by simp [insRows, insRow]); omega
    intro v6 W6 hown6 hgrow6 _h6
    have K := K.own hgrow6 (fun b hb => by have := (own.lt b hb).1; omega)
    have own := hown6
    clear hown6 hgrow6 _h6
    have HG := Lib.hid (part_own K (by have := K.hb; omega) [⟨2, 0, 7, 0, 0⟩, ⟨15, 1, 0, 0, (r : Int)⟩, ⟨1, 2, 0, 0, (n5 : Int)⟩, ⟨23, 0, 0, 0, x⟩] (by simp [insRows, insRow]) own (n := s.length) (at_ := at_) (by simp) (by simp) (all_cons (ins_mov (by omega) (by omega)) (all_cons (ins_lea (by omega) (by omega) hl4) (all_cons (ins_li (by omega) (by omega)) (all_one (ins_sys (by simp at hx; omega)))))))
    clear K own hb2 hd4 hg4 hb5
    go_wp2
    go_ret
    exact HG.out
  · -- 12
    have hwm : ∀ d, some D = some d → d < w.heap.size := fun d hd => by cases hd; exact hDl
    go_wp2_with fail
    refine (hMov.out _ _ _).mono ?_
    rintro e W2 ⟨rfl, hb2⟩
    have K := K.later hb2
    go_wp2_with fail
    refine (hSys.out _ _).mono ?_
    rintro e W3 ⟨rfl, hb3⟩
    have K := K.later hb3
    have RA := rows_new (wide_ins [⟨2, 0, 7, 0, 0⟩, ⟨23, 0, 0, 0, 4⟩]) W3 #[.int .i64 2, .int .i64 0, .int .i64 7, .int .i64 0, .int .i64 0, .int .i64 23, .int .i64 0, .int .i64 0, .int .i64 0, .int .i64 4] rfl 66 K.size
    have K := K.new (.cells #[.int .i64 2, .int .i64 0, .int .i64 7, .int .i64 0, .int .i64 0, .int .i64 23, .int .i64 0, .int .i64 0, .int .i64 0, .int .i64 4] 66)
    go_wp2_with fail
    refine (hMov.out _ _ _).mono ?_
    rintro e W4 ⟨rfl, hb4⟩
    have K := K.later hb4
    have RA := RA.later (wide_ins _) hb4
    go_wp2_with fail
    refine (hN.out 4 _ K.deck (by omega) (by omega)).mono ?_
    rintro e W5 ⟨u, hu, rfl, hd5, hg5⟩
    have K := K.draw hg5 hd5
    have RA := RA.kept (wide_ins _) hg5 hwm
    go_wp2_with fail
    refine (hLi.out _ _ _).mono ?_
    rintro e W6 ⟨rfl, hb6⟩
    have K := K.later hb6
    have RA := RA.later (wide_ins _) hb6
    go_wp2_with fail
    refine (hSys.out _ _).mono ?_
    rintro e W7 ⟨rfl, hb7⟩
    have K := K.later hb7
    have RA := RA.later (wide_ins _) hb7
    have RB := rows_new (wide_ins [⟨2, 0, 7, 0, 0⟩, ⟨1, 1, 0, 0, (u : Int)⟩, ⟨23, 0, 0, 0, 5⟩]) W7 #[.int .i64 2, .int .i64 0, .int .i64 7, .int .i64 0, .int .i64 0, .int .i64 1, .int .i64 1, .int .i64 0, .int .i64 0, .int .i64 (u : Int), .int .i64 23, .int .i64 0, .int .i64 0, .int .i64 0, .int .i64 5] rfl 66 K.size
    have RA := RA.later (wide_ins _) (Below.alloc (Below.refl W7.heap.size W7) (Nat.le_refl _) (.cells #[.int .i64 2, .int .i64 0, .int .i64 7, .int .i64 0, .int .i64 0, .int .i64 1, .int .i64 1, .int .i64 0, .int .i64 0, .int .i64 (u : Int), .int .i64 23, .int .i64 0, .int .i64 0, .int .i64 0, .int .i64 5] 66))
    have K := K.new (.cells #[.int .i64 2, .int .i64 0, .int .i64 7, .int .i64 0, .int .i64 0, .int .i64 1, .int .i64 1, .int .i64 0, .int .i64 0, .int .i64 (u : Int), .int .i64 23, .int .i64 0, .int .i64 0, .int .i64 0, .int .i64 5] 66)
    have hsz7 : (W7.alloc (.cells #[.int .i64 2, .int .i64 0, .int .i64 7, .int .i64 0, .int .i64 0, .int .i64 1, .int .i64 1, .int .i64 0, .int .i64 0, .int .i64 (u : Int), .int .i64 23, .int .i64 0, .int .i64 0, .int .i64 0, .int .i64 5] 66)).heap.size = W7.heap.size + 1 := by simp
    generalize hW7 : W7.alloc (.cells #[.int .i64 2, .int .i64 0, .int .i64 7, .int .i64 0, .int .i64 0, .int .i64 1, .int .i64 1, .int .i64 0, .int .i64 0, .int .i64 (u : Int), .int .i64 23, .int .i64 0, .int .i64 0, .int .i64 0, .int .i64 5] 66) = V7 at *
    have BS := Blk.new (W := V7) #[.slice (some ⟨W3.heap.size, 0, none⟩) 2 2, .slice (some ⟨W7.heap.size, 0, none⟩) 3 3] 22
    have hS := Below.alloc (Below.refl V7.heap.size V7) (Nat.le_refl _) (.cells #[.slice (some ⟨W3.heap.size, 0, none⟩) 2 2, .slice (some ⟨W7.heap.size, 0, none⟩) 3 3] 22)
    have hVs := K.size
    have K := K.new (.cells #[.slice (some ⟨W3.heap.size, 0, none⟩) 2 2, .slice (some ⟨W7.heap.size, 0, none⟩) 3 3] 22)
    have RA := RA.later (wide_ins _) hS
    have RB := RB.later (wide_ins _) hS
    subst hW7
    have hN2 := hN.out 2 _ K.deck (by omega) (by omega)
    go_wp2_with fail
    refine hN2.mono ?_
    rintro e W8 ⟨z, hz2', rfl, hd8, hg8⟩
    have K := K.draw hg8 hd8
    have RA := RA.kept (wide_ins _) hg8 hwm
    have RB := RB.kept (wide_ins _) hg8 hwm
    have BS := BS.kept hg8 (by rw [hsz7] at hVs ⊢; simp; omega)
    rw [hsz7] at BS
    have s0 := (BS 0 (by simp)).1
    have s1 := (BS 1 (by simp)).1
    have hz01 : z = 0 ∨ z = 1 := by omega
    clear hN2 hz2' BS hS hsz7
    rcases hz01 with rfl | rfl
    · have HG : Hid (GivesPart s.length at_ D w (.returned (.slice (some ⟨W3.heap.size, 0, none⟩) 2 2)) W8) := Lib.hid ⟨_, 2, [⟨2, 0, 7, 0, 0⟩, ⟨23, 0, 0, 0, 4⟩], rfl, RA, by simp, by simp, all_cons (ins_mov (by omega) (by omega)) (all_one (ins_sys (by omega))), K.deck, K.grown⟩
      clear RA RB K
      go_wp2
      go_ret
      exact HG.out
    · have HG : Hid (GivesPart s.length at_ D w (.returned (.slice (some ⟨W7.heap.size, 0, none⟩) 3 3)) W8) := Lib.hid ⟨_, 3, [⟨2, 0, 7, 0, 0⟩, ⟨1, 1, 0, 0, (u : Int)⟩, ⟨23, 0, 0, 0, 5⟩], rfl, RB, by simp, by simp, all_cons (ins_mov (by omega) (by omega)) (all_cons (ins_li (by omega) (by omega)) (all_one (ins_sys (by omega)))), K.deck, K.grown⟩
      clear RA RB K
      go_wp2
      go_ret
      exact HG.out
  · -- 13
    have hts : w.heap.size ≤ W1.heap.size := K.size
    have K := K.new (.cells #[.int .i64 6, .int .i64 7, .int .i64 15] 3)
    go_wp2_with fail
    refine (hN.out (3) _ K.deck (by omega) (by omega)).mono ?_
    rintro e W2 ⟨u, hu, rfl, hd2, hg2⟩
    have K := K.draw hg2 hd2
    obtain ⟨x, hx, cx⟩ := tab_at W1 #[.int .i64 6, .int .i64 7, .int .i64 15] [6, 7, 15] rfl 3 (i := u) (by simp; omega)
    have cx := hg2.cell cx (by intro e; have e2 : W1.heap.size = D := Option.some.inj e; have h1 := K.hD; omega)
    clear hts
    go_wp2_with fail
    refine (hSys.out _ _).mono ?_
    rintro e W3 ⟨rfl, hb3⟩
    have K := K.later hb3
    go_wp2_with fail
    refine (hN.out (3) _ K.deck (by omega) (by omega)).mono ?_
    rintro e W4 ⟨v, hv, rfl, hd4, hg4⟩
    have K := K.draw hg4 hd4
    go_wp2_with fail
    refine (hMov.out _ _ _).mono ?_
    rintro e W5 ⟨rfl, hb5⟩
    have K := K.later hb5
    have HG := Lib.hid (part_lit K [⟨23, 0, 0, 0, x⟩, ⟨2, (3 + (v : Int)), 0, 0, 0⟩] #[.int .i64 23, .int .i64 0, .int .i64 0, .int .i64 0, .int .i64 x, .int .i64 2, .int .i64 (3 + (v : Int)), .int .i64 0, .int .i64 0, .int .i64 0] rfl (n := s.length) (at_ := at_) (by simp) (by simp) (all_cons (ins_sys (by simp at hx; omega)) (all_one (ins_mov (by omega) (by omega)))) 66)
    clear K hd2 hg2 hb3 hd4 hg4 hb5
    go_wp2
    go_ret
    exact HG.out
  · -- 14
    go_wp2_with fail
    refine (hN.out (3) _ K.deck (by omega) (by omega)).mono ?_
    rintro e W2 ⟨u, hu, rfl, hd2, hg2⟩
    have K := K.draw hg2 hd2
    go_wp2_with fail
    refine (hLi.out _ _ _).mono ?_
    rintro e W3 ⟨rfl, hb3⟩
    have K := K.later hb3
    have hts : w.heap.size ≤ W3.heap.size := K.size
    have K := K.new (.cells #[.int .i64 8, .int .i64 9] 3)
    go_wp2_with fail
    refine (hN.out (2) _ K.deck (by omega) (by omega)).mono ?_
    rintro e W4 ⟨v, hv, rfl, hd4, hg4⟩
    have K := K.draw hg4 hd4
    obtain ⟨x, hx, cx⟩ := tab_at W3 #[.int .i64 8, .int .i64 9] [8, 9] rfl 3 (i := v) (by simp; omega)
    have cx := hg4.cell cx (by intro e; have e2 : W3.heap.size = D := Option.some.inj e; have h1 := K.hD; omega)
    clear hts
    go_wp2_with fail
    refine (hSys.out _ _).mono ?_
    rintro e W5 ⟨rfl, hb5⟩
    have K := K.later hb5
    have HG := Lib.hid (part_lit K [⟨1, 0, 0, 0, (u : Int)⟩, ⟨23, 0, 0, 0, x⟩] #[.int .i64 1, .int .i64 0, .int .i64 0, .int .i64 0, .int .i64 (u : Int), .int .i64 23, .int .i64 0, .int .i64 0, .int .i64 0, .int .i64 x] rfl (n := s.length) (at_ := at_) (by simp) (by simp) (all_cons (ins_li (by omega) (by omega)) (all_one (ins_sys (by simp at hx; omega)))) 66)
    clear K hd2 hg2 hb3 hd4 hg4 hb5
    go_wp2
    go_ret
    exact HG.out
  · -- 15
    go_wp2_with fail
    refine (hN.out (3) _ K.deck (by omega) (by omega)).mono ?_
    rintro e W2 ⟨u, hu, rfl, hd2, hg2⟩
    have K := K.draw hg2 hd2
    go_wp2_with fail
    refine (hLi.out _ _ _).mono ?_
    rintro e W3 ⟨rfl, hb3⟩
    have K := K.later hb3
    have hts : w.heap.size ≤ W3.heap.size := K.size
    have K := K.new (.cells #[.int .i64 8, .int .i64 9] 3)
    go_wp2_with fail
    refine (hN.out (2) _ K.deck (by omega) (by omega)).mono ?_
    rintro e W4 ⟨v, hv, rfl, hd4, hg4⟩
    have K := K.draw hg4 hd4
    obtain ⟨x, hx, cx⟩ := tab_at W3 #[.int .i64 8, .int .i64 9] [8, 9] rfl 3 (i := v) (by simp; omega)
    have cx := hg4.cell cx (by intro e; have e2 : W3.heap.size = D := Option.some.inj e; have h1 := K.hD; omega)
    clear hts
    go_wp2_with fail
    refine (hSys.out _ _).mono ?_
    rintro e W5 ⟨rfl, hb5⟩
    have K := K.later hb5
    have HG := Lib.hid (part_lit K [⟨1, 0, 0, 0, (u : Int)⟩, ⟨23, 0, 0, 0, x⟩] #[.int .i64 1, .int .i64 0, .int .i64 0, .int .i64 0, .int .i64 (u : Int), .int .i64 23, .int .i64 0, .int .i64 0, .int .i64 0, .int .i64 x] rfl (n := s.length) (at_ := at_) (by simp) (by simp) (all_cons (ins_li (by omega) (by omega)) (all_one (ins_sys (by simp at hx; omega)))) 66)
    clear K hd2 hg2 hb3 hd4 hg4 hb5
    go_wp2
    go_ret
    exact HG.out
  · -- 16
    go_wp2_with fail
    refine (hN.out (((at_ + 1 : Nat) : Int)) _ K.deck (by omega) (by omega)).mono ?_
    rintro e W2 ⟨u, hu, rfl, hd2, hg2⟩
    have K := K.draw hg2 hd2
    go_wp2_with fail
    refine (hLi.out _ _ _).mono ?_
    rintro e W3 ⟨rfl, hb3⟩
    have K := K.later hb3
    go_wp2_with fail
    refine (hMov.out _ _ _).mono ?_
    rintro e W4 ⟨rfl, hb4⟩
    have K := K.later hb4
    go_wp2_with fail
    refine (hSys.out _ _).mono ?_
    rintro e W5 ⟨rfl, hb5⟩
    have K := K.later hb5
    have HG := Lib.hid (part_lit K [⟨1, 0, 0, 0, (u : Int)⟩, ⟨2, 1, 3, 0, 0⟩, ⟨23, 0, 0, 0, 10⟩] #[.int .i64 1, .int .i64 0, .int .i64 0, .int .i64 0, .int .i64 (u : Int), .int .i64 2, .int .i64 1, .int .i64 3, .int .i64 0, .int .i64 0, .int .i64 23, .int .i64 0, .int .i64 0, .int .i64 0, .int .i64 10] rfl (n := s.length) (at_ := at_) (by simp) (by simp) (all_cons (ins_li (by omega) (by omega)) (all_cons (ins_mov (by omega) (by omega)) (all_one (ins_sys (by omega))))) 66)
    clear K hd2 hg2 hb3 hb4 hb5
    go_wp2
    go_ret
    exact HG.out
  · -- 17
    have hts : w.heap.size ≤ W1.heap.size := K.size
    have K := K.new (.cells #[.int .i64 ((at_ + 1 : Nat) : Int), .int .i64 5] 3)
    go_wp2_with fail
    refine (hN.out (2) _ K.deck (by omega) (by omega)).mono ?_
    rintro e W2 ⟨u, hu, rfl, hd2, hg2⟩
    have K := K.draw hg2 hd2
    obtain ⟨x, hx, cx⟩ := tab_at W1 #[.int .i64 ((at_ + 1 : Nat) : Int), .int .i64 5] [((at_ + 1 : Nat) : Int), 5] rfl 3 (i := u) (by simp; omega)
    have cx := hg2.cell cx (by intro e; have e2 : W1.heap.size = D := Option.some.inj e; have h1 := K.hD; omega)
    clear hts
    have hx : 1 ≤ x ∧ x ≤ 63 := by simp at hx; omega
    go_wp2_with fail
    refine (hN.out (x) _ K.deck (by omega) (by omega)).mono ?_
    rintro e W3 ⟨v, hv, rfl, hd3, hg3⟩
    have K := K.draw hg3 hd3
    go_wp2_with fail
    refine (hLi.out _ _ _).mono ?_
    rintro e W4 ⟨rfl, hb4⟩
    have K := K.later hb4
    have hts : w.heap.size ≤ W4.heap.size := K.size
    have K := K.new (.cells #[.int .i64 12, .int .i64 11] 3)
    go_wp2_with fail
    refine (hN.out (2) _ K.deck (by omega) (by omega)).mono ?_
    rintro e W5 ⟨z, hz, rfl, hd5, hg5⟩
    have K := K.draw hg5 hd5
    obtain ⟨y2, hy2, cy2⟩ := tab_at W4 #[.int .i64 12, .int .i64 11] [12, 11] rfl 3 (i := z) (by simp; omega)
    have cy2 := hg5.cell cy2 (by intro e; have e2 : W4.heap.size = D := Option.some.inj e; have h1 := K.hD; omega)
    clear hts
    go_wp2_with fail
    refine (hSys.out _ _).mono ?_
    rintro e W6 ⟨rfl, hb6⟩
    have K := K.later hb6
    have HG := Lib.hid (part_lit K [⟨1, 0, 0, 0, (v : Int)⟩, ⟨23, 0, 0, 0, y2⟩] #[.int .i64 1, .int .i64 0, .int .i64 0, .int .i64 0, .int .i64 (v : Int), .int .i64 23, .int .i64 0, .int .i64 0, .int .i64 0, .int .i64 y2] rfl (n := s.length) (at_ := at_) (by simp) (by simp) (all_cons (ins_li (by omega) (by omega)) (all_one (ins_sys (by simp at hy2; omega)))) 66)
    clear K hd2 hg2 hd3 hg3 hb4 hd5 hg5 hb6
    go_wp2
    go_ret
    exact HG.out
  · -- 18
    go_wp2_with fail
    refine (hN.out (4) _ K.deck (by omega) (by omega)).mono ?_
    rintro e W2 ⟨u, hu, rfl, hd2, hg2⟩
    have K := K.draw hg2 hd2
    go_wp2_with fail
    refine (hLi.out _ _ _).mono ?_
    rintro e W3 ⟨rfl, hb3⟩
    have K := K.later hb3
    go_wp2_with fail
    refine (hLi.out _ _ _).mono ?_
    rintro e W4 ⟨rfl, hb4⟩
    have K := K.later hb4
    have HG := Lib.hid (part_lit K [⟨1, 5, 0, 0, (1 + (u : Int))⟩, ⟨1, 4, 0, 0, 1⟩, ⟨4, 5, 5, 4, 0⟩, ⟨20, 5, 0, 0, ((at_ : Int) + 2)⟩] #[.int .i64 1, .int .i64 5, .int .i64 0, .int .i64 0, .int .i64 (1 + (u : Int)), .int .i64 1, .int .i64 4, .int .i64 0, .int .i64 0, .int .i64 1, .int .i64 4, .int .i64 5, .int .i64 5, .int .i64 4, .int .i64 0, .int .i64 20, .int .i64 5, .int .i64 0, .int .i64 0, .int .i64 ((at_ : Int) + 2)] rfl (n := s.length) (at_ := at_) (by simp) (by simp) (all_cons (ins_li (by omega) (by omega)) (all_cons (ins_li (by omega) (by omega)) (all_cons (ins_three (by omega) (by omega) (by omega) (by omega)) (all_one (ins_jnz (by omega) (by omega) (by simp)))))) 66)
    clear K hd2 hg2 hb3 hb4
    go_wp2
    go_ret
    exact HG.out
  · -- 19
    go_wp2_with fail
    refine (hI.out _ K.deck).mono ?_
    rintro e W2 ⟨x, rfl, hx, hd2, hg2⟩
    obtain ⟨x0, x1, x2, x3, x4⟩ := x
    have K := K.draw hg2 hd2
    have HG := Lib.hid (part_lit K [⟨x0, x1, x2, x3, x4⟩] #[.int .i64 x0, .int .i64 x1, .int .i64 x2, .int .i64 x3, .int .i64 x4] rfl (n := s.length) (at_ := at_) (by simp) (by simp) (all_one hx) 66)
    clear K hd2 hg2 hx
    unfold insV
    go_wp2
    go_ret
    exact HG.out
end Go.Proofs.Ythajndgljfbifaa
