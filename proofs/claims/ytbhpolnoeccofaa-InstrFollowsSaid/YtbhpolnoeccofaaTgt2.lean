/-
  behind and Targets of the program.
-/
import Derived.Test.YtbhpolnoeccofaaTgt
import Derived.Deep.AppendLies
import Derived.Deep.RegionHeldLaw
import Derived.Deep.DeepCutAuto
namespace Go.Proofs.Ytbhpolnoeccofaa
open Go.RowKit
set_option maxRecDepth 100000

/-- The call returns one int that it owns. -/
def GivesOwn1 (base : Nat) (v : Int) (w : World) (e : Ending) (w' : World) : Prop :=
  ∃ g, e = .returned (.slice (some ⟨g, 0, none⟩) 1 1) ∧ w'.ownsRow base 3 1 (.slice (some ⟨g, 0, none⟩) 1 1) 1 [.int .i64 v] ∧ Below w.heap.size w w'

theorem instr_behind (base p : Nat) (w : World) (hp : p < 64) (hb : base ≤ w.heap.size) :
    Calls Try.prog 30 #[.int .i64 (p : Int)] w (GivesOwn1 base ((p : Int) + 1) w) := by
  have hw : IntKind.i64.wrap ((p : Int) + 1) = (p : Int) + 1 := IntWalk.i64_in _ (by omega)
  have h1 : ((p : Int) == 9223372036854775807) = false := by rw [beq_eq_false_iff_ne]; omega
  have HO := Lib.hid (World.ownsRow_lit (size := 1) (e := 3) w #[.int .i64 ((p : Int) + 1)] 1 hb (by decide) rfl)
  clear hb
  go_enter Try.func30, Try.ntmps30
  go_wp2
  go_ret
  exact ⟨_, rfl, HO.out, (Below.refl _ _).alloc (Nat.le_refl _) _⟩

theorem keep4 {w1 W : World} {n b : Nat} {v : Value} (h : ∀ W, Below n w1 W → W.cell? ⟨b, 4, none⟩ = some v) (hb : Below n w1 W) : W.cell? ⟨b, 4, none⟩ = some v ∧ Below n w1 W := ⟨h _ hb, hb⟩

/-- Two ints that the call owns. -/
theorem pair_own {w : World} {B g cap : Nat} {x y : Int} (h : w.ownsRow B 3 1 (.slice (some ⟨g, 0, none⟩) (1 + 1) cap) (1 + 1) ([.int .i64 x] ++ [.int .i64 y])) : Pair w g x y ∧ 2 ≤ cap ∧ B ≤ g := by
  refine ⟨fun j hj => ⟨?_, h.frozenAt j⟩, ?_, (h.lt g rfl).1⟩
  · have hj2 : j < 2 := by simpa using hj
    have := h.cellAt j (by omega)
    rw [this]
    rcases (by omega : j = 0 ∨ j = 1) with rfl | rfl <;> rfl
  · rcases h.2 with ⟨h1, _⟩ | ⟨g', cap', cur, hv, _, _, hc, _⟩
    · cases h1
    · cases hv; exact hc

set_option maxHeartbeats 4000000 in
theorem instr_Targets (x : Ins) (p : Nat) (w : World) (hp : p < 64) (hx : vinB x = true) :
    Calls Try.prog 18 #[insV x, .int .i64 (p : Int)] w (GivesInts (tgtV x ((p : Int) + 1)) w) := by
  have HV := Lib.hid (fun W => instr_Valid x W)
  rw [hx] at HV
  have HBh := Lib.hid (fun base W (h : base ≤ W.heap.size) => instr_behind base p W hp h)
  have T1 := tgt_jump x ((p : Int) + 1)
  have T2 := tgt_none x ((p : Int) + 1)
  have T3 := tgt_lo x ((p : Int) + 1)
  have T4 := tgt_hi x ((p : Int) + 1)
  have T5 := tgt_eq x ((p : Int) + 1)
  have T6 := tgt_rest x ((p : Int) + 1)
  generalize tgtV x ((p : Int) + 1) = L at *
  clear hx
  obtain ⟨op, a, b, c, imm⟩ := x
  simp only at T1 T2 T3 T4 T5 T6
  unfold insV at *
  simp only at HV
  have hB := Below.alloc (Below.refl w.heap.size w) (Nat.le_refl _) (.cells #[.int .i64 op, .int .i64 a, .int .i64 b, .int .i64 c, .int .i64 imm] 23)
  have b0 := Blk.new (W := w) #[.int .i64 op, .int .i64 a, .int .i64 b, .int .i64 c, .int .i64 imm] 23
  go_enter Try.func18, Try.ntmps18
  go_wp2_with fail
  refine (HV.out _).mono ?_
  rintro e w1 ⟨rfl, hb1⟩
  have b1 := b0.later hb1
  have hB1 := hB.trans (hb1.mono hB.size)
  have e0 := (b1 0 (by simp)).1
  have e4 := (b1 4 (by simp)).1
  clear b0 hb1 hB HV
  by_cases h1 : op = 18 ∨ op = 21
  · have HT := T1 h1
    subst HT
    have HG := Lib.hid (gives_one (v := imm) hB1 rfl)
    clear T1 T2 T3 T4 T5 T6 hB1 b1
    rcases h1 with rfl | rfl
    all_goals
      go_wp2
      go_ret
      exact HG.out
  by_cases h2 : op = 22 ∨ op = 24
  · have HT := T2 h2
    subst HT
    have HG := Lib.hid (gives_none hB1)
    clear T1 T2 T3 T4 T5 T6 hB1 h1 b1
    rcases h2 with rfl | rfl
    all_goals
      go_wp2
      go_ret
      exact HG.out
  by_cases h3 : op = 19 ∨ op = 20
  · obtain ⟨i0, hi, hz0, hz1, hz2⟩ := info_parts info_int
    have HB1 := Lib.hid hB1
    have C4 := Lib.hid (fun W (h : Below w1.heap.size w1 W) => cell_later h e4)
    have HM : Hid ((∃ u v, u ≠ v ∧ L = [u, v] ∧ min ((p : Int) + 1) imm = u ∧ max ((p : Int) + 1) imm = v) ∨ (L = [(p : Int) + 1] ∧ min ((p : Int) + 1) imm = (p : Int) + 1 ∧ max ((p : Int) + 1) imm = (p : Int) + 1)) := Lib.hid (by
      rcases (by omega : imm < (p : Int) + 1 ∨ (p : Int) + 1 < imm ∨ (p : Int) + 1 = imm) with h4 | h4 | h4
      · exact .inl ⟨_, _, by omega, T3 h3 h4, by omega, by omega⟩
      · exact .inl ⟨_, _, by omega, T4 h3 h4, by omega, by omega⟩
      · exact .inr ⟨T5 h3 h4, by omega, by omega⟩)
    clear T1 T2 T3 T4 T5 T6 hB1 h1 h2 b1
    rcases h3 with rfl | rfl
    all_goals
      go_upto_region 9 with fail
      go_cut [5] (fun v wx => ∃ g cap, v = .slice (some ⟨g, 0, none⟩) 2 cap ∧ Pair wx g ((p : Int) + 1) imm ∧ 2 ≤ cap ∧ w1.heap.size ≤ g ∧ Below w1.heap.size w1 wx)
      case first =>
        go_region_held_law (fun W => W.cell? ⟨w.heap.size, 4, none⟩ = some (.int .i64 imm) ∧ Below w1.heap.size w1 W)
          (first
            | exact ⟨e4, Below.refl _ _⟩
            | exact ⟨e4, (Below.refl _ _).drew⟩
            | assumption
            | exact keep4 C4.out hb8
            | (refine keep4 C4.out ?_; go_split_ands; exact Below.trans (by assumption) (hb7.mono (Below.size (by assumption))))
            | (refine keep4 C4.out ?_; go_split_ands; exact Below.alloc (by assumption) (Below.size (by assumption)) _))
          (first
            | (go_at_call 30; (with_reducible refine (HBh.out w1.heap.size _ (Below.size (by go_split_ands; assumption))).mono ?_); rintro e w7 ⟨g7, rfl, own7, hb7⟩; dsimp only)
            | (refine step_append_lies _ rfl (.tmp 21) (.tmp 24) 24 rfl w1.heap.size 3 i0 (.int .i64 0) 1 8 Try.underlying24 hi hz0 hz1 hz2 rfl (by decide) _ 1 [.int .i64 ((p : Int) + 1)] rfl ((own7.alloc _).drew) ⟨w7.heap.size, 0, none⟩ 1 1 [.int .i64 imm] rfl rfl (World.news_of_block (cs := #[.int .i64 imm]) (t := 3) (fr := (0, 0)) (heap_alloc_new w7 _)) (by simp [Value.oneCell']) (by decide) (by unfold maxLen; omega) (by omega) (Below.size (by go_split_ands; assumption)) _ rfl ?_; intro g8 cap8 w8 hown8 hg8 hat8 hlt8; have hb8 := Below.grown (by go_split_ands; assumption) hg8 (Below.size (by go_split_ands; assumption)) (fun k hk => (own7.lt k hk).1); have h8 := pair_own hown8; clear hg8 hat8 hlt8 hown8 own7)
            | (refine step_append_lies _ rfl (.tmp 21) (.tmp 24) 24 rfl w1.heap.size 3 i0 (.int .i64 0) 1 8 Try.underlying24 hi hz0 hz1 hz2 rfl (by decide) _ 1 [.int .i64 ((p : Int) + 1)] rfl own7.drew ⟨w1.heap.size, 0, none⟩ 1 1 [.int .i64 imm] rfl rfl (blk_news (((Blk.new (W := w1) #[.int .i64 imm] 3).later (Below.refl _ _).drew).later hb7)) (by simp [Value.oneCell']) (by decide) (by unfold maxLen; omega) (by omega) (Below.size (by go_split_ands; assumption)) _ rfl ?_; intro g8 cap8 w8 hown8 hg8 hat8 hlt8; have hb8 := Below.grown (by go_split_ands; assumption) hg8 (Below.size (by go_split_ands; assumption)) (fun k hk => (own7.lt k hk).1); have h8 := pair_own hown8; clear hg8 hat8 hlt8 hown8 own7))
        all_goals
          have H8 := Lib.hid h8
          have HB8 := Lib.hid hb8
          clear h8 hb8
          simp only [List.getElem_toArray, List.getElem_cons_succ, List.getElem_cons_zero]
          go_wp2_with fail
          go_meet
          exact ⟨_, _, rfl, H8.out.1, H8.out.2.1, H8.out.2.2, HB8.out⟩
      case rest =>
        obtain ⟨g, cap, rfl, hp2, hc2, hg, hB2⟩ := hcut
        have HS := Lib.hid (sort_two g cap ((p : Int) + 1) imm _ hp2)
        have hB3 := HB1.out.trans (hB2.mono HB1.out.size)
        have hg3 : w.heap.size ≤ g := by have := HB1.out.size; omega
        clear hp2 hB2 hg HB1 C4 HBh hi hz0 hz1 hz2 e0 e4
        go_wp2_with fail
        refine HS.out.mono ?_
        rintro e w9 ⟨rfl, hp9, hg9⟩
        have hB4 := hB3.grown hg9 hB3.size (fun k hk => by cases hk; exact hg3)
        clear HS hg9 hB3
        rcases HM.out with ⟨u, v, huv, rfl, hu, hv⟩ | ⟨rfl, hu, hv⟩
        · rw [hu, hv] at hp9
          have HC := Lib.hid (compact_ne g cap u v w9 hp9 huv)
          have hB4 := Lib.hid hB4
          have hg3 := Lib.hid hg3
          clear hp9 hu hv huv HM
          go_wp2_with fail
          refine HC.out.mono ?_
          rintro e w10 ⟨rfl, hp10, hg10⟩
          have HG : Hid (GivesInts [u, v] w (.returned (.slice (some ⟨g, 0, none⟩) 2 cap)) w10) := Lib.hid ⟨_, cap, rfl, ints_blk (l := [u, v]) hp10, hB4.out.grown hg10 hB4.out.size (fun k hk => by cases hk; exact hg3.out)⟩
          clear hp10 hg10
          go_wp2
          go_ret
          exact HG.out
        · rw [hu, hv] at hp9
          have HC := Lib.hid (compact_eq g cap _ w9 hp9 hc2)
          have hB4 := Lib.hid hB4
          have hg3 := Lib.hid hg3
          clear hp9 hu hv HM
          go_wp2_with fail
          refine HC.out.mono ?_
          rintro e w10 ⟨rfl, hp10, hg10⟩
          have HG : Hid (GivesInts [(p : Int) + 1] w (.returned (.slice (some ⟨g, 0, none⟩) 1 cap)) w10) := Lib.hid ⟨_, cap, rfl, ints_blk (l := [(p : Int) + 1]) hp10, hB4.out.grown hg10 hB4.out.size (fun k hk => by cases hk; exact hg3.out)⟩
          clear hp10 hg10
          go_wp2
          go_ret
          exact HG.out
  · have HT := T6 h1 h2 h3
    subst HT
    have g1 : (op == 18) = false := by rw [beq_eq_false_iff_ne]; omega
    have g2 : (op == 19) = false := by rw [beq_eq_false_iff_ne]; omega
    have g3 : (op == 20) = false := by rw [beq_eq_false_iff_ne]; omega
    have g4 : (op == 21) = false := by rw [beq_eq_false_iff_ne]; omega
    have g5 : (op == 22) = false := by rw [beq_eq_false_iff_ne]; omega
    have g6 : (op == 24) = false := by rw [beq_eq_false_iff_ne]; omega
    have HB1 := Lib.hid hB1
    clear T1 T2 T3 T4 T5 T6 hB1 h1 h2 h3 b1
    go_wp2_with fail
    refine (HBh.out w1.heap.size _ (Nat.le_refl _)).mono ?_
    rintro e w7 ⟨g7, rfl, own7, hb7⟩
    have HG : Hid (GivesInts [(p : Int) + 1] w (.returned (.slice (some ⟨g7, 0, none⟩) 1 1)) w7) := Lib.hid ⟨_, 1, rfl, ints_blk (l := [(p : Int) + 1]) (fun j hj => ⟨by
      obtain rfl : j = 0 := by simpa [i64s] using hj
      exact own7.cellAt 0 (by omega), own7.frozenAt j⟩), HB1.out.trans (hb7.mono HB1.out.size)⟩
    clear own7 hb7
    go_wp2
    go_ret
    exact HG.out
end Go.Proofs.Ytbhpolnoeccofaa
