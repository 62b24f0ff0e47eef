/-
  Contract: the document's own Make.
-/
import Derived.Test.YtaigkplalcnelaaLay4
namespace Go.Proofs.Ytaigkplalcnelaa
open Go.RowKit

set_option maxHeartbeats 1000000 in
theorem ref03_Make (b : Option Addr) (xs : List Int) (cb : Nat) (seed : Int) (w : World) (lx : xs.length ≤ 1000000) (hb : IntsAt .i64 w b xs) :
    Calls Try.prog 6 #[.slice b xs.length cb, .int .i64 seed] w (GivesLayout xs seed w) := by
  have hB := Below.alloc (Below.refl w.heap.size w) (Nat.le_refl _) (.cells #[.slice none 0 0, .int .u16 0] 32)
  have HV := Lib.hid (ref02_Valid b xs cb _ (hb.later hB) lx)
  by_cases hv : validB xs = true
  case neg =>
    have hv : validB xs = false := by simpa using hv
    have HO : Hid (okMk xs seed = false) := Lib.hid (by unfold okMk; rw [hv, Bool.false_and])
    rw [hv] at HV
    clear hv hb
    go_enter Try.func6, Try.ntmps6
    go_wp2_with (go_at_call 19; (with_reducible refine HV.out.mono ?_); rintro e w' ⟨rfl, rfl⟩)
    refine bodyPost_ret (v := .tuple #[.agg #[.slice none 0 0, .int .u16 0], .int .i64 1]) (by simp [results, Try.results6, go_sem]) rfl (gives_bad HO.out ?_)
    exact Below.alloc (Below.refl w.heap.size w) (Nat.le_refl _) _
  case pos =>
    rw [hv] at HV
    by_cases hr : 0 ≤ seed ∧ seed ≤ 1073741824
    case neg =>
      have HO : Hid (okMk xs seed = false) := Lib.hid (by unfold okMk; rw [decide_eq_false hr, Bool.and_false])
      by_cases h0 : seed < 0
      · clear hr hb hv
        go_enter Try.func6, Try.ntmps6
        go_wp2_with (go_at_call 19; (with_reducible refine HV.out.mono ?_); rintro e w' ⟨rfl, rfl⟩)
        refine bodyPost_ret (v := .tuple #[.agg #[.slice none 0 0, .int .u16 0], .int .i64 1]) (by simp [results, Try.results6, go_sem]) rfl (gives_bad HO.out ?_)
        exact Below.alloc (Below.refl w.heap.size w) (Nat.le_refl _) _
      · have h1 : 1073741824 < seed := by omega
        clear hr hb hv
        go_enter Try.func6, Try.ntmps6
        go_wp2_with (go_at_call 19; (with_reducible refine HV.out.mono ?_); rintro e w' ⟨rfl, rfl⟩)
        refine bodyPost_ret (v := .tuple #[.agg #[.slice none 0 0, .int .u16 0], .int .i64 1]) (by simp [results, Try.results6, go_sem]) rfl (gives_bad HO.out ?_)
        exact Below.alloc (Below.refl w.heap.size w) (Nat.le_refl _) _
    case pos =>
      obtain ⟨q, rfl⟩ : ∃ q : Nat, seed = (q : Int) := ⟨seed.toNat, by omega⟩
      have hq : q ≤ 1073741824 := by omega
      obtain ⟨s, hs, rfl⟩ := validB_some hv
      rw [List.length_map] at HV ⊢
      have hn : NatsAt .i64 w b s := by
        have := nats_of hb (by intro x hx; obtain ⟨y, _, rfl⟩ := List.mem_map.1 hx; omega)
        rwa [toNat_map] at this
      clear hb hv lx hr
      obtain ⟨i0, hi, hz0, hz1, hz2⟩ := info_parts info_int
      have HS := Lib.hid hs
      obtain ⟨n, hnl⟩ : ∃ n : Nat, n = s.length := ⟨_, rfl⟩
      have HN := Lib.hid hnl
      have hn1 : 1 ≤ n := by rw [hnl]; exact hs.1
      have hn4 : n ≤ 4 := by rw [hnl]; exact hs.2.1
      rw [← hnl] at HV ⊢
      clear hnl hs
      have d0 : ((n : Int) == 0) = false := by rw [beq_eq_false_iff_ne]; omega
      have d1 : (50 * (n : Int) == 0) = false := by rw [beq_eq_false_iff_ne]; omega
      have d2 : IntKind.i64.wrap (50 * (n : Int)) = 50 * (n : Int) := IntWalk.i64_in _ (by omega)
      have HG : Hid (gapOf s.length q = 1 + q / (50 * n) % 40) := Lib.hid (by rw [← HN.out]; rfl)
      have HF : Hid (startOf s q 0 = 1 + q / n % 50) := Lib.hid (by rw [HN.out]; rfl)
      have e1 : (q : Int) / (50 * (n : Int)) = ((q / (50 * n) : Nat) : Int) := by rw [show (50 * (n : Int)) = ((50 * n : Nat) : Int) by omega]; exact (Int.natCast_ediv _ _).symm
      have e2 : (q : Int) / (n : Int) = ((q / n : Nat) : Int) := (Int.natCast_ediv _ _).symm
      have e3 := Nat.div_le_self q (50 * n)
      have e4 := Nat.div_le_self q n
      generalize q / (50 * n) = g at *
      generalize q / n = f at *
      go_enter Try.func6, Try.ntmps6
      go_wp2_with (first
        | (go_at_call 19; (with_reducible refine HV.out.mono ?_); rintro e w' ⟨rfl, rfl⟩)
        | (at_make; refine wpList_make_full _ rfl _ _ 22 rfl (w.heap.size + 1) 3 i0 (.int .i64 0) 1 Try.underlying22 hi hz0 hz1 .i64 .i64 _ _ n rfl rfl rfl rfl ?c1 ?c2 ?c3 ?_))
      case c1 => rw [hz2]; omega
      case c2 => unfold maxLen; omega
      case c3 => simp
      intro w1 hown hg
      have hbox := (Box.new w (.slice none 0 0) (.int .u16 0) 32).kept hg (by simp)
      have hbel := hB.grown hg (by simp) (fun k hk => by cases hk)
      have hlt1 : w.heap.size + 1 < w1.heap.size := (hown.lt _ rfl).2
      have e6 := (key_wrap q).2
      have e7 : IntKind.i64.wrap (40503 * (q : Int)) = 40503 * (q : Int) := IntWalk.i64_in _ (by omega)
      rw [show (madeCells #[Value.int .i64 0] n).toList = nrow (fillTo s q 0) by rw [toList_madeCells_one, HN.out]; simp [nrow, fillTo]] at hown
      clear hg HV hB
      have hown2 := hown.alloc (.cells #[.slice (some ⟨w.heap.size + 1, 0, none⟩) n n, .int .u16 ((keyOf q : Nat) : Int)] 32)
      have hbox2 := hbox.kept (World.grownBy_alloc w1 (.cells #[.slice (some ⟨w.heap.size + 1, 0, none⟩) n n, .int .u16 ((keyOf q : Nat) : Int)] 32) none) (by simp)
      have hbel2 := hbel.alloc (by omega) (.cells #[.slice (some ⟨w.heap.size + 1, 0, none⟩) n n, .int .u16 ((keyOf q : Nat) : Int)] 32)
      have l0 : (w1.alloc (.cells #[.slice (some ⟨w.heap.size + 1, 0, none⟩) n n, .int .u16 ((keyOf q : Nat) : Int)] 32)).cell? ⟨w1.heap.size, 0, none⟩ = some (.slice (some ⟨w.heap.size + 1, 0, none⟩) n n) := by rw [World.cell?_alloc_at _ _ _ _ rfl]; rfl
      have l1 : (w1.alloc (.cells #[.slice (some ⟨w.heap.size + 1, 0, none⟩) n n, .int .u16 ((keyOf q : Nat) : Int)] 32)).cell? ⟨w1.heap.size, 1, none⟩ = some (.int .u16 ((keyOf q : Nat) : Int)) := by rw [World.cell?_alloc_at _ _ _ _ rfl]; rfl
      clear hown hbox hbel
      go_wp2
      go_loopw [8, 9, 10, 37] (fun x _ _ c wr => ∃ k : Nat, k ≤ n ∧ c = .int .i64 k ∧ x = .int .i64 ((startOf s q k : Nat) : Int) ∧ wr.ownsRow (w.heap.size + 1) 3 1 (.slice (some ⟨w.heap.size + 1, 0, none⟩) n n) n (nrow (fillTo s q k)) ∧ Box wr w.heap.size ∧ Below w.heap.size w wr ∧ wr.cell? ⟨w1.heap.size, 0, none⟩ = some (.slice (some ⟨w.heap.size + 1, 0, none⟩) n n) ∧ wr.cell? ⟨w1.heap.size, 1, none⟩ = some (.int .u16 ((keyOf q : Nat) : Int))) (fun _ _ _ c _ => n - (intOf c).toNat)
      case atStart => exact ⟨0, by omega, rfl, by rw [HF.out]; go_num, hown2, hbox2, hbel2, l0, l1⟩
      case round =>
        clear hown2 hbox2 hbel2 l0 l1
        obtain ⟨k, hk, rfl, rfl, hownr, hbx, hw, l0, l1⟩ := hrel
        by_cases hlt : k < n
        · have hrs : kth n q k < s.length := by rw [← HN.out]; exact kth_lt hn1 q k
          have hr1 : kth n q k < n := kth_lt hn1 q k
          have r1 : ((k : Int) + (q : Int)) % (n : Int) = ((kth n q k : Nat) : Int) := by unfold kth; rw [← Int.natCast_add]; exact (Int.natCast_emod _ _).symm
          have HT : Hid (startOf s q (k + 1) = startOf s q k + (s[kth n q k] + (1 + g % 40))) := Lib.hid (by
            rw [← HG.out]
            show startOf s q k + (s.getD (kth s.length q k) 0 + gapOf s.length q) = _
            rw [← HN.out, getD_at s 0 hrs])
          have HL : Hid (fillTo s q (k + 1) = (fillTo s q k).set (kth n q k) (startOf s q k)) := Lib.hid (by rw [HN.out]; rfl)
          obtain ⟨b2, o2, rfl, hc⟩ := hn.some hrs
          have c0 := hc _ hrs
          have hb2 : b2 < w.heap.size := World.block_lt_of_cell? _ _ c0
          have c1 := cell_later hw c0
          have hx := HS.out.2.2 _ (List.getElem_mem hrs)
          have hst := start_le HS.out q k
          have hfr := hownr.frozenAt (kth n q k)
          have hl : kth n q k < (fillTo s q k).length := by rw [length_fillTo]; exact hrs
          obtain ⟨u0, hcell⟩ : ∃ u, wr.cell? ⟨w.heap.size + 1, kth n q k, none⟩ = some u := ⟨_, (hownr.cellAt (kth n q k) (by omega)).trans (nrow_at _ _ hl)⟩
          have s1 := hownr.stored (kth n q k) (.int .i64 ((startOf s q k : Nat) : Int))
          rw [nrow_set, ← HL.out] at s1
          have c2 := s1.2.cell c1 (by simp; omega)
          have m0 := s1.2.cell l0 (by simp; omega)
          have m1 := s1.2.cell l1 (by simp; omega)
          have bx2 := hbx.kept s1.2 (by simp)
          have hw2 := hw.grown s1.2 hw.size (fun j hj => by cases hj; omega)
          have R1 := Lib.hid s1.1
          have R2 := Lib.hid bx2
          have R3 := Lib.hid hw2
          have HM0 := Lib.hid m0
          have HM1 := Lib.hid m1
          clear hc c0 s1 bx2 hw2 hl m0 m1 l1
          generalize kth n q k = r at *
          generalize startOf s q k = st at *
          generalize s[r] = y at *
          have i1 : (k : Int) < (n : Int) := by omega
          have i2 : (r : Int) < (n : Int) := by omega
          have i3 : 0 ≤ (r : Int) := by omega
          clear hlt hr1
          go_wp2
          go_quiet (fail)
          go_wp2
          go_roundw
          case rel => exact ⟨k + 1, by omega, by go_num, by rw [HT.out]; go_num, World.ownsRow.kept R1.out (grownBy_drewN _ none _) (.inr (by intro h; cases h)), R2.out.kept (grownBy_drewN _ none _) (by simp), below_drewN R3.out _, HM0.out, HM1.out⟩
          case measure => simp [intOf]; omega
        · obtain rfl : k = n := by omega
          have HM : Hid (fillTo s q k = mkB s q) := Lib.hid (by rw [HN.out]; rfl)
          rw [HM.out] at hownr
          obtain ⟨a1, cap1, hv1, hn1, hc1, _⟩ := NatsFrom.of_row hownr
          rw [length_mkB, ← HN.out] at hv1
          simp only [Value.slice.injEq, true_and] at hv1
          obtain ⟨rfl, rfl⟩ := hv1
          obtain ⟨⟨p0, p1, k0, k1⟩, k2, k3⟩ := hbx
          have sz : w.heap.size < wr.heap.size := World.block_lt_of_cell? _ _ k0
          have n1 := (hn1.kept (grownBy_cell wr w.heap.size 0 (.slice (some ⟨w.heap.size + 1, 0, none⟩) k k)) (fun d hd => by cases hd; omega)).kept (grownBy_cell _ w.heap.size 1 (.int .u16 ((keyOf q : Nat) : Int))) (fun d hd => by cases hd; omega)
          have hw2 := (hw.setCell (p := ⟨w.heap.size, 0, none⟩) (Nat.le_refl _) (.slice (some ⟨w.heap.size + 1, 0, none⟩) k k)).setCell (p := ⟨w.heap.size, 1, none⟩) (Nat.le_refl _) (.int .u16 ((keyOf q : Nat) : Int))
          have HO := Lib.hid (gives_ok HS.out hq (n1.mono (by omega)) (by rw [← HN.out]; exact Nat.le_refl _) hw2)
          rw [← HN.out] at HO
          clear n1 hw2 hownr hn1 hc1 hw HF HG HM
          go_wp2
          refine bodyPost_ret (v := .tuple #[.agg #[.slice (some ⟨w.heap.size + 1, 0, none⟩) k k, .int .u16 ((keyOf q : Nat) : Int)], .int .i64 0]) (by simp [results, Try.results6, go_sem, k0, k1]) rfl HO.out
end Go.Proofs.Ytaigkplalcnelaa
