/-
  Contract: Make.
-/
import Derived.Test.YtpjaflcljnfjmaaLay1
import Derived.Test.YtpjaflcljnfjmaaReg4
namespace Go.Proofs.Ytpjaflcljnfjmaa
open Go.RowKit

/-- A seed that Make takes, with valid sizes. -/
def okMk (xs : List Int) (seed : Int) : Bool := validB xs && decide (0 ≤ seed ∧ seed ≤ 1073741824)

/-- What Make answers: the bases, the key, the error. -/
def mkL (xs : List Int) (seed : Int) : List Nat := if okMk xs seed then mkB (xs.map Int.toNat) seed.toNat else []
def mkK (xs : List Int) (seed : Int) : Nat := if okMk xs seed then keyOf seed.toNat else 0
def mkE (xs : List Int) (seed : Int) : Int := if okMk xs seed then 0 else 1

/-- The call returns the layout of a seed in new memory. -/
def GivesLayout (xs : List Int) (seed : Int) (w : World) (e : Ending) (w' : World) : Prop :=
  ∃ a cap, e = .returned (.tuple #[.agg #[.slice a (mkL xs seed).length cap, .int .u16 ((mkK xs seed : Nat) : Int)], .int .i64 (mkE xs seed)]) ∧ NatsFrom w.heap.size .i64 w' a (mkL xs seed) ∧ (mkL xs seed).length ≤ cap ∧ Below w.heap.size w w'

theorem mk_bad {xs : List Int} {seed : Int} (h : okMk xs seed = false) : mkL xs seed = [] ∧ mkK xs seed = 0 ∧ mkE xs seed = 1 := by
  unfold mkL mkK mkE; rw [h]; exact ⟨rfl, rfl, rfl⟩

theorem mk_ok {s : List Nat} {seed : Nat} (hs : Sz s) (h : seed ≤ 1073741824) :
    mkL (s.map fun x : Nat => (x : Int)) (seed : Int) = mkB s seed ∧ mkK (s.map fun x : Nat => (x : Int)) (seed : Int) = keyOf seed ∧ mkE (s.map fun x : Nat => (x : Int)) (seed : Int) = 0 := by
  have e : okMk (s.map fun x : Nat => (x : Int)) (seed : Int) = true := by
    unfold okMk; rw [(validB_nat s).2 hs, Bool.true_and]; exact decide_eq_true ⟨by omega, by omega⟩
  unfold mkL mkK mkE
  rw [e, toNat_map, Int.toNat_natCast]
  exact ⟨rfl, rfl, rfl⟩

theorem gives_bad {xs : List Int} {seed : Int} (h : okMk xs seed = false) {w w' : World} (hb : Below w.heap.size w w') :
    GivesLayout xs seed w (.returned (.tuple #[.agg #[.slice none 0 0, .int .u16 0], .int .i64 1])) w' := by
  obtain ⟨e1, e2, e3⟩ := mk_bad h
  refine ⟨none, 0, ?_, ?_, ?_, hb⟩
  · rw [e1, e2, e3]; rfl
  · rw [e1]; exact .inl rfl
  · rw [e1]; simp

theorem gives_ok {s : List Nat} {seed : Nat} (hs : Sz s) (h : seed ≤ 1073741824) {w w' : World} {a : Option Addr} {cap : Nat} (ha : NatsFrom w.heap.size .i64 w' a (mkB s seed)) (hc : s.length ≤ cap) (hb : Below w.heap.size w w') :
    GivesLayout (s.map fun x : Nat => (x : Int)) (seed : Int) w (.returned (.tuple #[.agg #[.slice a s.length cap, .int .u16 ((keyOf seed : Nat) : Int)], .int .i64 0])) w' := by
  obtain ⟨e1, e2, e3⟩ := mk_ok hs h
  refine ⟨a, cap, ?_, ?_, ?_, hb⟩
  · rw [e1, e2, e3, length_mkB]
  · rw [e1]; exact ha
  · rw [e1, length_mkB]; exact hc

/-- The numbers of an ints' row. -/
def nrow (l : List Nat) : List Value := l.map fun x : Nat => Value.int .i64 (x : Int)

theorem nrow_set (l : List Nat) (i x : Nat) : (nrow l).set i (.int .i64 (x : Int)) = nrow (l.set i x) := by unfold nrow; rw [List.map_set]
theorem nrow_at (l : List Nat) (i : Nat) (h : i < l.length) : (nrow l)[i]? = some (.int .i64 ((l[i] : Nat) : Int)) := by unfold nrow; rw [List.getElem?_map, List.getElem?_eq_getElem h]; rfl

theorem key_wrap (q : Nat) : IntKind.u16.wrap (40503 * IntKind.u16.wrap (q : Int)) = ((keyOf q : Nat) : Int) ∧ IntKind.u16.wrap (40503 * (q : Int)) = ((keyOf q : Nat) : Int) := by
  unfold keyOf
  rw [IntKind.wrap_u16, IntKind.wrap_u16, IntKind.wrap_u16]
  omega

theorem nat_tdiv (a b : Nat) : (a : Int).tdiv (b : Int) = ((a / b : Nat) : Int) := by rw [Int.tdiv_eq_ediv_of_nonneg (by omega)]; exact (Int.natCast_ediv a b).symm
theorem nat_tmod (a b : Nat) : (a : Int).tmod (b : Int) = ((a % b : Nat) : Int) := by rw [Int.tmod_eq_emod_of_nonneg (by omega)]; exact (Int.natCast_emod a b).symm

set_option maxHeartbeats 1000000 in
theorem layout_Make (b : Option Addr) (xs : List Int) (cb : Nat) (seed : Int) (w : World) (lx : xs.length ≤ 1000000) (hb : IntsAt .i64 w b xs) :
    Calls Try.prog 13 #[.slice b xs.length cb, .int .i64 seed] w (GivesLayout xs seed w) := by
  have hB := Below.alloc (Below.refl w.heap.size w) (Nat.le_refl _) (.cells #[.slice none 0 0, .int .u16 0] 25)
  have HV := Lib.hid (region_Valid b xs cb _ (hb.later hB) lx)
  by_cases hv : validB xs = true
  case neg =>
    have hv : validB xs = false := by simpa using hv
    have HO : Hid (okMk xs seed = false) := Lib.hid (by unfold okMk; rw [hv, Bool.false_and])
    rw [hv] at HV
    clear hv hb
    go_enter Try.func13, Try.ntmps13
    go_wp2_with (go_at_call 26; (with_reducible refine HV.out.mono ?_); rintro e w' ⟨rfl, rfl⟩)
    refine bodyPost_ret (v := .tuple #[.agg #[.slice none 0 0, .int .u16 0], .int .i64 1]) (by simp [results, Try.results13, go_sem]) rfl (gives_bad HO.out ?_)
    exact Below.alloc (Below.refl w.heap.size w) (Nat.le_refl _) _
  case pos =>
    rw [hv] at HV
    by_cases hr : 0 ≤ seed ∧ seed ≤ 1073741824
    case neg =>
      have HO : Hid (okMk xs seed = false) := Lib.hid (by unfold okMk; rw [decide_eq_false hr, Bool.and_false])
      by_cases h0 : seed < 0
      · clear hr hb hv
        go_enter Try.func13, Try.ntmps13
        go_wp2_with (go_at_call 26; (with_reducible refine HV.out.mono ?_); rintro e w' ⟨rfl, rfl⟩)
        refine bodyPost_ret (v := .tuple #[.agg #[.slice none 0 0, .int .u16 0], .int .i64 1]) (by simp [results, Try.results13, go_sem]) rfl (gives_bad HO.out ?_)
        exact Below.alloc (Below.refl w.heap.size w) (Nat.le_refl _) _
      · have h1 : 1073741824 < seed := by omega
        clear hr hb hv
        go_enter Try.func13, Try.ntmps13
        go_wp2_with (go_at_call 26; (with_reducible refine HV.out.mono ?_); rintro e w' ⟨rfl, rfl⟩)
        refine bodyPost_ret (v := .tuple #[.agg #[.slice none 0 0, .int .u16 0], .int .i64 1]) (by simp [results, Try.results13, go_sem]) rfl (gives_bad HO.out ?_)
        exact Below.alloc (Below.refl w.heap.size w) (Nat.le_refl _) _
    case pos =>
      obtain ⟨q, rfl⟩ : ∃ q : Nat, seed = (q : Int) := ⟨seed.toNat, by omega⟩
      have hq : q ≤ 1073741824 := by omega
      obtain ⟨s, hs, rfl⟩ := validB_some hv
      rw [List.length_map] at HV ⊢
      have hn : NatsAt .i64 w b s := by
        have := nats_of hb (by intro x hx; obtain ⟨y, _, rfl⟩ := List.mem_map.1 hx; omega)
        rwa [toNat_map] at this
      clear hb hv lx hr
      obtain ⟨i0, hi, hz0, hz1, hz2⟩ := info_parts info_int
      have HS := Lib.hid hs
      obtain ⟨n, hnl⟩ : ∃ n : Nat, n = s.length := ⟨_, rfl⟩
      have HN := Lib.hid hnl
      have hn1 : 1 ≤ n := by rw [hnl]; exact hs.1
      have hn4 : n ≤ 4 := by rw [hnl]; exact hs.2.1
      rw [← hnl] at HV ⊢
      clear hnl hs
      have d0 : ((n : Int) == 0) = false := by rw [beq_eq_false_iff_ne]; omega
      have d1 : (50 * (n : Int) == 0) = false := by rw [beq_eq_false_iff_ne]; omega
      have d2 : IntKind.i64.wrap (50 * (n : Int)) = 50 * (n : Int) := IntWalk.i64_in _ (by omega)
      have HG : Hid (gapOf s.length q = 1 + q / (50 * n) % 40) := Lib.hid (by rw [← HN.out]; rfl)
      have HF : Hid (startOf s q 0 = 1 + q / n % 50) := Lib.hid (by rw [HN.out]; rfl)
      have e1 : (q : Int) / (50 * (n : Int)) = ((q / (50 * n) : Nat) : Int) := by rw [show (50 * (n : Int)) = ((50 * n : Nat) : Int) by omega]; exact (Int.natCast_ediv _ _).symm
      have e2 : (q : Int) / (n : Int) = ((q / n : Nat) : Int) := (Int.natCast_ediv _ _).symm
      have e3 := Nat.div_le_self q (50 * n)
      have e4 := Nat.div_le_self q n
      generalize q / (50 * n) = g at *
      generalize q / n = f at *
      go_enter Try.func13, Try.ntmps13
      go_wp2_with (first
        | (go_at_call 26; (with_reducible refine HV.out.mono ?_); rintro e w' ⟨rfl, rfl⟩)
        | (at_make; refine wpList_make_full _ rfl _ _ 22 rfl (w.heap.size + 1) 3 i0 (.int .i64 0) 1 Try.underlying22 hi hz0 hz1 .i64 .i64 _ _ n rfl rfl rfl rfl ?c1 ?c2 ?c3 ?_))
      case c1 => rw [hz2]; omega
      case c2 => unfold maxLen; omega
      case c3 => simp
      intro w1 hown hg
      have hbox := (Box.new w (.slice none 0 0) (.int .u16 0) 25).kept hg (by simp)
      have hbel := hB.grown hg (by simp) (fun k hk => by cases hk)
      rw [show (madeCells #[Value.int .i64 0] n).toList = nrow (fillTo s q 0) by rw [toList_madeCells_one, HN.out]; simp [nrow, fillTo]] at hown
      clear hg HV hB
      go_wp2
      go_loopw [9, 10, 11, 40] (fun x _ _ c wr => ∃ k : Nat, k ≤ n ∧ c = .int .i64 k ∧ x = .int .i64 ((startOf s q k : Nat) : Int) ∧ wr.ownsRow (w.heap.size + 1) 3 1 (.slice (some ⟨w.heap.size + 1, 0, none⟩) n n) n (nrow (fillTo s q k)) ∧ Box wr w.heap.size ∧ Below w.heap.size w wr) (fun _ _ _ c _ => n - (intOf c).toNat)
      case atStart => exact ⟨0, by omega, rfl, by rw [HF.out]; go_num, by simpa using hown, hbox, hbel⟩
      case round =>
        obtain ⟨k, hk, rfl, rfl, hownr, hbx, hw⟩ := hrel
        by_cases hlt : k < n
        · have hrs : kth n q k < s.length := by rw [← HN.out]; exact kth_lt hn1 q k
          have hr1 : kth n q k < n := kth_lt hn1 q k
          have r1 : ((k : Int) + (q : Int)) % (n : Int) = ((kth n q k : Nat) : Int) := by unfold kth; rw [← Int.natCast_add]; exact (Int.natCast_emod _ _).symm
          have HT : Hid (startOf s q (k + 1) = startOf s q k + (s[kth n q k] + (1 + g % 40))) := Lib.hid (by
            rw [← HG.out]
            show startOf s q k + (s.getD (kth s.length q k) 0 + gapOf s.length q) = _
            rw [← HN.out, getD_at s 0 hrs])
          have HL : Hid (fillTo s q (k + 1) = (fillTo s q k).set (kth n q k) (startOf s q k)) := Lib.hid (by rw [HN.out]; rfl)
          obtain ⟨b2, o2, rfl, hc⟩ := hn.some hrs
          have c0 := hc _ hrs
          have hb2 : b2 < w.heap.size := World.block_lt_of_cell? _ _ c0
          have c1 := cell_later hw c0
          have hx := HS.out.2.2 _ (List.getElem_mem hrs)
          have hst := start_le HS.out q k
          have hfr := hownr.frozenAt (kth n q k)
          have hl : kth n q k < (fillTo s q k).length := by rw [length_fillTo]; exact hrs
          obtain ⟨u0, hcell⟩ : ∃ u, wr.cell? ⟨w.heap.size + 1, kth n q k, none⟩ = some u := ⟨_, (hownr.cellAt (kth n q k) (by omega)).trans (nrow_at _ _ hl)⟩
          have s1 := hownr.stored (kth n q k) (.int .i64 ((startOf s q k : Nat) : Int))
          rw [nrow_set, ← HL.out] at s1
          have c2 := s1.2.cell c1 (by simp; omega)
          have bx2 := hbx.kept s1.2 (by simp)
          have hw2 := hw.grown s1.2 hw.size (fun j hj => by cases hj; omega)
          have R1 := Lib.hid s1.1
          have R2 := Lib.hid bx2
          have R3 := Lib.hid hw2
          clear hc c0 s1 bx2 hw2 hl
          generalize kth n q k = r at *
          generalize startOf s q k = st at *
          generalize s[r] = y at *
          have i1 : (k : Int) < (n : Int) := by omega
          have i2 : (r : Int) < (n : Int) := by omega
          have i3 : 0 ≤ (r : Int) := by omega
          have i4 : (s.length : Int) = (n : Int) := by have := HN.out; omega
          clear hlt hr1
          go_wp2
          go_roundw
          case rel => exact ⟨k + 1, by omega, by go_num, by rw [HT.out]; go_num, R1.out, R2.out, R3.out⟩
          case measure => simp [intOf]; omega
        · obtain rfl : k = n := by omega
          have HM : Hid (fillTo s q k = mkB s q) := Lib.hid (by rw [HN.out]; rfl)
          rw [HM.out] at hownr
          obtain ⟨a1, cap1, hv1, hn1, hc1, _⟩ := NatsFrom.of_row hownr
          rw [length_mkB, ← HN.out] at hv1
          simp only [Value.slice.injEq, true_and] at hv1
          obtain ⟨rfl, rfl⟩ := hv1
          obtain ⟨⟨p0, p1, k0, k1⟩, k2, k3⟩ := hbx
          have sz : w.heap.size < wr.heap.size := World.block_lt_of_cell? _ _ k0
          have e6 := (key_wrap q).1
          have n1 := (hn1.kept (grownBy_cell wr w.heap.size 0 (.slice (some ⟨w.heap.size + 1, 0, none⟩) k k)) (fun d hd => by cases hd; omega)).kept (grownBy_cell _ w.heap.size 1 (.int .u16 ((keyOf q : Nat) : Int))) (fun d hd => by cases hd; omega)
          have hw2 := (hw.setCell (p := ⟨w.heap.size, 0, none⟩) (Nat.le_refl _) (.slice (some ⟨w.heap.size + 1, 0, none⟩) k k)).setCell (p := ⟨w.heap.size, 1, none⟩) (Nat.le_refl _) (.int .u16 ((keyOf q : Nat) : Int))
          have HO := Lib.hid (gives_ok HS.out hq (n1.mono (by omega)) (by rw [← HN.out]; exact Nat.le_refl _) hw2)
          rw [← HN.out] at HO
          clear n1 hw2 hownr hn1 hc1 hw HF HG HM
          go_wp2
          refine bodyPost_ret (v := .tuple #[.agg #[.slice (some ⟨w.heap.size + 1, 0, none⟩) k k, .int .u16 ((keyOf q : Nat) : Int)], .int .i64 0]) (by simp [results, Try.results13, go_sem, k0, k1]) rfl HO.out
end Go.Proofs.Ytpjaflcljnfjmaa
