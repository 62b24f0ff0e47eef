/-
  Contracts: placesOfPage, Page and the document's own Page.
-/
import Derived.Test.YtfpekljghcffbaaReg1
import Derived.Test.YtfpekljghcffbaaPlaces
namespace Go.Proofs.Ytfpekljghcffbaa
open Go.RowKit

theorem placesof_any (r n p : Nat) (w : World) (hn : n ≤ 32) (hp : p < pg n) :
    Calls Try.prog 32 #[.int .i64 (r : Int), .int .i64 (n : Int), .int .i64 (p : Int)] w (GivesPlaces (placesOf (r, n, p)) w) := by
  obtain ⟨i0, hi, hz0, hz1, hz2⟩ := info_parts info_place
  have hp2 : 8 * p + 1 ≤ n ∧ p ≤ 4 := by unfold pg at hp; omega
  obtain ⟨N, hN1, hN2, hN3⟩ : ∃ N : Nat, N = min 8 (n - 8 * p) ∧ N ≤ 8 ∧ N + 8 * p ≤ n := ⟨_, rfl, by omega, by omega⟩
  have hP : Hid (placesOf (r, n, p) = (List.range N).map (fun j => (r, p * 8 + j))) := Lib.hid (by unfold placesOf; rw [hN1, Nat.mul_comm p 8])
  have hmin : (8 ≤ (n : Int) - (p : Int) * 8 ∧ N = 8) ∨ ((n : Int) - (p : Int) * 8 < 8 ∧ (N : Int) = (n : Int) - (p : Int) * 8) := by omega
  clear hp hN1
  rcases hmin with ⟨hm1, hm2⟩ | ⟨hm1, hm2⟩
  all_goals
    have HM := Lib.hid hm2
    clear hm2
    go_enter Try.func32, Try.ntmps32
    go_wp2_with (first
      | (at_make; refine wpList_make_full _ rfl _ _ 35 rfl w.heap.size 33 i0 (.agg #[.int .i64 0, .int .i64 0]) 2 Try.underlying35 hi hz0 hz1 .i64 .i64 _ _ N rfl rfl ?l1 ?l2 ?c1 ?c2 ?c3 ?_))
    case l1 => have := HM.out; omega
    case l2 => have := HM.out; omega
    case c1 => rw [hz2]; omega
    case c2 => unfold maxLen; omega
    case c3 => omega
    intro w1 hown hg
    clear hm1 HM
    rw [madeCells_place, show List.replicate N (0, 0) = rowsTo r (p * 8) N 0 by simp [rowsTo]] at hown
    have hbel := (Below.refl w.heap.size w).grown hg (Nat.le_refl _) (fun k hk => by cases hk)
    clear hg
    go_wp2
    go_loopw [9, 19] (fun _ c wr => ∃ k : Nat, k ≤ N ∧ c = .int .i64 k ∧ wr.ownsRow w.heap.size 33 2 (.slice (some ⟨w.heap.size, 0, none⟩) N N) N (flatP (rowsTo r (p * 8) N k)) ∧ Below w.heap.size w wr) (fun _ c _ => N - (intOf c).toNat)
    case atStart => exact ⟨0, by omega, rfl, hown, hbel⟩
    case round =>
      obtain ⟨k, hk, rfl, hownr, hw⟩ := hrel
      by_cases hlt : k < N
      · have hS := Lib.hid (rowsTo_set r (p * 8) N k hlt)
        have d1 := hownr.cellAt (k * 2) (by omega)
        have d2 := hownr.cellAt (k * 2 + 1) (by omega)
        rw [(rowsTo_at r (p * 8) N k hlt).1] at d1
        rw [(rowsTo_at r (p * 8) N k hlt).2] at d2
        have f1 := hownr.frozenAt (k * 2)
        have f2 := hownr.frozenAt (k * 2 + 1)
        have hi9 : (k : Int) < (N : Int) := by omega
        have s1 := hownr.stored (k * 2) (.int .i64 (r : Int))
        have s2 := s1.1.stored (k * 2 + 1) (.int .i64 ((p : Int) * 8 + (k : Int)))
        have hB := (hw.grown s1.2 hw.size (fun j hj => by cases hj; exact Nat.le_refl _)).grown s2.2 (by have := hw.size; simpa using this) (fun j hj => by cases hj; exact Nat.le_refl _)
        have hF := flatP_set (rowsTo r (p * 8) N k) k r (p * 8 + k)
        rw [hS.out, show ((p * 8 + k : Nat) : Int) = (p : Int) * 8 + (k : Int) by omega] at hF
        have r1 := s2.1
        rw [hF] at r1
        clear s1 s2 hF
        have R1 := Lib.hid r1
        have R2 := Lib.hid hB
        clear r1 hB
        go_wp2
        go_roundw
        case rel => exact ⟨k + 1, by omega, by go_num, R1.out, R2.out⟩
        case measure => simp [intOf]; omega
      · have hkn : k = N := by omega
        have hG : PlacesAt wr (some ⟨w.heap.size, 0, none⟩) (placesOf (r, n, p)) := by
          subst hkn
          rw [rowsTo_full] at hownr
          obtain ⟨_, a2, cap2, hv, hn⟩ := PlacesAt.of_row hownr
          simp only [Value.slice.injEq] at hv
          obtain ⟨rfl, _, rfl⟩ := hv
          rw [hP.out]
          exact hn
        have hlen : Hid ((placesOf (r, n, p)).length = N) := Lib.hid (by rw [hP.out]; simp)
        have HG : Hid (GivesPlaces (placesOf (r, n, p)) w (.returned (.slice (some ⟨w.heap.size, 0, none⟩) N N)) wr) := Lib.hid ⟨_, N, by rw [hlen.out], hG, hw⟩
        clear hkn hG hownr hown
        go_wp2
        go_ret
        exact HG.out

/-- Page i. -/
def pageO (s : List Nat) (i : Int) : Option (Nat × Nat × Nat) := if 0 ≤ i then pageF 0 s i.toNat else none

/-- What Page answers: the places, the error. -/
def pagePl (s : List Nat) (i : Int) : List (Nat × Nat) := match pageO s i with | some x => placesOf x | none => []
def pageE (s : List Nat) (i : Int) : Int := match pageO s i with | some _ => 0 | none => 6

theorem page_some {s : List Nat} {i : Int} {x : Nat × Nat × Nat} (h : pageO s i = some x) : pagePl s i = placesOf x ∧ pageE s i = 0 := by
  unfold pagePl pageE; rw [h]; exact ⟨rfl, rfl⟩

theorem page_none {s : List Nat} {i : Int} (h : pageO s i = none) : pagePl s i = [] ∧ pageE s i = 6 := by
  unfold pagePl pageE; rw [h]; exact ⟨rfl, rfl⟩

theorem pageO_neg {s : List Nat} {i : Int} (h : i < 0) : pageO s i = none := by unfold pageO; rw [if_neg (by omega)]
theorem pageO_nat (s : List Nat) (n : Nat) : pageO s (n : Int) = pageF 0 s n := by unfold pageO; rw [if_pos (by omega), Int.toNat_natCast]

/-- The call returns the places of a page in new memory, or none and the error. -/
def GivesPage (s : List Nat) (i : Int) (w : World) (e : Ending) (w' : World) : Prop :=
  ∃ a cap, e = .returned (.tuple #[.slice a (pagePl s i).length cap, .int .i64 (pageE s i)]) ∧ PlacesAt w' a (pagePl s i) ∧ Below w.heap.size w w'

theorem gives_none {s : List Nat} {i : Int} {w w' : World} (h : pageO s i = none) (hb : Below w.heap.size w w') : GivesPage s i w (.returned (.tuple #[.slice none 0 0, .int .i64 6])) w' := by
  obtain ⟨e1, e2⟩ := page_none h
  refine ⟨none, 0, ?_, ?_, hb⟩
  · rw [e1, e2]; rfl
  · rw [e1]; exact .inl rfl

theorem gives_some {s : List Nat} {i : Int} {w w' : World} {x : Nat × Nat × Nat} {a : Option Addr} {cap : Nat} (h : pageO s i = some x) (hp : PlacesAt w' a (placesOf x)) (hb : Below w.heap.size w w') :
    GivesPage s i w (.returned (.tuple #[.slice a (placesOf x).length cap, .int .i64 0])) w' := by
  obtain ⟨e1, e2⟩ := page_some h
  refine ⟨a, cap, ?_, ?_, hb⟩
  · rw [e1, e2]
  · rw [e1]; exact hp

set_option maxHeartbeats 1000000 in
theorem page_any (a : Option Addr) (s : List Nat) (cap : Nat) (i : Int) (w : World) (hi : i ≤ 9223372036854775807) (hs : Sz s) (ha : NatsAt .i64 w a s) :
    Calls Try.prog 25 #[.slice a s.length cap, .int .i64 i] w (GivesPage s i w) := by
  by_cases h0 : i < 0
  · have HG := Lib.hid (gives_none (s := s) (w := w) (pageO_neg h0) (Below.refl _ _))
    clear hs ha
    go_enter Try.func25, Try.ntmps25
    go_wp2
    go_ret2
    exact HG.out
  · obtain ⟨n, rfl⟩ : ∃ n : Nat, i = (n : Int) := ⟨i.toNat, by omega⟩
    have HV := Lib.hid (regions_any a s cap _ hs ha)
    have HS := Lib.hid hs
    have hl4 := hs.2.1
    clear hs
    go_enter Try.func25, Try.ntmps25
    go_wp2_with (go_at_call 30; (with_reducible refine HV.out.mono ?_); rintro e w' ⟨rfl, rfl⟩)
    go_loop [6, 7, 8, 9, 16] (fun l _ _ _ c => ∃ k m : Nat, k ≤ s.length ∧ m ≤ n ∧ c = .int .i64 k ∧ l = .int .i64 (m : Int) ∧ pageF 0 s n = pageF k (s.drop k) m) (fun _ _ _ _ c => s.length - (intOf c).toNat)
    case atStart => exact ⟨0, n, by omega, by omega, rfl, rfl, rfl⟩
    case round =>
      obtain ⟨k, m, hk, hm, rfl, rfl, heq⟩ := hrel
      have HE := Lib.hid heq
      clear heq
      by_cases hlt : k < s.length
      · obtain ⟨b, off, rfl, hc⟩ := ha.some hlt
        have c1 := hc k hlt
        clear hc
        have i1 : (k : Int) < (s.length : Int) := by omega
        have hx := HS.out.2.2 _ (List.getElem_mem hlt)
        have hH := Lib.hid (fun hj : m < pg s[k] => HE.out.trans (pageF_here s k m hlt hj))
        have hN := Lib.hid (fun hj : ¬ m < pg s[k] => HE.out.trans (pageF_next s k m hlt hj))
        generalize s[k] = x at *
        have hP := Lib.hid (fun W => pagesof_any x W hx.2)
        have hp4 := pg_le hx.2
        by_cases hj : m < pg x
        · have HO : Hid (pageO s (n : Int) = some (k, x, m)) := Lib.hid (by rw [pageO_nat]; exact hH.out hj)
          have hQ := Lib.hid (placesof_any k x m w hx.2 hj)
          go_wp2_with (first
            | (go_at_call 31; (with_reducible refine (hP.out _).mono ?_); rintro e w' ⟨rfl, rfl⟩)
            | (go_at_call 32; (with_reducible refine hQ.out.mono ?_); rintro e w1 ⟨a1, cap1, rfl, hp1, hb1⟩))
          go_ret2
          exact gives_some HO.out hp1 hb1
        · have hn := Lib.hid (hN.out hj)
          go_wp2_with (first
            | (go_at_call 31; (with_reducible refine (hP.out _).mono ?_); rintro e w' ⟨rfl, rfl⟩))
          go_round
          case rel => exact ⟨k + 1, m - pg x, by omega, by omega, by go_num, by go_num, hn.out⟩
          case measure => simp [intOf]; omega
      · have HO : Hid (pageO s (n : Int) = none) := Lib.hid (by rw [pageO_nat, HE.out]; exact pageF_end s k m (by omega))
        have HG := Lib.hid (gives_none (w := w) HO.out (Below.refl _ _))
        go_wp2
        go_ret2
        exact HG.out

theorem rows_snoc (r f j : Nat) : flatP ((List.range j).map (fun j => (r, f + j))) ++ [.int .i64 (r : Int), .int .i64 ((f + j : Nat) : Int)] = flatP ((List.range (j + 1)).map (fun j => (r, f + j))) := by
  rw [List.range_succ, List.map_append, flatP_append]; rfl

set_option maxHeartbeats 1000000 in
theorem rpage_any (a : Option Addr) (s : List Nat) (cap : Nat) (i : Int) (w : World) (hi : i ≤ 9223372036854775807) (hs : Sz s) (ha : NatsAt .i64 w a s) :
    Calls Try.prog 26 #[.slice a s.length cap, .int .i64 i] w (GivesPage s i w) := by
  have HV := Lib.hid (rpages_any a s cap w hs ha)
  by_cases h0 : i < 0
  · have HG := Lib.hid (gives_none (s := s) (w := w) (pageO_neg h0) (Below.refl _ _))
    clear hs ha
    go_enter Try.func26, Try.ntmps26
    go_wp2
    go_ret2
    exact HG.out
  · obtain ⟨n, rfl⟩ : ∃ n : Nat, i = (n : Int) := ⟨i.toNat, by omega⟩
    have hpl := hs.pages_le
    by_cases h1 : pagesN s ≤ n
    · have HG := Lib.hid (gives_none (s := s) (w := w) (by rw [pageO_nat]; exact (pageF_none s 0 n).2 h1) (Below.refl _ _))
      clear hs ha
      go_enter Try.func26, Try.ntmps26
      go_wp2_with (go_at_call 17; (with_reducible refine HV.out.mono ?_); rintro e w' ⟨rfl, rfl⟩)
      go_ret2
      exact HG.out
    · obtain ⟨i0, hi, hz0, hz1, hz2⟩ := info_parts info_place
      have HNE : Hid (pageF 0 s n ≠ none) := Lib.hid (fun h => h1 ((pageF_none s 0 n).1 h))
      have HS := Lib.hid hs
      have hl4 := hs.2.1
      clear hs
      go_enter Try.func26, Try.ntmps26
      go_wp2_with (go_at_call 17; (with_reducible refine HV.out.mono ?_); rintro e w' ⟨rfl, rfl⟩)
      go_loop [1, 6, 7] (fun l c _ => ∃ k m : Nat, k ≤ s.length ∧ m ≤ n ∧ c = .int .i64 k ∧ l = .int .i64 (m : Int) ∧ pageF 0 s n = pageF k (s.drop k) m) (fun _ c _ => s.length - (intOf c).toNat)
      case atStart => exact ⟨0, n, by omega, by omega, rfl, rfl, rfl⟩
      case round =>
        obtain ⟨k, m, hk, hm, rfl, rfl, heq⟩ := hrel
        have HE := Lib.hid heq
        clear heq
        have hlt : k < s.length := by
          by_cases h : k < s.length
          · exact h
          · exact absurd (HE.out.trans (pageF_end s k m (by omega))) HNE.out
        obtain ⟨b, off, rfl, hc⟩ := ha.some hlt
        have c1 := hc k hlt
        clear hc
        have i1 : (k : Int) < (s.length : Int) := by omega
        have hx := HS.out.2.2 _ (List.getElem_mem hlt)
        have hH := Lib.hid (fun hj : m < pg s[k] => HE.out.trans (pageF_here s k m hlt hj))
        have hN := Lib.hid (fun hj : ¬ m < pg s[k] => HE.out.trans (pageF_next s k m hlt hj))
        generalize s[k] = x at *
        have hp4 := pg_le hx.2
        have hpi := pg_int x
        by_cases hj : m < pg x
        · have HO : Hid (pageO s (n : Int) = some (k, x, m)) := Lib.hid (by rw [pageO_nat]; exact hH.out hj)
          have hp2 : 8 * m + 1 ≤ x ∧ m ≤ 4 := by unfold pg at hj; omega
          obtain ⟨N, hN1, hN2, hN3⟩ : ∃ N : Nat, N = min 8 (x - 8 * m) ∧ N ≤ 8 ∧ N + 8 * m ≤ x := ⟨_, rfl, by omega, by omega⟩
          have hP : Hid (placesOf (k, x, m) = (List.range N).map (fun j => (k, m * 8 + j))) := Lib.hid (by unfold placesOf; rw [hN1, Nat.mul_comm m 8])
          have HN := Lib.hid hN1
          clear hN1
          go_wp2
          go_loopw [8, 9] (fun v c wr => ∃ j : Nat, j ≤ N ∧ c = .int .i64 ((m : Int) * 8 + (j : Int)) ∧ wr.ownsRow w.heap.size 33 2 v j (flatP ((List.range j).map (fun j => (k, m * 8 + j)))) ∧ Below w.heap.size w wr) (fun _ c _ => x - (intOf c).toNat)
          case atStart => exact ⟨0, by omega, by go_num, World.ownsRow_nil _ _ _ _, Below.refl _ _⟩
          case round =>
            obtain ⟨j, hj9, rfl, hown, hw⟩ := hrel
            have d1 := cell_later hw c1
            have hNv := HN.out
            by_cases hlt2 : j < N
            · have hS := Lib.hid (rows_snoc k (m * 8) j)
              rw [show ((m * 8 + j : Nat) : Int) = (m : Int) * 8 + (j : Int) by omega] at hS
              have g1 : (m : Int) * 8 + (j : Int) < (x : Int) := by omega
              have g2 : (m : Int) * 8 + (j : Int) < ((m : Int) + 1) * 8 := by omega
              clear hNv
              go_wp2_with (first
                | (at_builtin; refine wpList_append_own _ rfl _ _ 35 rfl w.heap.size 33 i0 (.agg #[.int .i64 0, .int .i64 0]) 2 16 Try.underlying35 hi hz0 hz1 hz2 rfl (by decide) _ _ _ rfl (hown.alloc _) ⟨wr.heap.size, 0, none⟩ 1 1 [.int .i64 (k : Int), .int .i64 ((m : Int) * 8 + (j : Int))] rfl rfl ?c1 ?c2 ?c3 ?c4 ?c5 ?_))
              case c1 => exact World.news_of_block (cs := #[.int .i64 (k : Int), .int .i64 ((m : Int) * 8 + (j : Int))]) (t := 33) (fr := (0, 0)) (heap_alloc_new wr _)
              case c2 => simp [Value.oneCell']
              case c3 => unfold maxLen; omega
              case c4 => omega
              case c5 => have := hw.size; simp; omega
              intro v' w2 hown2 hgrow _h3
              have hB := (hw.alloc hw.size (.cells #[.int .i64 (k : Int), .int .i64 ((m : Int) * 8 + (j : Int))] 33)).grown hgrow (by have := hw.size; simp; omega) (fun q hq => (hown.lt q hq).1)
              rw [hS.out] at hown2
              clear hgrow _h3 hown d1
              go_wp2
              go_roundw
              case rel => exact ⟨j + 1, by omega, by go_num, hown2, hB⟩
              case measure => simp [intOf]; omega
            · obtain rfl : j = N := by omega
              have hG : ∃ a2 cap2, u8 = .slice a2 (placesOf (k, x, m)).length cap2 ∧ PlacesAt wr a2 (placesOf (k, x, m)) := by
                have := (PlacesAt.of_row hown).2
                rw [← hP.out] at this
                exact this
              obtain ⟨a2, cap2, rfl, hn⟩ := hG
              have HG := Lib.hid (gives_some (w := w) (cap := cap2) HO.out hn hw)
              clear hn hown
              by_cases g1 : (x : Int) ≤ (m : Int) * 8 + (j : Int)
              · clear hNv
                go_wp2
                go_ret2
                exact HG.out
              · have g2 : ((m : Int) + 1) * 8 ≤ (m : Int) * 8 + (j : Int) := by omega
                clear hNv
                go_wp2
                go_ret2
                exact HG.out
        · have hn := Lib.hid (hN.out hj)
          go_wp2
          go_round
          case rel => exact ⟨k + 1, m - pg x, by omega, by omega, by go_num, by go_num, hn.out⟩
          case measure => simp [intOf]; omega
end Go.Proofs.Ytfpekljghcffbaa
