/-
  A program in memory (any ints, any words); which are good: the document's Good.
-/
import Derived.Test.YtejbmidgnagcdaaGreatDoorIns2
import Derived.Test.YtejbmidgnagcdaaGreatDoorReg1
namespace Go.Proofs.YtejbmidgnagcdaaGreatDoor
open Go.RowKit
set_option maxRecDepth 100000

/-- Lists of words in memory: the table's cells are slices. -/
def DatAt (w : World) (ad : Option Addr) (L : List (List Nat)) : Prop :=
  L = [] ∨ ∃ b off, ad = some ⟨b, off, none⟩ ∧ ∀ i (h : i < L.length), ∃ a c, w.cell? ⟨b, off + i, none⟩ = some (.slice a L[i].length c) ∧ NatsAt .u16 w a L[i]

/-- Instructions in memory. -/
def CodeAt (w : World) (ac : Option Addr) (C : List Ins) : Prop :=
  C = [] ∨ ∃ b off, ac = some ⟨b, off, none⟩ ∧ ∀ i (h : i < C.length), w.cell? ⟨b, off + i * 5, none⟩ = some (.int .i64 C[i].op) ∧ w.cell? ⟨b, off + i * 5 + 1, none⟩ = some (.int .i64 C[i].a) ∧
    w.cell? ⟨b, off + i * 5 + 2, none⟩ = some (.int .i64 C[i].b) ∧ w.cell? ⟨b, off + i * 5 + 3, none⟩ = some (.int .i64 C[i].c) ∧ w.cell? ⟨b, off + i * 5 + 4, none⟩ = some (.int .i64 C[i].imm)

theorem ints_later7 {k : IntKind} {w w' : World} {a : Option Addr} {xs : List Int} (h : IntsAt k w a xs) (hb : Below w.heap.size w w') : IntsAt k w' a xs := by
  rcases h with h | ⟨b, off, ha, hc⟩
  · exact .inl h
  · exact .inr ⟨b, off, ha, fun j hj => cell_later hb (hc j hj)⟩

theorem DatAt.later {w w' : World} {ad : Option Addr} {L : List (List Nat)} (h : DatAt w ad L) (hb : Below w.heap.size w w') : DatAt w' ad L := by
  rcases h with h | ⟨b, off, ha, hc⟩
  · exact .inl h
  · refine .inr ⟨b, off, ha, fun i hi => ?_⟩
    obtain ⟨a, c, h1, h2⟩ := hc i hi
    exact ⟨a, c, cell_later hb h1, h2.later hb⟩

theorem CodeAt.later {w w' : World} {ac : Option Addr} {C : List Ins} (h : CodeAt w ac C) (hb : Below w.heap.size w w') : CodeAt w' ac C := by
  rcases h with h | ⟨b, off, ha, hc⟩
  · exact .inl h
  · refine .inr ⟨b, off, ha, fun i hi => ?_⟩
    obtain ⟨h0, h1, h2, h3, h4⟩ := hc i hi
    exact ⟨cell_later hb h0, cell_later hb h1, cell_later hb h2, cell_later hb h3, cell_later hb h4⟩

theorem DatAt.some {w : World} {ad : Option Addr} {L : List (List Nat)} (h : DatAt w ad L) {j : Nat} (hj : j < L.length) :
    ∃ b off, ad = Option.some ⟨b, off, none⟩ ∧ ∀ i (h : i < L.length), ∃ a c, w.cell? ⟨b, off + i, none⟩ = Option.some (.slice a L[i].length c) ∧ NatsAt .u16 w a L[i] := by
  rcases h with rfl | h
  · simp at hj
  · exact h

theorem CodeAt.some {w : World} {ac : Option Addr} {C : List Ins} (h : CodeAt w ac C) {j : Nat} (hj : j < C.length) :
    ∃ b off, ac = Option.some ⟨b, off, none⟩ ∧ ∀ i (h : i < C.length), w.cell? ⟨b, off + i * 5, none⟩ = Option.some (.int .i64 C[i].op) ∧ w.cell? ⟨b, off + i * 5 + 1, none⟩ = Option.some (.int .i64 C[i].a) ∧
    w.cell? ⟨b, off + i * 5 + 2, none⟩ = Option.some (.int .i64 C[i].b) ∧ w.cell? ⟨b, off + i * 5 + 3, none⟩ = Option.some (.int .i64 C[i].c) ∧ w.cell? ⟨b, off + i * 5 + 4, none⟩ = Option.some (.int .i64 C[i].imm) := by
  rcases h with rfl | h
  · simp at hj
  · exact h

/-- An instruction of a program of n regions and m instructions. -/
def goodIns (n m : Nat) (x : Ins) : Prop := vinB x = true ∧ (jumpB x.op = true → x.imm < (m : Int)) ∧ (x.op = 15 → x.imm < (n : Int))

/-- Which programs are good. -/
def GoodPg (C : List Ins) (s : List Int) (L : List (List Nat)) : Prop :=
  validB s = true ∧ L.length = s.length ∧ 1 ≤ C.length ∧ C.length ≤ 64 ∧ (∀ i (h : i < L.length) (h2 : i < s.length), (L[i].length : Int) ≤ s[i]) ∧ ∀ i (h : i < C.length), goodIns s.length C.length C[i]

/-- The call says whether it is so. -/
def Says (p : Prop) (w : World) (e : Ending) (w' : World) : Prop := ∃ g : Bool, e = .returned (.bool g) ∧ (g = true ↔ p) ∧ Below w.heap.size w w'

theorem says_no {p : Prop} {w w' : World} (hb : Below w.heap.size w w') (h : ¬ p) : Says p w (.returned (.bool false)) w' := ⟨false, rfl, by simp [h], hb⟩
theorem says_yes {p : Prop} {w w' : World} (hb : Below w.heap.size w w') (h : p) : Says p w (.returned (.bool true)) w' := ⟨true, rfl, by simp [h], hb⟩

set_option maxHeartbeats 2000000 in
theorem ref07_Good (ac a2 ad : Option Addr) (C : List Ins) (s : List Int) (L : List (List Nat)) (cc c2 cd : Nat) (w : World) (hc : CodeAt w ac C) (hs : IntsAt .i64 w a2 s) (hd : DatAt w ad L) (lc : C.length ≤ 1000000) (ls : s.length ≤ 1000000) (ld : L.length ≤ 1000000) (lr : ∀ l ∈ L, l.length ≤ 1000000) :
    Calls Tryz.prog 35 #[.agg #[.slice ac C.length cc, .slice a2 s.length c2, .slice ad L.length cd]] w (Says (GoodPg C s L) w) := by
  have hB := Below.alloc (Below.refl w.heap.size w) (Nat.le_refl _) (.cells #[.slice ac C.length cc, .slice a2 s.length c2, .slice ad L.length cd] 26)
  have b0 := Blk.new (W := w) #[.slice ac C.length cc, .slice a2 s.length c2, .slice ad L.length cd] 26
  have hc0 := hc.later hB
  have hs0 := ints_later7 hs hB
  have hd0 := hd.later hB
  have HV := Lib.hid (ref02_Valid a2 s c2 _ hs0 ls)
  have hno := Lib.hid (fun W (h : Below w.heap.size w W) (hn : ¬ GoodPg C s L) => says_no h hn)
  have hyes := Lib.hid (fun W (h : Below w.heap.size w W) (hn : GoodPg C s L) => says_yes h hn)
  clear hc hs hd
  go_enter Tryz.func35, Tryz.ntmps35
  go_upto_region 1 with fail
  generalize w.alloc (.cells #[.slice ac C.length cc, .slice a2 s.length c2, .slice ad L.length cd] 26) = W0 at *
  have p0 := (b0 0 (by simp)).1
  have p1 := (b0 1 (by simp)).1
  have p2 := (b0 2 (by simp)).1
  cases hv : validB s with
  | false =>
    rw [hv] at HV
    have HE := Lib.hid (hno.out _ hB (fun h => by rw [h.1] at hv; cases hv))
    clear hv
    go_wp2_with (go_at_call 54; (with_reducible refine HV.out.mono ?_); rintro e w' ⟨rfl, rfl⟩)
    go_ret
    exact HE.out
  | true =>
    rw [hv] at HV
    by_cases h1 : L.length = s.length
    · by_cases h2 : C.length < 1
      · have HE := Lib.hid (hno.out _ hB (fun h => by have := h.2.2.1; omega))
        have g1 : ((L.length : Int) != (s.length : Int)) = false := by rw [bne_eq_false_iff_eq]; omega
        have g2 : (C.length : Int) < 1 := by omega
        clear hv h1 h2
        go_wp2_with (go_at_call 54; (with_reducible refine HV.out.mono ?_); rintro e w' ⟨rfl, rfl⟩)
        go_ret
        exact HE.out
      · by_cases h3 : 64 < C.length
        · have HE := Lib.hid (hno.out _ hB (fun h => by have := h.2.2.2.1; omega))
          have g1 : ((L.length : Int) != (s.length : Int)) = false := by rw [bne_eq_false_iff_eq]; omega
          have g2 : ¬ (C.length : Int) < 1 := by omega
          have g3 : 64 < (C.length : Int) := by omega
          clear hv h1 h2 h3
          go_wp2_with (go_at_call 54; (with_reducible refine HV.out.mono ?_); rintro e w' ⟨rfl, rfl⟩)
          go_ret
          exact HE.out
        · have g1 : ((L.length : Int) != (s.length : Int)) = false := by rw [bne_eq_false_iff_eq]; omega
          have g2 : ¬ (C.length : Int) < 1 := by omega
          have g3 : ¬ 64 < (C.length : Int) := by omega
          have HB := Lib.hid hB
          have HVv := Lib.hid hv
          have H1 := Lib.hid h1
          have H2 := Lib.hid (And.intro h2 h3)
          clear hv h1 h2 h3 hB b0
          go_wp2_with (go_at_call 54; (with_reducible refine HV.out.mono ?_); rintro e w' ⟨rfl, rfl⟩)
          clear g1 HV
          go_loopw [35] (fun c wr => ∃ k : Nat, k ≤ L.length ∧ c = .int .i64 k ∧ wr = W0 ∧ ∀ i (h : i < L.length) (h2 : i < s.length), i < k → (L[i].length : Int) ≤ s[i]) (fun c _ => L.length - (intOf c).toNat)
          case atStart => exact ⟨0, by omega, rfl, rfl, fun i _ _ hi => by omega⟩
          case round =>
            obtain ⟨k, hk, rfl, rfl, hall0⟩ := hrel
            have hall := Lib.hid hall0
            clear hall0
            by_cases hlt : k < L.length
            · have hks : k < s.length := by have := H1.out; omega
              obtain ⟨bd, od, rfl, hdc⟩ := hd0.some hlt
              obtain ⟨bs, os, rfl, hsc⟩ := hs0.some hks
              obtain ⟨a5, c5, q0, hna⟩ := hdc k hlt
              clear hna
              have q1 := hsc k hks
              have lrk := lr _ (List.getElem_mem hlt)
              have HN : Hid (¬ (L[k].length : Int) ≤ s[k] → ¬ GoodPg C s L) := Lib.hid (fun hn h => hn (h.2.2.2.2.1 k hlt hks))
              have HY : Hid ((L[k].length : Int) ≤ s[k] → ∀ i (h : i < L.length) (h2 : i < s.length), i < k + 1 → (L[i].length : Int) ≤ s[i]) := Lib.hid (fun hn i hi hi2 hik => by
                by_cases e : i = k
                · subst e; exact hn
                · exact hall.out i hi hi2 (by omega))
              generalize L[k].length = n at *
              generalize s[k] = v at *
              clear hdc hsc hd0 hs0 hall
              have i1 : (k : Int) < (L.length : Int) := by omega
              have i2 : (k : Int) < (s.length : Int) := by omega
              have i3 : 0 ≤ (k : Int) := by omega
              by_cases hn : (n : Int) ≤ v
              · have HY2 := Lib.hid (HY.out hn)
                have hn2 : ¬ v < (n : Int) := by omega
                clear HY HN hks hlt
                go_wp2
                go_roundw
                case rel => exact ⟨k + 1, by omega, by go_num, trivial, HY2.out⟩
                case measure => simp [intOf]; omega
              · have HE := Lib.hid (hno.out _ HB.out (HN.out hn))
                have hn2 : v < (n : Int) := by omega
                clear HY HN hks hlt
                go_wp2
                go_ret
                exact HE.out
            · obtain rfl : k = L.length := by omega
              have HA := Lib.hid (fun i (h : i < L.length) (h2 : i < s.length) => hall.out i h h2 h)
              clear hall hlt hd0 hs0
              go_wp2_with fail
              go_loopw [52] (fun c wr2 => ∃ j : Nat, j ≤ C.length ∧ c = .int .i64 j ∧ Below wr.heap.size wr wr2 ∧ ∀ i (h : i < C.length), i < j → goodIns s.length C.length C[i]) (fun c _ => C.length - (intOf c).toNat)
              case atStart => exact ⟨0, by omega, rfl, Below.refl _ _, fun i _ hi => by omega⟩
              case round =>
                obtain ⟨j, hj, rfl, hw, hall0⟩ := hrel
                have hall := Lib.hid hall0
                clear hall0
                have HBr := Lib.hid (HB.out.trans (hw.mono HB.out.size))
                have p0 := cell_later hw p0
                have p1 := cell_later hw p1
                have p2 := cell_later hw p2
                by_cases hlt : j < C.length
                · obtain ⟨bc, oc, rfl, hcc⟩ := (hc0.later hw).some hlt
                  obtain ⟨q0, q1, q2, q3, q4⟩ := hcc j hlt
                  have HN : Hid (¬ goodIns s.length C.length C[j] → ¬ GoodPg C s L) := Lib.hid (fun hn h => hn (h.2.2.2.2.2 j hlt))
                  have HY : Hid (goodIns s.length C.length C[j] → ∀ i (h : i < C.length), i < j + 1 → goodIns s.length C.length C[i]) := Lib.hid (fun hn i hi hij => by
                    by_cases e : i = j
                    · subst e; exact hn
                    · exact hall.out i hi (by omega))
                  generalize C[j] = x at *
                  clear hcc hall hc0
                  have i1 : (j : Int) < (C.length : Int) := by omega
                  have i2 : 0 ≤ (j : Int) := by omega
                  have HV1 := Lib.hid (fun W => ref06_Valid x W)
                  have HJ := Lib.hid (fun W => ref06_Jump x.op W)
                  obtain ⟨op, a, b, c, imm⟩ := x
                  unfold insV at HV1
                  simp only at HV1 HJ q0 q1 q2 q3 q4
                  go_upto_region 12 with fail
                  have e0 := (Blk.new (W := wr) #[.int .i64 op, .int .i64 a, .int .i64 b, .int .i64 c, .int .i64 imm] 56 0 (by simp)).1
                  have e1 := (Blk.new (W := wr) #[.int .i64 op, .int .i64 a, .int .i64 b, .int .i64 c, .int .i64 imm] 56 1 (by simp)).1
                  have e2 := (Blk.new (W := wr) #[.int .i64 op, .int .i64 a, .int .i64 b, .int .i64 c, .int .i64 imm] 56 2 (by simp)).1
                  have e3 := (Blk.new (W := wr) #[.int .i64 op, .int .i64 a, .int .i64 b, .int .i64 c, .int .i64 imm] 56 3 (by simp)).1
                  have e4 := (Blk.new (W := wr) #[.int .i64 op, .int .i64 a, .int .i64 b, .int .i64 c, .int .i64 imm] 56 4 (by simp)).1
                  have hA5 := Below.alloc (Below.refl wr.heap.size wr) (Nat.le_refl _) (.cells #[.int .i64 op, .int .i64 a, .int .i64 b, .int .i64 c, .int .i64 imm] 56)
                  have H5 := Lib.hid (HBr.out.trans (hA5.mono HBr.out.size))
                  have H6 := Lib.hid (hw.trans (hA5.mono hw.size))
                  have p0 := cell_later hA5 p0
                  have p1 := cell_later hA5 p1
                  clear hA5 q0 q1 q2 q3 q4 hw HBr p2
                  generalize wr.alloc (.cells #[.int .i64 op, .int .i64 a, .int .i64 b, .int .i64 c, .int .i64 imm] 56) = W5 at *
                  generalize wr.heap.size = Z at *
                  cases hv : vinB ⟨op, a, b, c, imm⟩ with
                  | false =>
                    rw [hv] at HV1
                    have HE := Lib.hid (HN.out (fun h => by rw [h.1] at hv; cases hv))
                    clear hv HN HY
                    go_wp2_with (go_at_call 55; (with_reducible refine (HV1.out _).mono ?_); rintro e w6 ⟨rfl, hb6⟩; have Q0 := (hb6.cell (World.block_lt_of_cell? _ _ e0)).trans e0; have Q4 := (hb6.cell (World.block_lt_of_cell? _ _ e4)).trans e4; have P0 := cell_later hb6 p0; have P1 := cell_later hb6 p1)
                    go_ret
                    exact hno.out _ (H5.out.trans (hb6.mono H5.out.size)) HE.out
                  | true =>
                    rw [hv] at HV1
                    cases hj : jumpB op with
                    | true =>
                      rw [hj] at HJ
                      have g5 : (op == 15) = false := by rw [beq_eq_false_iff_ne]; intro h; subst h; simp [jumpB] at hj
                      by_cases hm : imm < (C.length : Int)
                      · have HE := Lib.hid (HY.out ⟨hv, fun _ => hm, fun h => by rw [beq_eq_false_iff_ne] at g5; exact absurd h g5⟩)
                        have hm2 : ¬ (C.length : Int) ≤ imm := by omega
                        clear hv HN HY hj
                        go_wp2_with (first
                          | (go_at_call 55; (with_reducible refine (HV1.out _).mono ?_); rintro e w6 ⟨rfl, hb6⟩; have Q0 := (hb6.cell (World.block_lt_of_cell? _ _ e0)).trans e0; have Q4 := (hb6.cell (World.block_lt_of_cell? _ _ e4)).trans e4; have P0 := cell_later hb6 p0; have P1 := cell_later hb6 p1)
                          | (go_at_call 26; (with_reducible refine (HJ.out _).mono ?_); rintro e w7 ⟨rfl, rfl⟩))
                        go_roundw
                        case rel => exact ⟨j + 1, by omega, by go_num, H6.out.trans (hb6.mono H6.out.size), HE.out⟩
                        case measure => simp [intOf]; omega
                      · have HE := Lib.hid (HN.out (fun h => hm (h.2.1 hj)))
                        have hm2 : (C.length : Int) ≤ imm := by omega
                        clear hv HN HY hj
                        go_wp2_with (first
                          | (go_at_call 55; (with_reducible refine (HV1.out _).mono ?_); rintro e w6 ⟨rfl, hb6⟩; have Q0 := (hb6.cell (World.block_lt_of_cell? _ _ e0)).trans e0; have Q4 := (hb6.cell (World.block_lt_of_cell? _ _ e4)).trans e4; have P0 := cell_later hb6 p0; have P1 := cell_later hb6 p1)
                          | (go_at_call 26; (with_reducible refine (HJ.out _).mono ?_); rintro e w7 ⟨rfl, rfl⟩))
                        go_ret
                        exact hno.out _ (H5.out.trans (hb6.mono H5.out.size)) HE.out
                    | false =>
                      rw [hj] at HJ
                      by_cases ho : op = 15
                      · by_cases hm : imm < (s.length : Int)
                        · have HE := Lib.hid (HY.out ⟨hv, fun h => (by rw [show jumpB op = true from h] at hj; cases hj), fun _ => hm⟩)
                          have hm2 : ¬ (s.length : Int) ≤ imm := by omega
                          have g5 : (op == 15) = true := by rw [beq_iff_eq]; exact ho
                          clear hv HN HY hj ho
                          go_wp2_with (first
                            | (go_at_call 55; (with_reducible refine (HV1.out _).mono ?_); rintro e w6 ⟨rfl, hb6⟩; have Q0 := (hb6.cell (World.block_lt_of_cell? _ _ e0)).trans e0; have Q4 := (hb6.cell (World.block_lt_of_cell? _ _ e4)).trans e4; have P0 := cell_later hb6 p0; have P1 := cell_later hb6 p1)
                            | (go_at_call 26; (with_reducible refine (HJ.out _).mono ?_); rintro e w7 ⟨rfl, rfl⟩))
                          go_roundw
                          case rel => exact ⟨j + 1, by omega, by go_num, H6.out.trans (hb6.mono H6.out.size), HE.out⟩
                          case measure => simp [intOf]; omega
                        · have HE := Lib.hid (HN.out (fun h => hm (h.2.2 ho)))
                          have hm2 : (s.length : Int) ≤ imm := by omega
                          have g5 : (op == 15) = true := by rw [beq_iff_eq]; exact ho
                          clear hv HN HY hj ho
                          go_wp2_with (first
                            | (go_at_call 55; (with_reducible refine (HV1.out _).mono ?_); rintro e w6 ⟨rfl, hb6⟩; have Q0 := (hb6.cell (World.block_lt_of_cell? _ _ e0)).trans e0; have Q4 := (hb6.cell (World.block_lt_of_cell? _ _ e4)).trans e4; have P0 := cell_later hb6 p0; have P1 := cell_later hb6 p1)
                            | (go_at_call 26; (with_reducible refine (HJ.out _).mono ?_); rintro e w7 ⟨rfl, rfl⟩))
                          go_ret
                          exact hno.out _ (H5.out.trans (hb6.mono H5.out.size)) HE.out
                      · have HE := Lib.hid (HY.out ⟨hv, fun h => (by rw [show jumpB op = true from h] at hj; cases hj), fun h => absurd h ho⟩)
                        have g5 : (op == 15) = false := by rw [beq_eq_false_iff_ne]; exact ho
                        clear hv HN HY hj ho
                        go_wp2_with (first
                          | (go_at_call 55; (with_reducible refine (HV1.out _).mono ?_); rintro e w6 ⟨rfl, hb6⟩; have Q0 := (hb6.cell (World.block_lt_of_cell? _ _ e0)).trans e0; have Q4 := (hb6.cell (World.block_lt_of_cell? _ _ e4)).trans e4; have P0 := cell_later hb6 p0; have P1 := cell_later hb6 p1)
                          | (go_at_call 26; (with_reducible refine (HJ.out _).mono ?_); rintro e w7 ⟨rfl, rfl⟩))
                        go_roundw
                        case rel => exact ⟨j + 1, by omega, by go_num, H6.out.trans (hb6.mono H6.out.size), HE.out⟩
                        case measure => simp [intOf]; omega
                · obtain rfl : j = C.length := by omega
                  have HE := Lib.hid (hyes.out _ HBr.out ⟨HVv.out, H1.out, by have := H2.out.1; omega, by have := H2.out.2; omega, HA.out, fun i h => hall.out i h h⟩)
                  clear hall hlt hc0
                  go_wp2
                  go_ret
                  exact HE.out
    · have HE := Lib.hid (hno.out _ hB (fun h => h1 h.2.1))
      have g1 : ((L.length : Int) != (s.length : Int)) = true := by rw [bne_iff_ne]; omega
      clear hv h1
      go_wp2_with (go_at_call 54; (with_reducible refine HV.out.mono ?_); rintro e w' ⟨rfl, rfl⟩)
      go_ret
      exact HE.out
end Go.Proofs.YtejbmidgnagcdaaGreatDoor
