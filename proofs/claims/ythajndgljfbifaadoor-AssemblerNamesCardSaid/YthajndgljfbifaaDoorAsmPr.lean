/-
  Which programs the product's Print takes: validRegions, validCode; the targets of jumps.
  The lines of a program's text: regionLine, instructionLine; and what a builder holds.
  An instruction's line: instructionLine.
  A builder of the call's own; the targets of jumps.
  The product's Print: the text of every good program, ErrArg for every other one.
-/
import Derived.Test.YthajndgljfbifaaDoorAsmA
import Derived.Test.YthajndgljfbifaaDoorPgm
import Derived.Test.YthajndgljfbifaaDoorIc2
import Derived.Shelf.Strings.BuilderK
import Derived.Lib.OthersKept
import Derived.WalkSmall
namespace Go.Proofs.YthajndgljfbifaaDoor
open Go.RowKit
set_option maxRecDepth 100000

/-- The regions' part of a good program. -/
def FitPg (s : List Int) (L : List (List Nat)) : Prop := validB s = true ∧ L.length = s.length ∧ ∀ i (h : i < L.length) (h2 : i < s.length), (L[i].length : Int) ≤ s[i]

theorem asm_validRegions (a2 ad : Option Addr) (s : List Int) (L : List (List Nat)) (c2 cd : Nat) (w : World) (hs : IntsAt .i64 w a2 s) (hd : DatAt w ad L) (ls : s.length ≤ 1000000) (lr : ∀ l ∈ L, l.length ≤ 1000000) :
    Calls Tryd.prog 21 #[.slice a2 s.length c2, .slice ad L.length cd] w (Says (FitPg s L) w) := by
  have HV := Lib.hid (region_Valid a2 s c2 w hs ls)
  have hno := Lib.hid (fun (hn : ¬ FitPg s L) => says_no (Below.refl w.heap.size w) hn)
  have hyes := Lib.hid (fun (hn : FitPg s L) => says_yes (Below.refl w.heap.size w) hn)
  go_enter Tryd.func21, Tryd.ntmps21
  cases hv : validB s with
  | false =>
    rw [hv] at HV
    have HE := Lib.hid (hno.out (fun h => by rw [h.1] at hv; cases hv))
    clear hv
    go_wp2_with (go_at_call 41; (with_reducible refine HV.out.mono ?_); rintro e w' ⟨rfl, rfl⟩)
    go_ret
    exact HE.out
  | true =>
    rw [hv] at HV
    by_cases h1 : L.length = s.length
    · have g1 : ((L.length : Int) != (s.length : Int)) = false := by rw [bne_eq_false_iff_eq]; omega
      have HVv := Lib.hid hv
      have H1 := Lib.hid h1
      clear hv h1
      go_wp2_with (go_at_call 41; (with_reducible refine HV.out.mono ?_); rintro e w' ⟨rfl, rfl⟩)
      clear g1 HV
      go_loopw [19] (fun c wr => ∃ k : Nat, k ≤ s.length ∧ c = .int .i64 k ∧ wr = w ∧ ∀ i (h : i < L.length) (h2 : i < s.length), i < k → (L[i].length : Int) ≤ s[i]) (fun c _ => s.length - (intOf c).toNat)
      case atStart => exact ⟨0, by omega, rfl, rfl, fun i _ _ hi => by omega⟩
      case round =>
        obtain ⟨k, hk, rfl, rfl, hall0⟩ := hrel
        have hall := Lib.hid hall0
        clear hall0
        by_cases hks : k < s.length
        · have hlt : k < L.length := by have := H1.out; omega
          obtain ⟨bd, od, rfl, hdc⟩ := hd.some hlt
          obtain ⟨bs, os, rfl, hsc⟩ := hs.some hks
          obtain ⟨a5, c5, q0, hna⟩ := hdc k hlt
          clear hna
          have q1 := hsc k hks
          have lrk := lr _ (List.getElem_mem hlt)
          have HN : Hid (¬ (L[k].length : Int) ≤ s[k] → ¬ FitPg s L) := Lib.hid (fun hn h => hn (h.2.2 k hlt hks))
          have HY : Hid ((L[k].length : Int) ≤ s[k] → ∀ i (h : i < L.length) (h2 : i < s.length), i < k + 1 → (L[i].length : Int) ≤ s[i]) := Lib.hid (fun hn i hi hi2 hik => by
            by_cases e : i = k
            · subst e; exact hn
            · exact hall.out i hi hi2 (by omega))
          generalize L[k].length = n at *
          generalize s[k] = v at *
          clear hdc hsc hd hs hall
          have i1 : (k : Int) < (L.length : Int) := by omega
          have i2 : (k : Int) < (s.length : Int) := by omega
          have i3 : 0 ≤ (k : Int) := by omega
          by_cases hn : (n : Int) ≤ v
          · have HY2 := Lib.hid (HY.out hn)
            have hn2 : ¬ v < (n : Int) := by omega
            clear HY HN hks hlt
            go_wp2
            go_roundw
            case rel => exact ⟨k + 1, by omega, by go_num, trivial, HY2.out⟩
            case measure => simp [intOf]; omega
          · have HE := Lib.hid (hno.out (HN.out hn))
            have hn2 : v < (n : Int) := by omega
            clear HY HN hks hlt
            go_wp2
            go_ret
            exact HE.out
        · obtain rfl : k = s.length := by omega
          have HE := Lib.hid (hyes.out ⟨HVv.out, H1.out, fun i h h2 => hall.out i h h2 h2⟩)
          clear hall hks hd hs
          go_wp2
          go_ret
          exact HE.out
    · have HE := Lib.hid (hno.out (fun h => h1 h.2.1))
      have g1 : ((L.length : Int) != (s.length : Int)) = true := by rw [bne_iff_ne]; omega
      clear hv h1
      go_wp2_with (go_at_call 41; (with_reducible refine HV.out.mono ?_); rintro e w' ⟨rfl, rfl⟩)
      go_ret
      exact HE.out

/-- The code's part of a good program. -/
def CodePg (n : Nat) (C : List Ins) : Prop := 1 ≤ C.length ∧ C.length ≤ 64 ∧ ∀ i (h : i < C.length), goodIns n C.length C[i]

set_option maxHeartbeats 2000000 in
theorem asm_validCode (ac : Option Addr) (C : List Ins) (n cc : Nat) (w : World) (ho : OpsTab w) (hc : CodeAt w ac C) (lc : C.length ≤ 1000000) :
    Calls Tryd.prog 22 #[.slice ac C.length cc, .int .i64 (n : Int)] w (Says (CodePg n C) w) := by
  have hno := Lib.hid (fun W (h : Below w.heap.size w W) (hn : ¬ CodePg n C) => says_no h hn)
  have hyes := Lib.hid (fun W (h : Below w.heap.size w W) (hn : CodePg n C) => says_yes h hn)
  go_enter Tryd.func22, Tryd.ntmps22
  by_cases h2 : C.length < 1
  · have HE := Lib.hid (hno.out _ (Below.refl _ _) (fun h => by have := h.1; omega))
    have g2 : (C.length : Int) < 1 := by omega
    clear h2
    go_wp2
    go_ret
    exact HE.out
  · by_cases h3 : 64 < C.length
    · have HE := Lib.hid (hno.out _ (Below.refl _ _) (fun h => by have := h.2.1; omega))
      have g2 : ¬ (C.length : Int) < 1 := by omega
      have g3 : 64 < (C.length : Int) := by omega
      clear h2 h3
      go_wp2
      go_ret
      exact HE.out
    · have g2 : ¬ (C.length : Int) < 1 := by omega
      have g3 : ¬ 64 < (C.length : Int) := by omega
      have H2 := Lib.hid (And.intro h2 h3)
      clear h2 h3
      go_wp2_with fail
      clear g2 g3
      go_loopw [17] (fun c wr => ∃ j : Nat, j ≤ C.length ∧ c = .int .i64 j ∧ Below w.heap.size w wr ∧ ∀ i (h : i < C.length), i < j → goodIns n C.length C[i]) (fun c _ => C.length - (intOf c).toNat)
      case atStart => exact ⟨0, by omega, rfl, Below.refl _ _, fun i _ hi => by omega⟩
      obtain ⟨j, hj, rfl, hw, hall0⟩ := hrel
      have hall := Lib.hid hall0
      clear hall0
      by_cases hlt : j < C.length
      · obtain ⟨bc, oc, rfl, hcc⟩ := (hc.later hw).some hlt
        obtain ⟨q0, q1, q2, q3, q4⟩ := hcc j hlt
        have hop := Lib.hid (fun (hv : vinB C[j] = true) => ((vinB_iff _).1 hv).1)
        have hop2 := Lib.hid (fun (hv : vinB C[j] = true) => ((vinB_iff _).1 hv).2.1)
        have HN : Hid (¬ goodIns n C.length C[j] → ¬ CodePg n C) := Lib.hid (fun hn h => hn (h.2.2 j hlt))
        have HY : Hid (goodIns n C.length C[j] → ∀ i (h : i < C.length), i < j + 1 → goodIns n C.length C[i]) := Lib.hid (fun hn i hi hij => by
          by_cases e : i = j
          · subst e; exact hn
          · exact hall.out i hi (by omega))
        generalize C[j] = x at *
        clear hcc hall hc
        have ho := ho.later hw
        have i1 : (j : Int) < (C.length : Int) := by omega
        have i2 : 0 ≤ (j : Int) := by omega
        have HV1 := Lib.hid (fun W => instr_Valid x W)
        obtain ⟨op, a, b, c, imm⟩ := x
        unfold insV at HV1
        simp only at HV1 q0 q1 q2 q3 q4 hop hop2
        go_upto_region 6 with fail
        have e0 := (Blk.new (W := wr) #[.int .i64 op, .int .i64 a, .int .i64 b, .int .i64 c, .int .i64 imm] 51 0 (by simp)).1
        have e1 := (Blk.new (W := wr) #[.int .i64 op, .int .i64 a, .int .i64 b, .int .i64 c, .int .i64 imm] 51 1 (by simp)).1
        have e2 := (Blk.new (W := wr) #[.int .i64 op, .int .i64 a, .int .i64 b, .int .i64 c, .int .i64 imm] 51 2 (by simp)).1
        have e3 := (Blk.new (W := wr) #[.int .i64 op, .int .i64 a, .int .i64 b, .int .i64 c, .int .i64 imm] 51 3 (by simp)).1
        have e4 := (Blk.new (W := wr) #[.int .i64 op, .int .i64 a, .int .i64 b, .int .i64 c, .int .i64 imm] 51 4 (by simp)).1
        have hA5 := Below.alloc (Below.refl wr.heap.size wr) (Nat.le_refl _) (.cells #[.int .i64 op, .int .i64 a, .int .i64 b, .int .i64 c, .int .i64 imm] 51)
        have H6 := Lib.hid (hw.trans (hA5.mono hw.size))
        have ho := ho.later hA5
        clear hA5 q0 q1 q2 q3 q4 hw
        generalize wr.alloc (.cells #[.int .i64 op, .int .i64 a, .int .i64 b, .int .i64 c, .int .i64 imm] 51) = W5 at *
        generalize wr.heap.size = Z at *
        cases hv : vinB ⟨op, a, b, c, imm⟩ with
        | false =>
          rw [hv] at HV1
          have HE := Lib.hid (HN.out (fun h => by rw [h.1] at hv; cases hv))
          clear hv HN HY
          go_wp2_with (go_at_call 42; (with_reducible refine (HV1.out _).mono ?_); rintro e w6 ⟨rfl, hb6⟩; have Q0 := (hb6.cell (World.block_lt_of_cell? _ _ e0)).trans e0; have Q4 := (hb6.cell (World.block_lt_of_cell? _ _ e4)).trans e4)
          go_ret
          exact hno.out _ (H6.out.trans (hb6.mono H6.out.size)) HE.out
        | true =>
          rw [hv] at HV1
          obtain ⟨o, rfl⟩ := Int.eq_ofNat_of_zero_le (hop.out hv)
          have ho25 : o < 25 := by have := hop2.out hv; omega
          have HJ : Hid (∀ W, OpsTab W → _) := Lib.hid (fun W hW => asm_takesLabel o W hW ho25)
          clear hop hop2
          cases hj : jumpB (o : Int) with
          | true =>
            rw [hj] at HJ
            have g5 : ((o : Int) == 15) = false := by rw [beq_eq_false_iff_ne]; intro h; rw [h] at hj; simp [jumpB] at hj
            by_cases hm : imm < (C.length : Int)
            · have HE := Lib.hid (HY.out ⟨hv, fun _ => hm, fun h => by rw [beq_eq_false_iff_ne] at g5; exact absurd h g5⟩)
              have hm2 : ¬ (C.length : Int) ≤ imm := by omega
              clear hv HN HY hj
              go_wp2_with (first
                | (go_at_call 42; (with_reducible refine (HV1.out _).mono ?_); rintro e w6 ⟨rfl, hb6⟩; have Q0 := (hb6.cell (World.block_lt_of_cell? _ _ e0)).trans e0; have Q4 := (hb6.cell (World.block_lt_of_cell? _ _ e4)).trans e4; have ho := ho.later hb6)
                | (go_at_call 43; (with_reducible refine (HJ.out _ ho).mono ?_); rintro e w7 ⟨rfl, rfl⟩))
              go_roundw
              case rel => exact ⟨j + 1, by omega, by go_num, H6.out.trans (hb6.mono H6.out.size), HE.out⟩
              case measure => simp [intOf]; omega
            · have HE := Lib.hid (HN.out (fun h => hm (h.2.1 hj)))
              have hm2 : (C.length : Int) ≤ imm := by omega
              clear hv HN HY hj
              go_wp2_with (first
                | (go_at_call 42; (with_reducible refine (HV1.out _).mono ?_); rintro e w6 ⟨rfl, hb6⟩; have Q0 := (hb6.cell (World.block_lt_of_cell? _ _ e0)).trans e0; have Q4 := (hb6.cell (World.block_lt_of_cell? _ _ e4)).trans e4; have ho := ho.later hb6)
                | (go_at_call 43; (with_reducible refine (HJ.out _ ho).mono ?_); rintro e w7 ⟨rfl, rfl⟩))
              go_ret
              exact hno.out _ (H6.out.trans (hb6.mono H6.out.size)) HE.out
          | false =>
            rw [hj] at HJ
            by_cases h15 : o = 15
            · by_cases hm : imm < (n : Int)
              · have HE := Lib.hid (HY.out ⟨hv, fun h => (by rw [show jumpB (o : Int) = true from h] at hj; cases hj), fun _ => hm⟩)
                have hm2 : ¬ (n : Int) ≤ imm := by omega
                have g5 : ((o : Int) == 15) = true := by rw [beq_iff_eq]; omega
                clear hv HN HY hj h15
                go_wp2_with (first
                  | (go_at_call 42; (with_reducible refine (HV1.out _).mono ?_); rintro e w6 ⟨rfl, hb6⟩; have Q0 := (hb6.cell (World.block_lt_of_cell? _ _ e0)).trans e0; have Q4 := (hb6.cell (World.block_lt_of_cell? _ _ e4)).trans e4; have ho := ho.later hb6)
                  | (go_at_call 43; (with_reducible refine (HJ.out _ ho).mono ?_); rintro e w7 ⟨rfl, rfl⟩))
                go_roundw
                case rel => exact ⟨j + 1, by omega, by go_num, H6.out.trans (hb6.mono H6.out.size), HE.out⟩
                case measure => simp [intOf]; omega
              · have HE := Lib.hid (HN.out (fun h => hm (h.2.2 (show (o : Int) = 15 by omega))))
                have hm2 : (n : Int) ≤ imm := by omega
                have g5 : ((o : Int) == 15) = true := by rw [beq_iff_eq]; omega
                clear hv HN HY hj h15
                go_wp2_with (first
                  | (go_at_call 42; (with_reducible refine (HV1.out _).mono ?_); rintro e w6 ⟨rfl, hb6⟩; have Q0 := (hb6.cell (World.block_lt_of_cell? _ _ e0)).trans e0; have Q4 := (hb6.cell (World.block_lt_of_cell? _ _ e4)).trans e4; have ho := ho.later hb6)
                  | (go_at_call 43; (with_reducible refine (HJ.out _ ho).mono ?_); rintro e w7 ⟨rfl, rfl⟩))
                go_ret
                exact hno.out _ (H6.out.trans (hb6.mono H6.out.size)) HE.out
            · have HE := Lib.hid (HY.out ⟨hv, fun h => (by rw [show jumpB (o : Int) = true from h] at hj; cases hj), fun h => absurd (show o = 15 by have : (o : Int) = 15 := h; omega) h15⟩)
              have g5 : ((o : Int) == 15) = false := by rw [beq_eq_false_iff_ne]; omega
              clear hv HN HY hj h15
              go_wp2_with (first
                | (go_at_call 42; (with_reducible refine (HV1.out _).mono ?_); rintro e w6 ⟨rfl, hb6⟩; have Q0 := (hb6.cell (World.block_lt_of_cell? _ _ e0)).trans e0; have Q4 := (hb6.cell (World.block_lt_of_cell? _ _ e4)).trans e4; have ho := ho.later hb6)
                | (go_at_call 43; (with_reducible refine (HJ.out _ ho).mono ?_); rintro e w7 ⟨rfl, rfl⟩))
              go_roundw
              case rel => exact ⟨j + 1, by omega, by go_num, H6.out.trans (hb6.mono H6.out.size), HE.out⟩
              case measure => simp [intOf]; omega
      · obtain rfl : j = C.length := by omega
        have HE := Lib.hid (hyes.out _ hw ⟨by have := H2.out.1; omega, by have := H2.out.2; omega, fun i h => hall.out i h h⟩)
        clear hall hlt hc
        go_wp2
        go_ret
        exact HE.out
end Go.Proofs.YthajndgljfbifaaDoor
namespace Go.Proofs.YthajndgljfbifaaDoor
open Go.RowKit
set_option maxRecDepth 100000

theorem info_string : (Tryd.prog.info? 9).map (fun i => (i.zero, i.size, i.bytes)) = some (some (.string ⟨#[]⟩), 1, 16) := by kernel_rfl

theorem own_later7 {w w' : World} {base : Nat} {e : TypeId} {size : Nat} {v : Value} {n : Nat} {xs : List Value} (h : w.ownsRow base e size v n xs) (hb : Below w.heap.size w w') : w'.ownsRow base e size v n xs :=
  h.kept (grownBy_below hb rfl none) (by
    cases hv : v.ownBlock with
    | none => exact .inl rfl
    | some k => exact .inr (by simp))

/-- Joining the strings of a row of the call's own. -/
theorem lib_Join {w : World} {base : Nat} {v : Value} {n : Nat} (xs : List ByteArray) (hn : xs.length = n) (h0 : 0 < n) (hsmall : n ≤ 1000) (h : w.ownsRow base 9 1 v n (xs.map Value.string)) (hlen : (joinB xs).size ≤ 1000000) :
    Calls Tryd.prog 10 #[v, .string ⟨#[32]⟩] w fun e w' => e = .returned (.string (joinB xs)) ∧ Below w.heap.size w w' := by
  subst hn
  obtain ⟨g, cap, rfl, _, hlt⟩ := h.form h0
  have hcap : xs.length ≤ cap := by
    rcases h.2 with ⟨h', _⟩ | ⟨g', cap', cur, h', _, hg, hnc, _⟩
    · simp at h'
    · simp only [Value.slice.injEq, true_and] at h'
      omega
  have hl2 : (Lib.join (xs.map (·.data.toList)) [32]).length = (joinB xs).size := rfl
  exact Tryd.strings_Join g 0 cap xs ⟨#[32]⟩ w (fun j x hx => by
    have hj : j < xs.length := (List.getElem?_eq_some_iff.1 hx).1
    rw [Nat.zero_add, h.cellAt j (by omega), List.getElem?_map, hx]
    rfl) hlt (by omega) hcap (by
      have : (⟨#[32]⟩ : ByteArray).data.toList = [32] := rfl
      rw [this, hl2]
      omega)

theorem addW_size (l : List ByteArray) (m : Nat) : ∀ t : ByteArray, (∀ x ∈ l, x.size ≤ m) → (addW t l).size ≤ t.size + l.length * (m + 1) := by
  induction l with
  | nil => intro t _; simp [addW]
  | cons x r ih =>
    intro t h
    have h1 := ih (t ++ (⟨#[32]⟩ ++ x)) (fun y hy => h y (by simp [hy]))
    have h2 := h x (by simp)
    have h3 : (t ++ (⟨#[32]⟩ ++ x)).size = t.size + (1 + x.size) := by
      rw [add_size, add_size]
      rfl
    have h4 : addW t (x :: r) = addW (t ++ (⟨#[32]⟩ ++ x)) r := rfl
    rw [h4]
    rw [h3] at h1
    rw [List.length_cons, Nat.add_mul]
    omega

theorem regLine_size (n : Nat) (l : List Nat) (hn : n ≤ 32) (hu : ∀ v ∈ l, v < 65536) : (regLine n l).size ≤ 28 + l.length * 22 := by
  unfold regLine regW
  rw [joinB_cons]
  have h0 : addW (⟨#[114, 101, 103, 105, 111, 110]⟩ : ByteArray) (itoaB n :: l.map itoaB) = addW ((⟨#[114, 101, 103, 105, 111, 110]⟩ : ByteArray) ++ (⟨#[32]⟩ ++ itoaB n)) (l.map itoaB) := rfl
  rw [h0]
  have h1 := addW_size (l.map itoaB) 21 ((⟨#[114, 101, 103, 105, 111, 110]⟩ : ByteArray) ++ (⟨#[32]⟩ ++ itoaB n)) (fun x hx => by
    obtain ⟨v, hv, rfl⟩ := List.mem_map.1 hx
    exact itoaB_size (by have := hu v hv; omega))
  have h2 := itoaB_size (n := n) (by omega)
  rw [add_size, add_size, List.length_map] at h1
  have h3 : (⟨#[114, 101, 103, 105, 111, 110]⟩ : ByteArray).size = 6 := rfl
  have h4 : (⟨#[32]⟩ : ByteArray).size = 1 := rfl
  omega

theorem regW_next (n : Nat) (l : List Nat) {j : Nat} (h : j < l.length) : (regW n (l.take (j + 1))).map Value.string = (regW n (l.take j)).map Value.string ++ [.string (itoaB l[j])] := by
  unfold regW
  rw [List.take_succ_eq_append_getElem h]
  simp only [List.map_append, List.map_cons, List.map_nil, List.cons_append]

set_option maxHeartbeats 1000000 in
theorem asm_regionLine (n : Nat) (a : Option Addr) (l : List Nat) (c : Nat) (w : World) (ht : Tabs w) (ha : NatsAt .u16 w a l) (hn : n ≤ 32) (hl : l.length ≤ 32) (hu : ∀ v ∈ l, v < 65536) :
    Calls Tryd.prog 24 #[.int .i64 (n : Int), .slice a l.length c] w fun e w' => e = .returned (.string (regLine n l)) ∧ Below w.heap.size w w' := by
  have HI := Lib.hid (lib_Itoa n w ht (by omega))
  have hsz := regLine_size n l hn hu
  obtain ⟨i0, hi, hz0, hz1, hz2⟩ := info_parts info_string
  go_enter Tryd.func24, Tryd.ntmps24
  go_upto_region 2 with (go_at_call 26; (with_reducible refine HI.out.mono ?_); rintro e W1 ⟨rfl, hb1⟩)
  have hown : (W1.alloc (.cells #[.string ⟨#[114, 101, 103, 105, 111, 110]⟩, .string (itoaB n)] 9)).ownsRow W1.heap.size 9 1 (.slice (some ⟨W1.heap.size, 0, none⟩) 2 2) (0 + 2) ((regW n (l.take 0)).map Value.string) :=
    World.ownsRow_lit W1 #[.string ⟨#[114, 101, 103, 105, 111, 110]⟩, .string (itoaB n)] 2 (Nat.le_refl _) (by decide) rfl
  have hA := Below.alloc (Below.refl W1.heap.size W1) (Nat.le_refl _) (.cells #[.string ⟨#[114, 101, 103, 105, 111, 110]⟩, .string (itoaB n)] 9)
  have hB := hb1.trans (hA.mono hb1.size)
  have HL := Lib.hid hb1.size
  have HB := Lib.hid hB
  clear hA hb1 HI hB
  generalize W1.alloc (.cells #[.string ⟨#[114, 101, 103, 105, 111, 110]⟩, .string (itoaB n)] 9) = W2 at *
  generalize W1.heap.size = B at *
  have hB2 : B ≤ W2.heap.size := by
    obtain ⟨g, cap, h1, h2, h3⟩ := hown.form (by omega)
    omega
  go_wp2_with fail
  go_loopw [5, 13] (fun v c wr => ∃ k : Nat, k ≤ l.length ∧ c = .int .i64 k ∧ wr.ownsRow B 9 1 v (k + 2) ((regW n (l.take k)).map Value.string) ∧ Below B W2 wr) (fun _ c _ => l.length - (intOf c).toNat)
  case atStart => exact ⟨0, by omega, rfl, hown, Below.refl _ _⟩
  clear hown
  obtain ⟨k, hk, rfl, hownr, hw⟩ := hrel
  have hbw := HB.out.trans (hw.mono HL.out)
  have hBr : B ≤ wr.heap.size := Nat.le_trans hB2 hw.size
  by_cases hlt : k < l.length
  · obtain ⟨b, off, rfl, hc⟩ := (ha.later hbw).some hlt
    have c1 := hc k hlt
    have x1 := hu _ (List.getElem_mem hlt)
    have HN := Lib.hid (regW_next n l hlt)
    have HI := Lib.hid (lib_Itoa l[k] wr (ht.later hbw) (by omega))
    have HW := Lib.hid hw
    have HR := Lib.hid hownr
    have i1 : (k : Int) < (l.length : Int) := by omega
    have i2 : 0 ≤ (k : Int) := by omega
    generalize l[k] = x at *
    clear hc hbw hw hownr
    go_upto_region 6 with (first
      | (go_at_call 26; (with_reducible refine HI.out.mono ?_); rintro e W3 ⟨rfl, hb3⟩; have hown3 := own_later7 HR.out hb3; have h3s := Nat.le_trans hBr hb3.size)
      | (at_builtin; refine wpList_append_own _ rfl (.tmp 17) (.tmp 21) 33 rfl B 9 i0 (.string ⟨#[]⟩) 1 16 Tryd.underlying33 hi hz0 hz1 hz2 rfl (by decide) _ _ _ rfl (hown3.alloc _) ⟨W3.heap.size, 0, none⟩ 1 1 [.string (itoaB x)] rfl rfl ?c1 ?c2 ?c3 ?c4 ?c5 ?_))
    case c1 => exact World.news_of_block (cs := #[.string (itoaB x)]) (t := 9) (fr := (0, 0)) (heap_alloc_new W3 _)
    case c2 => simp [Value.oneCell']
    case c3 => unfold maxLen; omega
    case c4 => omega
    case c5 => simp; omega
    intro v' w2 hown2 hgrow _h3
    have hb4 := Below.alloc (Below.refl B W3) h3s (.cells #[.string (itoaB x)] 9)
    have hb5 := hb4.grown hgrow (by simp; omega) (fun j hj => (hown3.lt j hj).1)
    have HF := Lib.hid (HW.out.trans ((hb3.mono hBr).trans hb5))
    rw [← HN.out, show k + 2 + 1 = k + 1 + 2 by omega] at hown2
    clear hgrow _h3 hown3 hb4 hb5 hb3
    go_wp2_with fail
    refine ⟨⟨k + 1, by omega, by go_num, hown2, HF.out⟩, ?_⟩
    simp [intOf]
    omega
  · obtain rfl : k = l.length := by omega
    rw [List.take_length] at hownr
    have HJ := Lib.hid (lib_Join (regW n l) (by simp [regW]) (by omega) (by omega) hownr (by
      have h1 : joinB (regW n l) = regLine n l := rfl
      rw [h1]
      omega))
    have HF := Lib.hid hbw
    have HE : Hid (joinB (regW n l) = regLine n l) := Lib.hid rfl
    clear hownr hbw hw ha ht
    go_wp2_with (go_at_call 10; (with_reducible refine HJ.out.mono ?_); rintro e W3 ⟨rfl, hb3⟩)
    go_ret
    exact ⟨by rw [← HE.out]; rfl, HF.out.trans (hb3.mono HF.out.size)⟩
end Go.Proofs.YthajndgljfbifaaDoor
namespace Go.Proofs.YthajndgljfbifaaDoor
open Go.RowKit
set_option maxRecDepth 100000

theorem opd_fields : ∀ k < 25, ∀ c ∈ opdL ((k : Nat) : Int), c = 65 ∨ c = 66 ∨ c = 67 ∨ c = 73 ∨ c = 76 := by decide
theorem opd_length : ∀ k < 25, (opdL ((k : Nat) : Int)).length ≤ 3 := by decide

/-- Where an operand lies. -/
theorem opd_cell {w : World} {B : Nat} {op a b c imm : Int} (h1 : w.cell? ⟨B, 1, none⟩ = some (.int .i64 a)) (h2 : w.cell? ⟨B, 2, none⟩ = some (.int .i64 b)) (h3 : w.cell? ⟨B, 3, none⟩ = some (.int .i64 c)) (h4 : w.cell? ⟨B, 4, none⟩ = some (.int .i64 imm))
    {q : UInt8} (hq : q = 65 ∨ q = 66 ∨ q = 67 ∨ q = 73 ∨ q = 76) : w.cell? ⟨B, offC q, none⟩ = some (.int .i64 (fldC ⟨op, a, b, c, imm⟩ q)) := by
  rcases hq with rfl | rfl | rfl | rfl | rfl
  · exact h1
  · exact h2
  · exact h3
  · exact h4
  · exact h4

theorem fld_nat (x : Ins) (h : vinB x = true) (q : UInt8) (hq : q = 65 ∨ q = 66 ∨ q = 67 ∨ q = 73 ∨ q = 76) : ∃ m : Nat, fldC x q = (m : Int) ∧ m ≤ 65535 := by
  obtain ⟨_, _, y0, y1, y2, y3, y4, y5, y6, y7, _⟩ := (vinB_iff _).1 h
  rcases hq with rfl | rfl | rfl | rfl | rfl
  · exact ⟨x.a.toNat, by show x.a = _; omega, by omega⟩
  · exact ⟨x.b.toNat, by show x.b = _; omega, by omega⟩
  · exact ⟨x.c.toNat, by show x.c = _; omega, by omega⟩
  · exact ⟨x.imm.toNat, by show x.imm = _; omega, by omega⟩
  · exact ⟨x.imm.toNat, by show x.imm = _; omega, by omega⟩

/-- The first words of an instruction. -/
def insT7 (x : Ins) (k : Nat) : List Value := (nameB x.op :: ((opdL x.op).take k).map (wordC x)).map Value.string

theorem insT7_next (x : Ins) {k : Nat} (h : k < (opdL x.op).length) : insT7 x (k + 1) = insT7 x k ++ [.string (wordC x (opdL x.op)[k])] := by
  unfold insT7
  rw [List.take_succ_eq_append_getElem h]
  simp only [List.map_append, List.map_cons, List.map_nil, List.cons_append]

theorem wordC_size (x : Ins) (h : vinB x = true) (q : UInt8) (hq : q = 65 ∨ q = 66 ∨ q = 67 ∨ q = 73 ∨ q = 76) : (wordC x q).size ≤ 22 := by
  obtain ⟨m, hm, hm2⟩ := fld_nat x h q hq
  have hs := itoaB_size (n := m) (by omega)
  unfold wordC
  rw [add_size, hm, Int.toNat_natCast]
  have : (preC q).size ≤ 1 := by unfold preC; split; decide; split; decide; decide
  omega

theorem insLine_size (x : Ins) (h : vinB x = true) : (insLine x).size ≤ 80 := by
  have h0 := (vinB_iff _).1 h
  obtain ⟨k, hk⟩ := Int.eq_ofNat_of_zero_le h0.1
  have hk25 : k < 25 := by have := h0.2.1; omega
  unfold insLine insW
  rw [joinB_cons]
  have h1 := addW_size ((opdL x.op).map (wordC x)) 22 (nameB x.op) (fun y hy => by
    obtain ⟨q, hq, rfl⟩ := List.mem_map.1 hy
    rw [hk] at hq
    exact wordC_size x h q (opd_fields k hk25 q hq))
  have h2 := nameB_size x.op
  rw [List.length_map] at h1
  have h3 := opd_length k hk25
  rw [← hk] at h3
  omega

theorem iter_row {w : World} {base : Nat} {e : TypeId} {size : Nat} {v : Value} {n : Nat} {xs : List Value} (h : w.ownsRow base e size v n xs) {k : Nat} {s : ByteArray} {pos : Nat} (hk : w.heap[k]? = some (.stringIter s pos)) : some k ≠ v.ownBlock := by
  rcases h.2 with ⟨rfl, _⟩ | ⟨g, cap, cur, rfl, _, hg, _⟩
  · simp [Value.ownBlock]
  · intro e1
    have e2 : k = g := by simpa [Value.ownBlock] using e1
    rw [e2, hg] at hk
    cases hk

theorem own_iterAt {w : World} {base : Nat} {e : TypeId} {size : Nat} {v : Value} {n : Nat} {xs : List Value} (h : w.ownsRow base e size v n xs) {k : Nat} {s : ByteArray} {pos : Nat} (hk : w.heap[k]? = some (.stringIter s pos)) (p : Nat) : (w.iterAt k s p).ownsRow base e size v n xs := by
  obtain ⟨h1, h2⟩ := h
  refine ⟨h1, ?_⟩
  rcases h2 with h2 | ⟨g, cap, cur, a, b, c, d⟩
  · exact .inl h2
  · refine .inr ⟨g, cap, cur, a, b, ?_, d⟩
    rw [Lib.iterAt_other _ _ _ _ _ (fun e1 => by rw [e1, hk] at c; cases c)]
    exact c

theorem iter_lt {w : World} {k : Nat} {s : ByteArray} {pos : Nat} (hk : w.heap[k]? = some (.stringIter s pos)) : k < w.heap.size := (Array.getElem?_eq_some_iff.1 hk).1

set_option maxHeartbeats 2000000 in
theorem asm_instructionLine (x : Ins) (w : World) (ht : Tabs w) (ho : OpsTab w) (hv : vinB x = true) :
    Calls Tryd.prog 27 #[insV x] w fun e w' => e = .returned (.string (insLine x)) ∧ Below w.heap.size w w' := by
  have h0 := (vinB_iff _).1 hv
  obtain ⟨o, hop⟩ := Int.eq_ofNat_of_zero_le h0.1
  have ho25 : o < 25 := by have := h0.2.1; omega
  have HF := Lib.hid (fun q hq => fld_nat x hv q hq)
  have hsz := insLine_size x hv
  have hon := opd_length o ho25
  have HO5 := Lib.hid (opd_fields o ho25)
  rw [← hop] at hon HO5
  have HNX := Lib.hid (fun k (h : k < (opdL x.op).length) => insT7_next x h)
  have HJE : Hid (insT7 x (opdL x.op).length = (insW x).map Value.string) := Lib.hid (by unfold insT7 insW; rw [List.take_length])
  have HT0 : Hid (insT7 x 0 = [.string (nameB x.op)]) := Lib.hid rfl
  have HWC : Hid (∀ q, wordC x q = preC q ++ itoaB (fldC x q).toNat) := Lib.hid (fun q => rfl)
  have HLN : Hid (insLine x = joinB (insW x)) := Lib.hid rfl
  have HLW : Hid ((insW x).length = (opdL x.op).length + 1) := Lib.hid (by simp [insW])
  have hA0 := Below.alloc (Below.refl w.heap.size w) (Nat.le_refl _) (.cells #[.int .i64 x.op, .int .i64 x.a, .int .i64 x.b, .int .i64 x.c, .int .i64 x.imm] 51)
  have X0 := Blk.new (W := w) #[.int .i64 x.op, .int .i64 x.a, .int .i64 x.b, .int .i64 x.c, .int .i64 x.imm] 51
  have c0 := (X0 0 (by simp)).1
  have HCL : Hid (∀ q, q = 65 ∨ q = 66 ∨ q = 67 ∨ q = 73 ∨ q = 76 → (w.alloc (.cells #[.int .i64 x.op, .int .i64 x.a, .int .i64 x.b, .int .i64 x.c, .int .i64 x.imm] 51)).cell? ⟨w.heap.size, offC q, none⟩ = some (.int .i64 (fldC x q))) :=
    Lib.hid (fun q hq => opd_cell (op := x.op) (X0 1 (by simp)).1 (X0 2 (by simp)).1 (X0 3 (by simp)).1 (X0 4 (by simp)).1 hq)
  have ht := ht.later hA0
  have ho := ho.later hA0
  have HC1 := Lib.hid ((ho o ho25).2)
  have HB0 := Lib.hid hA0
  have HL0 : Hid (w.heap.size < (w.alloc (.cells #[.int .i64 x.op, .int .i64 x.a, .int .i64 x.b, .int .i64 x.c, .int .i64 x.imm] 51)).heap.size) := Lib.hid (by simp)
  rw [← hop, show o = x.op.toNat by omega] at HC1
  have i1 : 0 ≤ x.op := h0.1
  have i2 : x.op < 25 := by have := h0.2.1; omega
  unfold insV
  clear hA0 X0 hv h0 hop
  go_enter Tryd.func27, Tryd.ntmps27
  go_upto_region 1 with fail
  generalize w.alloc (.cells #[.int .i64 x.op, .int .i64 x.a, .int .i64 x.b, .int .i64 x.c, .int .i64 x.imm] 51) = W0 at *
  generalize hBx : w.heap.size = Bx at *
  have HBx := Lib.hid hBx
  clear hBx
  have HN := Lib.hid (asm_Name x.op W0 ho)
  go_upto_region 2 with (go_at_call 37; (with_reducible refine HN.out.mono ?_); rintro e W1 ⟨rfl, rfl⟩)
  obtain ⟨i0, hi, hz0, hz1, hz2⟩ := info_parts info_string
  have hown : (W1.alloc (.cells #[.string (nameB x.op)] 9)).ownsRow W1.heap.size 9 1 (.slice (some ⟨W1.heap.size, 0, none⟩) 1 1) (0 + 1) (insT7 x 0) := by
    rw [HT0.out]
    exact World.ownsRow_lit W1 #[.string (nameB x.op)] 1 (Nat.le_refl _) (by decide) rfl
  have hA := Below.alloc (Below.refl W1.heap.size W1) (Nat.le_refl _) (.cells #[.string (nameB x.op)] 9)
  have c0 := cell_later hA c0
  have HC2 := Lib.hid (cell_later hA HC1.out)
  have HA := Lib.hid hA
  have hB2 : W1.heap.size ≤ (W1.alloc (.cells #[.string (nameB x.op)] 9)).heap.size := hA.size
  clear hA HN HC1
  generalize W1.alloc (.cells #[.string (nameB x.op)] 9) = W2 at *
  have c1 := HC2.out
  generalize hops : opdL x.op = ops at *
  have HOPS := Lib.hid hops
  clear hops HC2 HT0
  go_wp2_with fail
  have hIt : (W2.iter ⟨ops.toArray⟩ 0).heap[W2.heap.size]? = some (.stringIter ⟨ops.toArray⟩ 0) := World.iter_heap W2 _ 0
  have hAI : Below W1.heap.size W2 (W2.iter ⟨ops.toArray⟩ 0) := Below.alloc (Below.refl _ _) hB2 (.stringIter ⟨ops.toArray⟩ 0)
  have hown := hown.alloc (.stringIter ⟨ops.toArray⟩ 0)
  have hown : (W2.iter ⟨ops.toArray⟩ 0).ownsRow W1.heap.size 9 1 (.slice (some ⟨W1.heap.size, 0, none⟩) 1 1) (0 + 1) (insT7 x 0) := hown
  have HB3 : Hid (Below W1.heap.size W1 (W2.iter ⟨ops.toArray⟩ 0)) := Lib.hid (HA.out.trans hAI)
  have HIB : Hid (W1.heap.size ≤ W2.heap.size) := Lib.hid hB2
  clear hAI HA hB2 c0 c1
  generalize W2.iter ⟨ops.toArray⟩ 0 = W3 at *
  generalize W2.heap.size = I at *
  go_loopw [3] (fun v wr => ∃ k : Nat, k ≤ ops.length ∧ wr.ownsRow W1.heap.size 9 1 v (k + 1) (insT7 x k) ∧ wr.heap[I]? = some (.stringIter ⟨ops.toArray⟩ k) ∧ Below W1.heap.size W1 wr) (fun _ wx => ops.length - wx.iterPos I)
  case atStart => exact ⟨0, by omega, hown, hIt, HB3.out⟩
  clear hown hIt HB3
  obtain ⟨k, hk, hownr, hit, hw⟩ := hrel
  have hIl := iter_lt hit
  by_cases hlt : k < ops.length
  · have HM := Lib.hid (HO5.out _ (List.getElem_mem hlt))
    have hNX : (Instr.next (.pointer (some ⟨I, 0, none⟩)) true 0).run Tryd.prog wr = .ok (.tuple #[.bool true, .int .i64 k, .int .i32 (ops[k].toNat : Int)]) (wr.iterAt I ⟨ops.toArray⟩ (k + 1)) :=
      Lib.run_next_ascii_at wr I ⟨ops.toArray⟩ k 0 hit (by simpa [ByteArray.size] using hlt) (by
        have h1 : (⟨ops.toArray⟩ : ByteArray)[k]'(by simpa [ByteArray.size] using hlt) = ops[k] := rfl
        rw [h1]
        rcases HM.out with h | h | h | h | h <;> rw [h] <;> decide)
    have HIT2 := Lib.hid (Lib.iterAt_heap wr I ⟨ops.toArray⟩ k (k + 1) hit)
    have HIP := Lib.hid (iterPos_of hit)
    have hown2 := own_iterAt hownr hit (k + 1)
    have hw2 := Lib.below_iterAt hw HIB.out ⟨ops.toArray⟩ (k + 1)
    have hs2 : (wr.iterAt I ⟨ops.toArray⟩ (k + 1)).heap.size = wr.heap.size := Lib.iterAt_size _ _ _ _
    have HN := Lib.hid (HNX.out k hlt)
    generalize wr.iterAt I ⟨ops.toArray⟩ (k + 1) = W4 at *
    have HI4 : Hid (I < W4.heap.size) := Lib.hid (by omega)
    clear hs2 hit hw hownr
    obtain ⟨m, hm, hm2⟩ := HF.out _ HM.out
    have cq := cell_later hw2 (HCL.out _ HM.out)
    have HQ := Lib.hid (HWC.out ops[k])
    have HP := Lib.hid (fun W => asm_prefix ops[k] W)
    have HFd := Lib.hid (fun W => asm_field Bx ops[k] W)
    rw [hm] at HQ cq
    rw [Int.toNat_natCast] at HQ
    have HI := Lib.hid (lib_Itoa m W4 (ht.later hw2) (by omega))
    have hp1 : (preC ops[k]).size ≤ 1 := by unfold preC; split; decide; split; decide; decide
    have hp2 := itoaB_size (n := m) (by omega)
    rw [HQ.out] at HN
    have HW2 := Lib.hid hw2
    have HO2 := Lib.hid hown2
    generalize preC ops[k] = pq at *
    generalize offC ops[k] = oq at *
    generalize itoaB m = tm at *
    generalize (ops[k].toNat : Int) = rq at *
    have z1 : ¬ 9223372036854775807 < pq.size + tm.size := by omega
    clear hp1 hp2 hw2 hown2 HM HQ
    clear hm
    go_upto_region 5 with fail
    go_wp2_with (first
      | (go_at_call 45; (with_reducible refine (HP.out _).mono ?_); rintro e W5 ⟨rfl, rfl⟩)
      | (go_at_call 46; (with_reducible refine (HFd.out _).mono ?_); rintro e W5 ⟨rfl, rfl⟩)
      | (go_at_call 26; (with_reducible refine HI.out.mono ?_); rintro e W6 ⟨rfl, hb6⟩; have hown6 := own_later7 HO2.out hb6; have h6s := Nat.le_trans HW2.out.size hb6.size)
      | (at_builtin; refine wpList_append_own _ rfl (.tmp 19) (.tmp 28) 33 rfl W1.heap.size 9 i0 (.string ⟨#[]⟩) 1 16 Tryd.underlying33 hi hz0 hz1 hz2 rfl (by decide) _ _ _ rfl (hown6.alloc _) ⟨W6.heap.size, 0, none⟩ 1 1 [.string (pq ++ tm)] rfl rfl ?c1 ?c2 ?c3 ?c4 ?c5 ?_))
    case c1 => exact World.news_of_block (cs := #[.string (pq ++ tm)]) (t := 9) (fr := (0, 0)) (heap_alloc_new W6 _)
    case c2 => simp [Value.oneCell']
    case c3 => unfold maxLen; omega
    case c4 => omega
    case c5 => simp; omega
    intro v' w2 hown2 hgrow _h3
    have hit6 : W6.heap[I]? = some (.stringIter ⟨ops.toArray⟩ (k + 1)) := (hb6.block I HI4.out).trans HIT2.out
    have hit7 : (W6.alloc (.cells #[.string (pq ++ tm)] 9)).heap[I]? = some (.stringIter ⟨ops.toArray⟩ (k + 1)) := (Lib.alloc_old W6 _ I (iter_lt hit6)).trans hit6
    have hit8 := (hgrow.block I (iter_lt hit7) (iter_row (hown6.alloc _) hit7)).trans hit7
    have hb4 := Below.alloc (Below.refl W1.heap.size W6) h6s (.cells #[.string (pq ++ tm)] 9)
    have hb5 := hb4.grown hgrow (by simp; omega) (fun j hj => (hown6.lt j hj).1)
    have HFi := Lib.hid (HW2.out.trans ((hb6.mono HW2.out.size).trans hb5))
    rw [← HN.out] at hown2
    have HIP2 := Lib.hid (iterPos_of hit8)
    have HI8 := Lib.hid hit8
    clear hgrow _h3 hown6 hb4 hb5 hb6 hit6 hit7 hit8
    go_wp2_with fail
    refine ⟨⟨k + 1, by omega, hown2, HI8.out, HFi.out⟩, ?_⟩
    rw [HIP2.out, HIP.out]
    omega
  · obtain rfl : k = ops.length := by omega
    have hNE : (Instr.next (.pointer (some ⟨I, 0, none⟩)) true 0).run Tryd.prog wr = .ok (.tuple #[.bool false]) wr := Lib.run_next_end_at wr I ⟨ops.toArray⟩ ops.length 0 hit (by simp [ByteArray.size])
    rw [HJE.out] at hownr
    have HJ := Lib.hid (lib_Join (insW x) HLW.out (by omega) (by omega) hownr (by rw [← HLN.out]; omega))
    have HW := Lib.hid hw
    clear hownr hw hit hsz
    go_wp2_with (go_at_call 10; (with_reducible refine HJ.out.mono ?_); rintro e W3 ⟨rfl, hb3⟩)
    go_ret
    refine ⟨by rw [HLN.out]; rfl, ?_⟩
    rw [HBx.out]
    exact HB0.out.trans ((HW.out.trans (hb3.mono HW.out.size)).mono (Nat.le_of_lt HL0.out))
end Go.Proofs.YthajndgljfbifaaDoor
namespace Go.Proofs.YthajndgljfbifaaDoor
open Go.RowKit
set_option maxRecDepth 100000

/-- The builder in block b holds the text t. -/
def TextIn (b : Nat) (t : ByteArray) (w : World) : Prop := Lib.IsBuilderF 60 5 b b (Lib.strCells t) w

theorem TextIn.lt {b : Nat} {t : ByteArray} {w : World} (h : TextIn b t w) : b < w.heap.size := by
  rcases h with h | h
  · exact h.lt
  · exact h.lt

theorem TextIn.later {b : Nat} {t : ByteArray} {w w' : World} (h : TextIn b t w) (hb : Below w.heap.size w w') : TextIn b t w' := by
  have key : ∀ p, Lib.BuilderAtF 60 5 b b p (Lib.strCells t) w → Lib.BuilderAtF 60 5 b b p (Lib.strCells t) w' := by
    intro p h
    have hlt := h.lt
    obtain ⟨hB, v, hbk, hown, hne⟩ := h
    refine ⟨hB, v, (hb.block b hlt).trans hbk, hown.kept (grownBy_below hb rfl none) ?_, hne⟩
    cases hv : v.ownBlock with
    | none => exact .inl rfl
    | some k => exact .inr (by simp)
  exact h.elim (fun x => .inl (key _ x)) (fun x => .inr (key _ x))

theorem TextIn.new (w : World) : TextIn w.heap.size ⟨#[]⟩ (w.alloc (.cells #[.pointer none, .slice none 0 0] 60)) :=
  Lib.IsBuilderF.of (Lib.fresh_isBuilder 60 5 w)

theorem strCells_add (a b : ByteArray) : Lib.strCells (a ++ b) = Lib.strCells a ++ Lib.strCells b := by
  simp [Lib.strCells, ByteArray.data_append]

theorem lib_WriteString (b : Nat) (t s : ByteArray) (w : World) (h : TextIn b t w) (hl : t.size + s.size ≤ 1000000) :
    Calls Tryd.prog 33 #[.pointer (some ⟨b, 0, none⟩), .string s] w fun e w' => e = .returned (.tuple #[.int .i64 s.size, .nilIface]) ∧ TextIn b (t ++ s) w' ∧ Below b w w' ∧ Lib.OthersKept 5 (some b) w w' := by
  have hlt := h.lt
  refine (Any.Builder_WriteString_k (ρ := Tryd.lays156_ren) { Tryd.lays156 with } Tryd.Builder_Extra_156 b b (Lib.strCells t) s w h (by rw [Lib.strCells_length]; omega) (by omega)).mono ?_
  rintro e w' ⟨he, h1, h2, h3⟩
  refine ⟨he, ?_, h2, h3⟩
  unfold TextIn
  rw [strCells_add]
  exact .inr h1

theorem lib_String (b : Nat) (t : ByteArray) (w : World) (h : TextIn b t w) (h0 : t.size ≠ 0) :
    Calls Tryd.prog 28 #[.pointer (some ⟨b, 0, none⟩)] w fun e w' => e = .returned (.string t) ∧ Below b w w' := by
  have hc : Lib.strCells t = Lib.byteCells t.data.toList := by simp [Lib.strCells, Lib.byteCells]
  unfold TextIn at h
  rw [hc] at h
  refine (Tryd.Builder_String_f b b t.data.toList w h (by
    intro e
    apply h0
    have h1 : t.data.toList.length = t.size := Array.length_toList
    rw [e] at h1
    exact h1.symm)).mono ?_
  rintro e w' ⟨he, _, h2⟩
  exact ⟨he, h2⟩

theorem asm_writeLine (b : Nat) (t s : ByteArray) (w : World) (h : TextIn b t w) (hl : t.size + s.size ≤ 999999) :
    Calls Tryd.prog 23 #[.pointer (some ⟨b, 0, none⟩), .string s] w fun e w' => e = .returned (.tuple #[]) ∧ TextIn b (t ++ s ++ ⟨#[10]⟩) w' ∧ Below b w w' ∧ Lib.OthersKept 5 (some b) w w' := by
  have H1 := Lib.hid (lib_WriteString b t s w h (by omega))
  have H2 : Hid (∀ W, TextIn b (t ++ s) W → _) := Lib.hid (fun W hW => lib_WriteString b (t ++ s) ⟨#[10]⟩ W hW (by
    rw [add_size]
    have : (⟨#[10]⟩ : ByteArray).size = 1 := rfl
    omega))
  go_enter Tryd.func23, Tryd.ntmps23
  go_wp2_with (first
    | (go_at_call 33; (with_reducible refine H1.out.mono ?_); rintro e w1 ⟨rfl, t1, b1, k1⟩)
    | (go_at_call 33; (with_reducible refine (H2.out _ t1).mono ?_); rintro e w2 ⟨rfl, t2, b2, k2⟩))
  refine bodyPost_end (results_none (by rfl) _ _ _) rfl ⟨rfl, t2, b1.trans b2, k1.trans k2⟩

set_option maxHeartbeats 2000000 in
theorem asm_targets (ac : Option Addr) (C : List Ins) (cc : Nat) (w : World) (ho : OpsTab w) (hc : CodeAt w ac C) (lc : C.length ≤ 64) (hg : ∀ i (h : i < C.length), vinB C[i] = true ∧ (jumpB C[i].op = true → C[i].imm < (C.length : Int))) :
    Calls Tryd.prog 25 #[.slice ac C.length cc] w fun e w' => e = .returned (.slice (some ⟨w.heap.size, 0, none⟩) C.length C.length) ∧ w'.ownsRow w.heap.size 4 1 (.slice (some ⟨w.heap.size, 0, none⟩) C.length C.length) C.length (tgts C C.length) ∧ Below w.heap.size w w' := by
  obtain ⟨i0, hi, hz0, hz1, hz2⟩ := info_parts info_bool
  go_enter Tryd.func25, Tryd.ntmps25
  go_wp2_with (first
    | (at_make; refine wpList_make_full _ rfl _ _ 63 rfl w.heap.size 4 i0 (.bool false) 1 Tryd.underlying63 hi hz0 hz1 .i64 .i64 _ _ C.length rfl rfl rfl rfl ?c1 ?c2 ?c3 ?_))
  case c1 => rw [hz2]; omega
  case c2 => unfold maxLen; omega
  case c3 => exact Nat.le_refl _
  intro W3 hown hg3
  rw [show (madeCells #[Value.bool false] C.length).toList = tgts C 0 by have := tgts_zero C; rwa [Nat.mul_one] at this] at hown
  have hb3 : Below w.heap.size w W3 := (Below.refl _ _).grown hg3 (Nat.le_refl _) (fun k hk => by cases hk)
  clear hg3
  go_wp2_with fail
  go_loopw [11] (fun c wr => ∃ j : Nat, j ≤ C.length ∧ c = .int .i64 j ∧ wr.ownsRow w.heap.size 4 1 (.slice (some ⟨w.heap.size, 0, none⟩) C.length C.length) C.length (tgts C j) ∧ Below w.heap.size w wr) (fun c _ => C.length - (intOf c).toNat)
  case atStart => exact ⟨0, by omega, rfl, hown, hb3⟩
  clear hown hb3
  obtain ⟨j, hj, rfl, hown, hw⟩ := hrel
  by_cases hlt : j < C.length
  · obtain ⟨bc, oc, rfl, hcc⟩ := (hc.later hw).some hlt
    obtain ⟨q0, q1, q2, q3, q4⟩ := hcc j hlt
    obtain ⟨gv, gj⟩ := hg j hlt
    have i1 : (j : Int) < (C.length : Int) := by omega
    have i2 : 0 ≤ (j : Int) := by omega
    have HSK : Hid (jumpB C[j].op = false → tgts C (j + 1) = tgts C j) := Lib.hid (fun h => tgts_skip C hlt h)
    have HST : Hid (∀ m : Nat, jumpB C[j].op = true → C[j].imm = (m : Int) → (tgts C j).set m (.bool true) = tgts C (j + 1)) := Lib.hid (fun m h1 h2 => tgts_set C hlt h1 h2)
    have hin := (vinB_iff _).1 gv
    have him : 0 ≤ C[j].imm := hin.2.2.2.2.2.2.2.2.1
    have hop0 : 0 ≤ C[j].op := hin.1
    have hop1 : C[j].op ≤ 24 := hin.2.1
    have ho := ho.later hw
    clear hin gv hcc hc hg
    generalize C[j] = x at *
    obtain ⟨op, a, b, c, imm⟩ := x
    simp only at q0 q1 q2 q3 q4 gj HSK HST him hop0 hop1
    obtain ⟨o, rfl⟩ := Int.eq_ofNat_of_zero_le hop0
    have HGJ := Lib.hid gj
    clear gj
    go_upto_region 5 with fail
    have e0 := (Blk.new (W := wr) #[.int .i64 (o : Int), .int .i64 a, .int .i64 b, .int .i64 c, .int .i64 imm] 51 0 (by simp)).1
    have e4 := (Blk.new (W := wr) #[.int .i64 (o : Int), .int .i64 a, .int .i64 b, .int .i64 c, .int .i64 imm] 51 4 (by simp)).1
    have hA5 := Below.alloc (Below.refl wr.heap.size wr) (Nat.le_refl _) (.cells #[.int .i64 (o : Int), .int .i64 a, .int .i64 b, .int .i64 c, .int .i64 imm] 51)
    have H6 := Lib.hid (hw.trans (hA5.mono hw.size))
    have hown := hown.alloc (.cells #[.int .i64 (o : Int), .int .i64 a, .int .i64 b, .int .i64 c, .int .i64 imm] 51)
    have HJ := Lib.hid (asm_takesLabel o _ (ho.later hA5) (by omega))
    clear hA5 q0 q1 q2 q3 q4 hw ho
    generalize wr.alloc (.cells #[.int .i64 (o : Int), .int .i64 a, .int .i64 b, .int .i64 c, .int .i64 imm] 51) = W5 at *
    generalize wr.heap.size = Z at *
    cases hjj : jumpB (o : Int) with
    | false =>
      rw [hjj] at HJ
      have HS := Lib.hid (HSK.out hjj)
      clear hjj HSK HST HGJ
      go_wp2_with (go_at_call 43; (with_reducible refine HJ.out.mono ?_); rintro e w' ⟨rfl, rfl⟩)
      refine ⟨⟨j + 1, by omega, by go_num, by rw [HS.out]; exact hown, H6.out⟩, ?_⟩
      simp [intOf]
      omega
    | true =>
      rw [hjj] at HJ
      obtain ⟨m, rfl⟩ := Int.eq_ofNat_of_zero_le him
      have hm : (m : Int) < (C.length : Int) := HGJ.out hjj
      have hml : m < C.length := by omega
      have hm0 : 0 ≤ (m : Int) := by omega
      have HS := Lib.hid (HST.out m hjj rfl)
      have c0 := hown.cellAt m (by omega)
      rw [show (tgts C j)[m]? = some (.bool (tgtB C j m)) by simp [tgts, hml]] at c0
      have fr := hown.frozenAt m
      have hst := hown.stored m (.bool true)
      rw [HS.out] at hst
      have HO := Lib.hid hst.1
      have HB6 : Hid (Below w.heap.size w (W5.setCell ⟨w.heap.size, m, none⟩ (.bool true))) := Lib.hid (H6.out.grown hst.2 H6.out.size (fun k hk => by cases hk; exact Nat.le_refl _))
      clear hjj HSK HST HGJ hst hown
      go_wp2_with (go_at_call 43; (with_reducible refine HJ.out.mono ?_); rintro e w' ⟨rfl, rfl⟩)
      refine ⟨⟨j + 1, by omega, by go_num, HO.out, HB6.out⟩, ?_⟩
      simp [intOf]
      omega
  · obtain rfl : j = C.length := by omega
    have HO := Lib.hid hown
    have HW := Lib.hid hw
    clear hown hw hlt hc
    go_wp2
    go_ret
    exact ⟨rfl, HO.out, HW.out⟩
end Go.Proofs.YthajndgljfbifaaDoor
namespace Go.Proofs.YthajndgljfbifaaDoor
open Go.RowKit
set_option maxRecDepth 100000

theorem good_split (C : List Ins) (s : List Int) (L : List (List Nat)) : GoodPg C s L ↔ FitPg s L ∧ CodePg s.length C :=
  ⟨fun h => ⟨⟨h.1, h.2.1, h.2.2.2.2.1⟩, h.2.2.1, h.2.2.2.1, h.2.2.2.2.2⟩, fun h => ⟨h.1.1, h.1.2.1, h.2.1, h.2.2.1, h.1.2.2, h.2.2.2⟩⟩

theorem says_true {p : Prop} {w : World} {e : Ending} {w' : World} (h : Says p w e w') (hp : p) : e = .returned (.bool true) ∧ Below w.heap.size w w' := by
  obtain ⟨g, he, hi, hb⟩ := h
  rw [hi.2 hp] at he
  exact ⟨he, hb⟩

theorem says_false {p : Prop} {w : World} {e : Ending} {w' : World} (h : Says p w e w') (hp : ¬ p) : e = .returned (.bool false) ∧ Below w.heap.size w w' := by
  obtain ⟨g, he, hi, hb⟩ := h
  cases g with
  | false => exact ⟨he, hb⟩
  | true => exact absurd (hi.1 rfl) hp

theorem asm_Print_none (ac a2 ad : Option Addr) (C : List Ins) (s : List Int) (L : List (List Nat)) (cc c2 cd : Nat) (w : World) (ho : OpsTab w) (hc : CodeAt w ac C) (hs : IntsAt .i64 w a2 s) (hd : DatAt w ad L) (lc : C.length ≤ 1000000) (ls : s.length ≤ 1000000) (lr : ∀ l ∈ L, l.length ≤ 1000000) (hg : ¬ GoodPg C s L) :
    Calls Tryd.prog 6 #[.agg #[.slice ac C.length cc, .slice a2 s.length c2, .slice ad L.length cd]] w fun e w' => e = .returned (.tuple #[.string ⟨#[]⟩, .int .i64 1]) ∧ Below w.heap.size w w' := by
  have hB0 := Below.alloc (Below.refl w.heap.size w) (Nat.le_refl _) (.cells #[.slice ac C.length cc, .slice a2 s.length c2, .slice ad L.length cd] 26)
  have X0 := Blk.new (W := w) #[.slice ac C.length cc, .slice a2 s.length c2, .slice ad L.length cd] 26
  have HR : Hid (∀ W, W = w.alloc (.cells #[.slice ac C.length cc, .slice a2 s.length c2, .slice ad L.length cd] 26) → _) := Lib.hid (fun W h => asm_validRegions a2 ad s L c2 cd W (h ▸ ints_later7 hs hB0) (h ▸ hd.later hB0) ls lr)
  have HC : Hid (∀ W, Below w.heap.size w W → _) := Lib.hid (fun W h => asm_validCode ac C s.length cc W (ho.later h) (hc.later h) lc)
  have HR := Lib.hid (HR.out _ rfl)
  have HB0 := Lib.hid hB0
  have HG : Hid (FitPg s L → ¬ CodePg s.length C) := Lib.hid (fun h1 h2 => hg ((good_split C s L).2 ⟨h1, h2⟩))
  clear hc hs hd hB0 hg
  go_enter Tryd.func6, Tryd.ntmps6
  go_upto_region 1 with fail
  generalize w.alloc (.cells #[.slice ac C.length cc, .slice a2 s.length c2, .slice ad L.length cd] 26) = W0 at *
  have p0 := (X0 0 (by simp)).1
  have p1 := (X0 1 (by simp)).1
  have p2 := (X0 2 (by simp)).1
  by_cases h1 : FitPg s L
  · have H1 := Lib.hid (HR.out.mono fun _ _ h => says_true h h1)
    have H2 := Lib.hid (fun W hW => (HC.out W hW).mono fun _ _ h => says_false h (HG.out h1))
    clear HR HC
    go_wp2_with (first
      | (go_at_call 21; (with_reducible refine H1.out.mono ?_); rintro e W1 ⟨rfl, hb1⟩; have p0 := cell_later hb1 p0; have p1 := cell_later hb1 p1)
      | (go_at_call 22; (with_reducible refine (H2.out _ (HB0.out.trans (hb1.mono HB0.out.size))).mono ?_); rintro e W2 ⟨rfl, hb2⟩))
    refine bodyPost_ret (v := .tuple #[.string ⟨#[]⟩, .int .i64 1]) (by simp [results, Tryd.results6, go_sem]) rfl ?_
    exact ⟨rfl, (HB0.out.trans (hb1.mono HB0.out.size)).trans (hb2.mono (HB0.out.trans (hb1.mono HB0.out.size)).size)⟩
  · have H1 := Lib.hid (HR.out.mono fun _ _ h => says_false h h1)
    clear HR HC
    go_wp2_with (go_at_call 21; (with_reducible refine H1.out.mono ?_); rintro e W1 ⟨rfl, hb1⟩)
    refine bodyPost_ret (v := .tuple #[.string ⟨#[]⟩, .int .i64 1]) (by simp [results, Tryd.results6, go_sem]) rfl ?_
    exact ⟨rfl, HB0.out.trans (hb1.mono HB0.out.size)⟩

theorem row_kept {e t : TypeId} {b g : Nat} {w w' : World} {cur : Array Value} {fz : Nat × Nat} (h : Lib.OthersKept e (some b) w w') (hk : w.heap[g]? = some (.cells cur t fz)) (hne : g ≠ b) (ht : t ≠ e) : w'.heap[g]? = some (.cells cur t fz) :=
  h g _ hk (fun e1 => hne (Option.some.inj e1)) (fun c z e1 => by cases e1; exact ht rfl)

theorem heap_later {g : Nat} {w w' : World} {o : Obj} (hb : Below w.heap.size w w') (hk : w.heap[g]? = some o) : w'.heap[g]? = some o :=
  (hb.block g (Array.getElem?_eq_some_iff.1 hk).1).trans hk

theorem codeT_ne (C : List Ins) (t : ByteArray) (h : 1 ≤ C.length) : (codeT C t C.length).size ≠ 0 := by
  obtain ⟨j, hj⟩ : ∃ j, C.length = j + 1 := ⟨C.length - 1, by omega⟩
  rw [hj]
  show (insT C (codeT C t j) j _).size ≠ 0
  rw [insT_line, add_size]
  have : (⟨#[10]⟩ : ByteArray).size = 1 := rfl
  omega

theorem codeT_size0 (C : List Ins) (t : ByteArray) : codeT C t 0 = t := rfl

set_option maxHeartbeats 4000000 in
theorem asm_Print (ac a2 ad : Option Addr) (C : List Ins) (s : List Int) (L : List (List Nat)) (cc c2 cd : Nat) (w : World) (ht : Tabs w) (ho : OpsTab w) (hc : CodeAt w ac C) (hs : IntsAt .i64 w a2 s) (hd : DatAt w ad L) (hg : GoodPg C s L) (hu : ∀ l ∈ L, ∀ v ∈ l, v < 65536) :
    Calls Tryd.prog 6 #[.agg #[.slice ac C.length cc, .slice a2 s.length c2, .slice ad L.length cd]] w fun e w' => e = .returned (.tuple #[.string (printB C s L), .int .i64 0]) ∧ Below w.heap.size w w' := by
  have hv : 1 ≤ s.length ∧ s.length ≤ 4 ∧ ∀ x ∈ s, 1 ≤ x ∧ x ≤ 32 := of_decide_eq_true hg.1
  have lc : C.length ≤ 64 := hg.2.2.2.1
  have ld : L.length = s.length := hg.2.1
  have lr : ∀ i (h : i < L.length) (h2 : i < s.length), L[i].length ≤ 32 := fun i h h2 => by
    have h3 := hg.2.2.2.2.1 i h h2
    have h4 := hv.2.2 _ (List.getElem_mem h2)
    omega
  have lr2 : ∀ l ∈ L, l.length ≤ 1000000 := fun l hl => by
    obtain ⟨i, hi, rfl⟩ := List.mem_iff_getElem.1 hl
    have := lr i hi (by omega)
    omega
  have hB0 := Below.alloc (Below.refl w.heap.size w) (Nat.le_refl _) (.cells #[.slice ac C.length cc, .slice a2 s.length c2, .slice ad L.length cd] 26)
  have X0 := Blk.new (W := w) #[.slice ac C.length cc, .slice a2 s.length c2, .slice ad L.length cd] 26
  have hgs := (good_split C s L).1 hg
  have HR : Hid (∀ W, W = w.alloc (.cells #[.slice ac C.length cc, .slice a2 s.length c2, .slice ad L.length cd] 26) → _) := Lib.hid (fun W h => (asm_validRegions a2 ad s L c2 cd W (h ▸ ints_later7 hs hB0) (h ▸ hd.later hB0) (by omega) lr2).mono fun _ _ hh => says_true hh hgs.1)
  have HC : Hid (∀ W, Below w.heap.size w W → _) := Lib.hid (fun W h => (asm_validCode ac C s.length cc W (ho.later h) (hc.later h) (by omega)).mono fun _ _ hh => says_true hh hgs.2)
  have HR := Lib.hid (HR.out _ rfl)
  have HB0 := Lib.hid hB0
  have LD := Lib.hid ld
  have LR := Lib.hid lr
  have HV := Lib.hid hv
  clear ld lr lr2 hv hB0 hgs
  go_enter Tryd.func6, Tryd.ntmps6
  go_upto_region 1 with fail
  have HBx : Hid (w.heap.size < (w.alloc (.cells #[.slice ac C.length cc, .slice a2 s.length c2, .slice ad L.length cd] 26)).heap.size) := Lib.hid (by simp)
  generalize w.alloc (.cells #[.slice ac C.length cc, .slice a2 s.length c2, .slice ad L.length cd] 26) = W0 at *
  have p0 := (X0 0 (by simp)).1
  have p1 := (X0 1 (by simp)).1
  have p2 := (X0 2 (by simp)).1
  clear X0
  go_upto_region 3 with (first
    | (go_at_call 21; (with_reducible refine HR.out.mono ?_); rintro e W1 ⟨rfl, hb1⟩; have p0 := cell_later hb1 p0; have p1 := cell_later hb1 p1; have p2 := cell_later hb1 p2)
    | (go_at_call 22; (with_reducible refine (HC.out _ (HB0.out.trans (hb1.mono HB0.out.size))).mono ?_); rintro e W2 ⟨rfl, hb2⟩; have p0 := cell_later hb2 p0; have p1 := cell_later hb2 p1; have p2 := cell_later hb2 p2))
  have HB2 : Hid (Below w.heap.size w W2) := Lib.hid ((HB0.out.trans (hb1.mono HB0.out.size)).trans (hb2.mono (HB0.out.trans (hb1.mono HB0.out.size)).size))
  clear HR HC hb1 hb2 HB0
  have hb3 := Below.alloc (Below.refl W2.heap.size W2) (Nat.le_refl _) (.cells #[.pointer none, .slice none 0 0] 60)
  have htx : TextIn W2.heap.size (regsT s L 0) (W2.alloc (.cells #[.pointer none, .slice none 0 0] 60)) := TextIn.new W2
  have P0 := Lib.hid p0
  have P1 := Lib.hid p1
  have P2 := Lib.hid p2
  have p0 := cell_later hb3 p0
  have p1 := cell_later hb3 p1
  have p2 := cell_later hb3 p2
  go_wp2_with fail
  generalize W2.alloc (.cells #[.pointer none, .slice none 0 0] 60) = W3 at *
  go_loopw [28] (fun c wr => ∃ k : Nat, k ≤ s.length ∧ c = .int .i64 k ∧ TextIn W2.heap.size (regsT s L k) wr ∧ (regsT s L k).size ≤ k * 800 ∧ Below W2.heap.size W2 wr) (fun c _ => s.length - (intOf c).toNat)
  case atStart => exact ⟨0, by omega, rfl, htx, by simp [regsT, ByteArray.size], hb3⟩
  clear p0 p1 p2 htx hb3
  obtain ⟨k, hk, rfl, htx, hts, hw⟩ := hrel
  have p0 := cell_later hw P0.out
  have p1 := cell_later hw P1.out
  have p2 := cell_later hw P2.out
  have hwl := HB2.out.trans (hw.mono HB2.out.size)
  by_cases hlt : k < s.length
  · have hlt' : k < L.length := by have := LD.out; omega
    have l32 := LR.out k hlt' hlt
    obtain ⟨n, hn, n32⟩ : ∃ n : Nat, s[k] = (n : Int) ∧ n ≤ 32 := ⟨s[k].toNat, by have := HV.out.2.2 _ (List.getElem_mem hlt); omega, by have := HV.out.2.2 _ (List.getElem_mem hlt); omega⟩
    have HZ : Hid (regsT s L (k + 1) = regsT s L k ++ regLine n L[k] ++ ⟨#[10]⟩) := Lib.hid (by
      show regT (regsT s L k) (s.getD k 0).toNat (L.getD k []) = _
      rw [List.getD_eq_getElem?_getD, List.getElem?_eq_getElem hlt, List.getD_eq_getElem?_getD, List.getElem?_eq_getElem hlt', regT_line]
      simp [hn])
    have hul := hu _ (List.getElem_mem hlt')
    obtain ⟨b, o, rfl, hh⟩ := (ints_later7 hs hwl).some hlt
    obtain ⟨b', o', rfl, hh'⟩ := (hd.later hwl).some hlt'
    have q0 := hh k hlt
    rw [hn] at q0
    obtain ⟨a5, c5, q1, m0⟩ := hh' k hlt'
    have i1 : (k : Int) < (s.length : Int) := by omega
    have i2 : (k : Int) < (L.length : Int) := by omega
    have i3 : 0 ≤ (k : Int) := by omega
    have hk4 : k < 4 := by have := HV.out.2.1; omega
    generalize L[k] = x at *
    have HRL := Lib.hid (asm_regionLine n a5 x c5 wr (ht.later hwl) m0 n32 l32 hul)
    have hrs := regLine_size n x n32 hul
    have hln : (regLine n x).size ≤ 732 := by omega
    have HWL : Hid (∀ W, Below wr.heap.size wr W → _) := Lib.hid (fun W h => asm_writeLine W2.heap.size (regsT s L k) (regLine n x) W (htx.later h) (by omega))
    generalize regsT s L k = t0 at *
    generalize regLine n x = t1 at *
    have HTS : Hid ((t0 ++ t1 ++ ⟨#[10]⟩).size ≤ (k + 1) * 800) := Lib.hid (by
      rw [add_size, add_size]
      have : ByteArray.size ⟨#[10]⟩ = 1 := rfl
      omega)
    have HW := Lib.hid hw
    have HTL := Lib.hid htx.lt
    clear hn hh hh' hlt hlt' hwl hts hrs hln hul htx hw m0
    go_wp2_with (first
      | (go_at_call 24; (with_reducible refine HRL.out.mono ?_); rintro e W4 ⟨rfl, hb4⟩)
      | (go_at_call 23; (with_reducible refine (HWL.out _ hb4).mono ?_); rintro e W5 ⟨rfl, t5, b5, k5⟩))
    refine ⟨⟨k + 1, by omega, by go_num, by rw [HZ.out]; exact t5, by rw [HZ.out]; exact HTS.out, (HW.out.trans (hb4.mono (Nat.le_of_lt HTL.out))).trans b5⟩, ?_⟩
    simp [intOf]
    omega
  · obtain rfl : k = s.length := by omega
    have HTS := Lib.hid hts
    have HBL := Lib.hid hw
    have l1 : 1 ≤ C.length := hg.2.2.1
    have hpr : Hid (printB C s L = codeT C (regsT s L s.length) C.length) := Lib.hid rfl
    have HTG := Lib.hid (asm_targets ac C cc wr (ho.later hwl) (hc.later hwl) lc (fun i h => ⟨(hg.2.2.2.2.2 i h).1, (hg.2.2.2.2.2 i h).2.1⟩))
    have HTL := Lib.hid htx.lt
    have HX := Lib.hid htx
    generalize regsT s L s.length = t0 at *
    clear htx hts hw hwl hs hd LR hlt p1 p2 P1 P2
    go_upto_region 10 with (go_at_call 25; (with_reducible refine HTG.out.mono ?_); rintro e W4 ⟨rfl, hown, hb4⟩)
    have tx4 := HX.out.later hb4
    have hb5 := HBL.out.trans (hb4.mono (Nat.le_of_lt HTL.out))
    have hgb : W2.heap.size < wr.heap.size := HTL.out
    obtain ⟨cur, hcur⟩ : ∃ cur, W4.heap[wr.heap.size]? = some (.cells cur 4 (0, 0)) := by
      rcases hown.2 with ⟨h', _⟩ | ⟨g', cap', cur, h', _, hg', _⟩
      · simp at h'
      · simp only [Value.slice.injEq, Option.some.injEq, Addr.mk.injEq, and_true, true_and] at h'
        obtain ⟨rfl, _⟩ := h'
        exact ⟨cur, hg'⟩
    have HTC : Hid (∀ i, i < C.length → cur[i]? = some (.bool (tgtB C C.length i))) := Lib.hid (fun i h => by
      have h1 := hown.cellAt i (by omega)
      rw [Lib.cell_of_heap hcur] at h1
      rw [h1]
      simp [tgts, h])
    have p0 := cell_later hb5 P0.out
    clear hown hb4 HTG HX
    generalize wr.heap.size = G at *
    have hs4 := HV.out.2.1
    go_wp2_with fail
    go_loopw [48] (fun c wr => ∃ k : Nat, k ≤ C.length ∧ c = .int .i64 k ∧ TextIn W2.heap.size (codeT C t0 k) wr ∧ (codeT C t0 k).size ≤ 3200 + k * 200 ∧ Below W2.heap.size W2 wr ∧ wr.heap[G]? = some (.cells cur 4 (0, 0))) (fun c _ => C.length - (intOf c).toNat)
    case atStart => exact ⟨0, by omega, rfl, tx4, by have := HTS.out; rw [codeT_size0]; omega, hb5, hcur⟩
    clear p0 tx4 hb5 hcur
    obtain ⟨k, hk, rfl, htx, hts, hw, hcur⟩ := hrel
    have hwl := HB2.out.trans (hw.mono HB2.out.size)
    by_cases hlt : k < C.length
    · obtain ⟨bc, oc, rfl, hcc⟩ := (hc.later hwl).some hlt
      obtain ⟨q0, q1, q2, q3, q4⟩ := hcc k hlt
      have htg : wr.cell? ⟨G, k, none⟩ = some (.bool (tgtB C C.length k)) := (Lib.cell_of_heap hcur k).trans (HTC.out k hlt)
      have hvx := (hg.2.2.2.2.2 k hlt).1
      have HC : Hid (codeT C t0 (k + 1) = headT C (codeT C t0 k) k ++ insLine C[k] ++ ⟨#[10]⟩) := Lib.hid (by
        show insT C (codeT C t0 k) k (C.getD k ⟨0, 0, 0, 0, 0⟩) = _
        rw [List.getD_eq_getElem?_getD, List.getElem?_eq_getElem hlt, insT_line]
        rfl)
      have hhd : Hid (headT C (codeT C t0 k) k = if tgtB C C.length k then codeT C t0 k ++ (labLine k ++ ⟨#[10]⟩) else codeT C t0 k) := Lib.hid (headT_line C (codeT C t0 k) k)
      have i1 : (k : Int) < (C.length : Int) := by omega
      have i2 : 0 ≤ (k : Int) := by omega
      clear hcc
      have hil := insLine_size _ hvx
      have HIL := Lib.hid (fun W (h1 : Tabs W) (h2 : OpsTab W) => asm_instructionLine _ W h1 h2 hvx)
      generalize insLine C[k] = tl at *
      generalize C[k] = x at *
      generalize codeT C t0 k = t1 at *
      obtain ⟨op, a, b, c, imm⟩ := x
      unfold insV at HIL
      simp only at q0 q1 q2 q3 q4 HIL
      have HTXL := Lib.hid htx.lt
      go_upto_region 13 with fail
      have hX5 : (wr.alloc (.cells #[.int .i64 op, .int .i64 a, .int .i64 b, .int .i64 c, .int .i64 imm] 51)).heap[wr.heap.size]? = some (.cells #[.int .i64 op, .int .i64 a, .int .i64 b, .int .i64 c, .int .i64 imm] 51 (0, 0)) := heap_alloc_new wr _
      have hA5 := Below.alloc (Below.refl wr.heap.size wr) (Nat.le_refl _) (.cells #[.int .i64 op, .int .i64 a, .int .i64 b, .int .i64 c, .int .i64 imm] 51)
      have hw := hw.trans (hA5.mono (Nat.le_of_lt HTXL.out))
      have htg := cell_later hA5 htg
      have hcur5 := (hA5.block G (by rcases Nat.lt_or_ge G wr.heap.size with h | h; exact h; simp [Array.getElem?_eq_none h] at hcur)).trans hcur
      have htx := htx.later hA5
      clear hA5 q0 q1 q2 q3 q4 hcur hwl hc
      have hZ : W2.heap.size < wr.heap.size := HTXL.out
      generalize wr.alloc (.cells #[.int .i64 op, .int .i64 a, .int .i64 b, .int .i64 c, .int .i64 imm] 51) = W5 at *
      generalize wr.heap.size = Z at *
      have HW5 := Lib.hid hw
      have hwl := HB2.out.trans (hw.mono HB2.out.size)
      have HTB := Lib.hid (fun W (h : Below W2.heap.size W2 W) => ht.later (HB2.out.trans (h.mono HB2.out.size)))
      have HOB := Lib.hid (fun W (h : Below W2.heap.size W2 W) => ho.later (HB2.out.trans (h.mono HB2.out.size)))
      have HX5 := Lib.hid hX5
      have HC5 := Lib.hid hcur5
      have HT5 := Lib.hid htx
      have HTS1 := Lib.hid hts
      generalize tgtB C C.length k = bt at *
      clear hw hX5 hcur5 htx hts hwl
      go_upto_if 56 with fail
      go_cut [8] (fun v wx => v = .int .i64 k ∧ TextIn W2.heap.size (headT C t1 k) wx ∧ (headT C t1 k).size ≤ t1.size + 24 ∧ Below W2.heap.size W2 wx ∧ wx.heap[G]? = some (.cells cur 4 (0, 0)) ∧ wx.heap[Z]? = some (.cells #[.int .i64 op, .int .i64 a, .int .i64 b, .int .i64 c, .int .i64 imm] 51 (0, 0)))
      case first =>
        have hts1 := HTS1.out
        cases bt with
        | true =>
          have HI := Lib.hid (lib_Itoa k W5 (HTB.out _ HW5.out) (by omega))
          have hni := itoaB_size (n := k) (by omega)
          have z1 : ¬ 9223372036854775807 < 1 + (itoaB k).size := by omega
          have z2 : ¬ 9223372036854775807 < 1 + (itoaB k).size + 1 := by omega
          have HLL : Hid (labLine k = ⟨#[108]⟩ ++ itoaB k ++ ⟨#[58]⟩) := Lib.hid rfl
          have hls : (labLine k).size ≤ 23 := by
            rw [HLL.out, add_size, add_size]
            have : ByteArray.size ⟨#[108]⟩ = 1 := rfl
            have : ByteArray.size ⟨#[58]⟩ = 1 := rfl
            omega
          have HWL : Hid (∀ W, Below W5.heap.size W5 W → _) := Lib.hid (fun W h => asm_writeLine W2.heap.size t1 (labLine k) W (HT5.out.later h) (by omega))
          have hh2 : Hid (headT C t1 k = t1 ++ labLine k ++ ⟨#[10]⟩) := Lib.hid (by rw [hhd.out, ByteArray.append_assoc]; rfl)
          have hh3 : Hid ((headT C t1 k).size ≤ t1.size + 24) := Lib.hid (by
            rw [hh2.out, add_size, add_size]
            have : ByteArray.size ⟨#[10]⟩ = 1 := rfl
            omega)
          rw [HLL.out] at HWL
          clear hni hls hts1
          go_wp2_with (first
            | (go_at_call 26; (with_reducible refine HI.out.mono ?_); rintro e W6 ⟨rfl, hb6⟩)
            | (go_at_call 23; (with_reducible refine (HWL.out _ hb6).mono ?_); rintro e W7 ⟨rfl, t7, b7, k7⟩))
          go_meet
          refine ⟨rfl, ?_, hh3.out, (HW5.out.trans (hb6.mono (HW5.out.size))).trans b7, row_kept k7 (heap_later hb6 HC5.out) (by omega) (by decide), row_kept k7 (heap_later hb6 HX5.out) (by omega) (by decide)⟩
          rw [hh2.out, HLL.out]
          exact t7
        | false =>
          have hh2 : Hid (headT C t1 k = t1) := Lib.hid (by rw [hhd.out]; simp)
          go_wp2_with fail
          go_meet
          rw [hh2.out]
          exact ⟨rfl, HT5.out, by omega, HW5.out, HC5.out, HX5.out⟩
      case rest =>
        obtain ⟨rfl, htx, hhs, hwc, hcur, hX⟩ := hcut
        have e0 : wc.cell? ⟨Z, 0, none⟩ = some (.int .i64 op) := (Lib.cell_of_heap hX 0).trans rfl
        have e1 : wc.cell? ⟨Z, 1, none⟩ = some (.int .i64 a) := (Lib.cell_of_heap hX 1).trans rfl
        have e2 : wc.cell? ⟨Z, 2, none⟩ = some (.int .i64 b) := (Lib.cell_of_heap hX 2).trans rfl
        have e3 : wc.cell? ⟨Z, 3, none⟩ = some (.int .i64 c) := (Lib.cell_of_heap hX 3).trans rfl
        have e4 : wc.cell? ⟨Z, 4, none⟩ = some (.int .i64 imm) := (Lib.cell_of_heap hX 4).trans rfl
        have HIX := Lib.hid (HIL.out wc (HTB.out _ hwc) (HOB.out _ hwc))
        have hts1 := HTS1.out
        generalize headT C t1 k = t2 at *
        have HWL : Hid (∀ W, Below wc.heap.size wc W → _) := Lib.hid (fun W h => asm_writeLine W2.heap.size t2 tl W (htx.later h) (by omega))
        have HSZ : Hid ((t2 ++ tl ++ ⟨#[10]⟩).size ≤ 3200 + (k + 1) * 200) := Lib.hid (by
          rw [add_size, add_size]
          have : ByteArray.size ⟨#[10]⟩ = 1 := rfl
          omega)
        have HTL2 := Lib.hid htx.lt
        have HWC := Lib.hid hwc
        have HCU := Lib.hid hcur
        clear hcur hX hwc htx hhs hts1 hil
        go_wp2_with (first
          | (go_at_call 27; (with_reducible refine HIX.out.mono ?_); rintro e W6 ⟨rfl, hb6⟩)
          | (go_at_call 23; (with_reducible refine (HWL.out _ hb6).mono ?_); rintro e W7 ⟨rfl, t7, b7, k7⟩))
        refine ⟨⟨k + 1, by omega, by go_num, by rw [HC.out]; exact t7, by rw [HC.out]; exact HSZ.out, (HWC.out.trans (hb6.mono (Nat.le_of_lt HTL2.out))).trans b7, row_kept k7 (heap_later hb6 HCU.out) (by omega) (by decide)⟩, ?_⟩
        simp [intOf]
        omega
    · obtain rfl : k = C.length := by omega
      have hne := codeT_ne C t0 l1
      have HS := Lib.hid (lib_String W2.heap.size _ wr htx hne)
      have HF := Lib.hid hwl
      have HF2 := Lib.hid hw
      clear htx hts hw hcur hwl hlt hc
      go_wp2_with (go_at_call 28; (with_reducible refine HS.out.mono ?_); rintro e W5 ⟨rfl, hb5⟩)
      refine bodyPost_ret (by simp [results, Tryd.results6, go_sem]; rfl) rfl ⟨?_, HB2.out.trans ((HF2.out.trans hb5).mono HB2.out.size)⟩
      rw [hpr.out]
end Go.Proofs.YthajndgljfbifaaDoor
