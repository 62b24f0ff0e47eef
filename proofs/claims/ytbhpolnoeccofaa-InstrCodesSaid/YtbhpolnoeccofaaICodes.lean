/-
  InstrCodes: for every instruction, list of ints and three ints the law returns true.
-/
import Derived.Test.YtbhpolnoeccofaaSameI
import Derived.Test.YtbhpolnoeccofaaBent
import Derived.Test.YtbhpolnoeccofaaOpen5
import Derived.Deep.RegionHeld3
import Derived.Lib.QuietBelow
namespace Go.Proofs.Ytbhpolnoeccofaa.instrCodesLaw
open Go.RowKit Go.ChangeShapes Go.WideShapes Go.ChangeAt Go.Sort
set_option maxRecDepth 100000

/-- A table of four instructions. -/
def Four (w : World) (T : Nat) : Prop := ∀ k, k < 4 → ∃ z : Ins, w.cell? ⟨T, k * 5, none⟩ = some (.int .i64 z.op) ∧ w.cell? ⟨T, k * 5 + 1, none⟩ = some (.int .i64 z.a) ∧ w.cell? ⟨T, k * 5 + 2, none⟩ = some (.int .i64 z.b) ∧
  w.cell? ⟨T, k * 5 + 3, none⟩ = some (.int .i64 z.c) ∧ w.cell? ⟨T, k * 5 + 4, none⟩ = some (.int .i64 z.imm)

theorem four_new (w : World) (x0 x1 x2 x3 : Ins) (t : TypeId) : Four (w.alloc (.cells #[.int .i64 x0.op, .int .i64 x0.a, .int .i64 x0.b, .int .i64 x0.c, .int .i64 x0.imm, .int .i64 x1.op, .int .i64 x1.a, .int .i64 x1.b, .int .i64 x1.c, .int .i64 x1.imm,
    .int .i64 x2.op, .int .i64 x2.a, .int .i64 x2.b, .int .i64 x2.c, .int .i64 x2.imm, .int .i64 x3.op, .int .i64 x3.a, .int .i64 x3.b, .int .i64 x3.c, .int .i64 x3.imm] t)) w.heap.size := by
  have hN := Blk.new (W := w) #[.int .i64 x0.op, .int .i64 x0.a, .int .i64 x0.b, .int .i64 x0.c, .int .i64 x0.imm, .int .i64 x1.op, .int .i64 x1.a, .int .i64 x1.b, .int .i64 x1.c, .int .i64 x1.imm,
    .int .i64 x2.op, .int .i64 x2.a, .int .i64 x2.b, .int .i64 x2.c, .int .i64 x2.imm, .int .i64 x3.op, .int .i64 x3.a, .int .i64 x3.b, .int .i64 x3.c, .int .i64 x3.imm] t
  intro k hk
  rcases (by omega : k = 0 ∨ k = 1 ∨ k = 2 ∨ k = 3) with rfl | rfl | rfl | rfl
  · exact ⟨x0, (hN 0 (by simp)).1, (hN 1 (by simp)).1, (hN 2 (by simp)).1, (hN 3 (by simp)).1, (hN 4 (by simp)).1⟩
  · exact ⟨x1, (hN 5 (by simp)).1, (hN 6 (by simp)).1, (hN 7 (by simp)).1, (hN 8 (by simp)).1, (hN 9 (by simp)).1⟩
  · exact ⟨x2, (hN 10 (by simp)).1, (hN 11 (by simp)).1, (hN 12 (by simp)).1, (hN 13 (by simp)).1, (hN 14 (by simp)).1⟩
  · exact ⟨x3, (hN 15 (by simp)).1, (hN 16 (by simp)).1, (hN 17 (by simp)).1, (hN 18 (by simp)).1, (hN 19 (by simp)).1⟩

/-- While the table is made: the boxes of two instructions and the deck. -/
structure Mk (w0 : World) (R X D : Nat) (r x : Ins) (W : World) : Prop where
  raw : InsBox W R r
  ins : InsBox W X x
  deck : Deck W D
  below : Below w0.heap.size w0 W
  hD : w0.heap.size ≤ D
  hR : R < D
  hX : D < X

theorem Mk.later {w0 W W' : World} {R X D : Nat} {r x : Ins} (h : Mk w0 R X D r x W) (hb : Below W.heap.size W W') : Mk w0 R X D r x W' :=
  ⟨h.raw.later hb, h.ins.later hb, h.deck.kept (grownBy_below hb rfl none) (fun k hk => by cases hk), h.below.trans (hb.mono h.below.size), h.hD, h.hR, h.hX⟩

theorem Mk.draw {w0 W W' : World} {R X D : Nat} {r x : Ins} (h : Mk w0 R X D r x W) (hg : W.grownBy W' (some D)) (hd : Deck W' D) : Mk w0 R X D r x W' :=
  ⟨h.raw.kept hg (by have := h.hR; simp; omega), h.ins.kept hg (by have := h.hX; simp; omega), hd, h.below.grown hg h.below.size (fun k hk => by cases hk; exact h.hD), h.hD, h.hR, h.hX⟩

/-- What the region's loads read. -/
theorem Mk.cells {w0 W : World} {R X D : Nat} {r x : Ins} (h : Mk w0 R X D r x W) :
    W.cell? ⟨R, 0, none⟩ = some (.int .i64 r.op) ∧ W.cell? ⟨R, 1, none⟩ = some (.int .i64 r.a) ∧ W.cell? ⟨R, 2, none⟩ = some (.int .i64 r.b) ∧ W.cell? ⟨R, 3, none⟩ = some (.int .i64 r.c) ∧ W.cell? ⟨R, 4, none⟩ = some (.int .i64 r.imm) ∧
    W.cell? ⟨X, 0, none⟩ = some (.int .i64 x.op) ∧ W.cell? ⟨X, 1, none⟩ = some (.int .i64 x.a) ∧ W.cell? ⟨X, 2, none⟩ = some (.int .i64 x.b) ∧ W.cell? ⟨X, 3, none⟩ = some (.int .i64 x.c) ∧ W.cell? ⟨X, 4, none⟩ = some (.int .i64 x.imm) ∧ Mk w0 R X D r x W := by
  obtain ⟨r0, r1, r2, r3, r4, _⟩ := ins_cells h.raw
  obtain ⟨x0, x1, x2, x3, x4, _⟩ := ins_cells h.ins
  exact ⟨r0, r1, r2, r3, r4, x0, x1, x2, x3, x4, h⟩

/-- What Encode gives, as a string and an error number. -/
def eS (x : Ins) : ByteArray := if vinB x = true then strOf (encB x) else strOf []
def eE (x : Ins) : Int := if vinB x = true then 0 else 1

def GivesE (s : ByteArray) (E : Int) (w : World) (e : Ending) (w' : World) : Prop :=
  ∃ a n cap, e = .returned (.tuple #[.slice a n cap, .int .i64 E]) ∧ (∀ W, Below w'.heap.size w' W → (convert 30 9 (.slice a n cap)).run Try.prog W = .ok (.string s) W) ∧ Below w.heap.size w w'

theorem gives_bytes {x : Ins} {w w' : World} {e : Ending} (hv : vinB x = true) (h : GivesEnc x w e w') : GivesE (eS x) (eE x) w e w' := by
  obtain ⟨B, hB, he, hb, hw⟩ := h
  rw [eS, if_pos hv, eE, if_pos hv]
  exact ⟨_, 6, 6, he, fun W hW => conv_of (nats_blk (hb.later hW)) (encB_lt x hv) 6 6 rfl, hw⟩

theorem gives_nil {x : Ins} {w w' : World} {e : Ending} (hv : vinB x = false) (h : e = .returned (.tuple #[.slice none 0 0, .int .i64 1]) ∧ Below w.heap.size w w') : GivesE (eS x) (eE x) w e w' := by
  have hv : ¬ vinB x = true := by rw [hv]; simp
  rw [eS, if_neg hv, eE, if_neg hv]
  exact ⟨none, 0, 0, h.1, fun W _ => conv_of (xs := []) (.inl rfl) (fun n hn => by simp at hn) 0 0 rfl, h.2⟩

theorem instr_Encode_any (x : Ins) (w : World) : Calls Try.prog 11 #[insV x] w (GivesE (eS x) (eE x) w) := by
  cases hv : vinB x with
  | true => exact (instr_Encode x w hv).mono fun _ _ h => gives_bytes hv h
  | false => exact (instr_Encode_none x w hv).mono fun _ _ h => gives_nil hv h

theorem ref06_Encode_any (x : Ins) (w : World) : Calls Try.prog 12 #[insV x] w (GivesE (eS x) (eE x) w) := by
  cases hv : vinB x with
  | true => exact (ref06_Encode x w hv).mono fun _ _ h => gives_bytes hv h
  | false => exact (ref06_Encode_none x w hv).mono fun _ _ h => gives_nil hv h

set_option maxHeartbeats 4000000 in
theorem core (r : Ins) (a : Option Addr) (xs : List Int) (ca : Nat) (what by_ pc : Int) (w : World) (ha : IntsAt .i64 w a xs) (hx : GoodInts xs) (h1 : -9223372036854775808 ≤ what) (h2 : what ≤ 9223372036854775807) (h3 : -9223372036854775808 ≤ by_) (h4 : by_ ≤ 9223372036854775807)
    (h5 : -9223372036854775808 ≤ pc) (h6 : pc ≤ 9223372036854775807) :
    Calls Try.prog 3 #[insV r, .slice a xs.length ca, .int .i64 what, .int .i64 by_, .int .i64 pc] w fun e w' => e = .returned (.bool true) ∧ Below w.heap.size w w' := by
  have hA0 := Below.alloc (Below.refl w.heap.size w) (Nat.le_refl _) (.cells #[.int .i64 r.op, .int .i64 r.a, .int .i64 r.b, .int .i64 r.c, .int .i64 r.imm] 23)
  have R0l := Lib.hid (fun W (h : Below (w.alloc (.cells #[.int .i64 r.op, .int .i64 r.a, .int .i64 r.b, .int .i64 r.c, .int .i64 r.imm] 23)).heap.size (w.alloc (.cells #[.int .i64 r.op, .int .i64 r.a, .int .i64 r.b, .int .i64 r.c, .int .i64 r.imm] 23)) W) => (InsBox.new w r).later h)
  have hs0 : (w.alloc (.cells #[.int .i64 r.op, .int .i64 r.a, .int .i64 r.b, .int .i64 r.c, .int .i64 r.imm] 23)).heap.size = w.heap.size + 1 := by simp
  have HN1 := Lib.hid (new_in a xs ca _ (ints_later ha hA0) hx)
  have HI := Lib.hid (fun D W (h : Deck W D) => instr_in D W h)
  have HM := Lib.hid (fun W => make_Mod pc 64 W (by omega) (by omega) h5 h6)
  have HBt := Lib.hid (fun x W => law06_bent x what by_ W h1 h2 h3 h4)
  unfold insV at HBt
  obtain ⟨p, hm⟩ : ∃ p : Nat, pc % 64 = (p : Int) := ⟨(pc % 64).toNat, by omega⟩
  have hp : p < 64 := by omega
  rw [hm] at HM
  unfold insV
  clear ha hx h1 h2 h3 h4 h5 h6 hm
  go_enter Try.func3, Try.ntmps3
  go_upto_region 1 with fail
  generalize w.alloc (.cells #[.int .i64 r.op, .int .i64 r.a, .int .i64 r.b, .int .i64 r.c, .int .i64 r.imm] 23) = W0 at *
  generalize W0.heap.size = D at *
  have hs1 := Lib.hid hs0
  clear hs0
  go_wp2_with fail
  refine HN1.out.mono ?_
  rintro e w1 ⟨rfl, hd1, hb1⟩
  have hs0 := hs1.out
  have hA1 : Below w.heap.size w w1 := hA0.trans (hb1.mono (by omega))
  have R1 : InsBox w1 w.heap.size r := R0l.out w1 hb1
  clear hs0
  go_wp2_with fail
  refine (HI.out _ _ hd1).mono ?_
  rintro e w2 ⟨x, rfl, hx, hd2, hg2⟩
  have K2 : InsBox w2 w.heap.size r ∧ Deck w2 D ∧ Below w.heap.size w w2 := ⟨R1.kept hg2 (by have := hs1.out; simp; omega), hd2, hA1.grown hg2 hA1.size (fun k hk => by have := hs1.out; cases hk; omega)⟩
  have hs0 := hs1.out
  have hDl := hd2.lt
  unfold insV
  have hA3 := Below.alloc (Below.refl w2.heap.size w2) (Nat.le_refl _) (.cells #[.int .i64 x.op, .int .i64 x.a, .int .i64 x.b, .int .i64 x.c, .int .i64 x.imm] 23)
  have M3 : Mk w w.heap.size w2.heap.size D r x (w2.alloc (.cells #[.int .i64 x.op, .int .i64 x.a, .int .i64 x.b, .int .i64 x.c, .int .i64 x.imm] 23)) :=
    ⟨K2.1.later hA3, InsBox.new w2 x, K2.2.1.kept (grownBy_below hA3 rfl none) (fun k hk => by cases hk), K2.2.2.trans (hA3.mono K2.2.2.size), by omega, by omega, hDl⟩
  clear HN1 hd1 hb1 hd2 hg2 K2 R1 hA1 hA0 hA3 hx R0l hs1 hs0
  go_upto_region 3 with fail
  generalize w2.alloc (.cells #[.int .i64 x.op, .int .i64 x.a, .int .i64 x.b, .int .i64 x.c, .int .i64 x.imm] 23) = W3 at *
  generalize w2.heap.size = X at *
  have HS := Lib.hid M3.cells
  have HSd := Lib.hid (M3.later (Below.refl _ _).drew).cells
  clear M3
  go_cut [34, 35, 36] (fun v l c wx => ∃ T, v = .slice (some ⟨T, 0, none⟩) 4 4 ∧ l = .int .i64 4 ∧ c = .int .i64 0 ∧ Four wx T ∧ Below w.heap.size w wx)
  case first =>
    go_region_held3 (fun W => W.cell? ⟨w.heap.size, 0, none⟩ = some (.int .i64 r.op) ∧ W.cell? ⟨w.heap.size, 1, none⟩ = some (.int .i64 r.a) ∧ W.cell? ⟨w.heap.size, 2, none⟩ = some (.int .i64 r.b) ∧ W.cell? ⟨w.heap.size, 3, none⟩ = some (.int .i64 r.c) ∧ W.cell? ⟨w.heap.size, 4, none⟩ = some (.int .i64 r.imm) ∧ W.cell? ⟨X, 0, none⟩ = some (.int .i64 x.op) ∧ W.cell? ⟨X, 1, none⟩ = some (.int .i64 x.a) ∧ W.cell? ⟨X, 2, none⟩ = some (.int .i64 x.b) ∧ W.cell? ⟨X, 3, none⟩ = some (.int .i64 x.c) ∧ W.cell? ⟨X, 4, none⟩ = some (.int .i64 x.imm) ∧ Mk w w.heap.size X D r x W)
      (first
        | exact HS.out
        | exact HSd.out
        | assumption
        | exact (Mk.later (by go_split_ands; assumption) hb7).cells
        | exact (Mk.draw (by go_split_ands; assumption) hg8 hd8).cells
        | exact (Mk.later (by go_split_ands; assumption) (Below.alloc (Below.refl _ _) (Nat.le_refl _) _)).cells)
      (first
        | (go_at_call 10; (with_reducible refine (HBt.out _ _).mono ?_); rintro e W7 ⟨z7, rfl, hb7⟩; unfold insV; dsimp only)
        | (go_at_call 9; (with_reducible refine (HI.out _ _ (Mk.deck (by go_split_ands; assumption))).mono ?_); rintro e W8 ⟨y8, rfl, hy8, hd8, hg8⟩; unfold insV; dsimp only))
    all_goals
      rename_i hHeld
      have HB := Lib.hid hHeld.2.2.2.2.2.2.2.2.2.2.below
      clear hHeld
      go_wp2_with fail
      go_meet
      exact ⟨_, rfl, rfl, rfl, four_new _ _ _ _ _ _, HB.out⟩
  case rest =>
    obtain ⟨T, rfl, rfl, rfl, h4, hB4⟩ := hcut
    have H4 := Lib.hid h4
    clear h4 HS HSd HI HBt hDl
    go_wp2_with fail
    go_loopw [36] (fun c wr => ∃ k : Nat, k ≤ 4 ∧ c = .int .i64 k ∧ Below wc.heap.size wc wr) (fun c _ => 4 - (intOf c).toNat)
    case atStart => exact ⟨0, by omega, rfl, Below.refl _ _⟩
    case round =>
      obtain ⟨k, hk, rfl, hw⟩ := hrel
      have hBr := hB4.trans (hw.mono hB4.size)
      by_cases hlt : k < 4
      · obtain ⟨z, c0, c1, c2, c3, c4⟩ := H4.out k hlt
        have c0 := cell_later hw c0
        have c1 := cell_later hw c1
        have c2 := cell_later hw c2
        have c3 := cell_later hw c3
        have c4 := cell_later hw c4
        have i1 : (k : Int) < 4 := by omega
        have i2 : 0 ≤ (k : Int) := by omega
        have hA5 := Below.alloc (Below.refl wr.heap.size wr) (Nat.le_refl _) (.cells #[.int .i64 z.op, .int .i64 z.a, .int .i64 z.b, .int .i64 z.c, .int .i64 z.imm] 23)
        have Z5 := InsBox.new wr z
        have hC5 := hw.trans (hA5.mono hw.size)
        clear hA5
        go_upto_region 6 with fail
        have HE1 := Lib.hid (fun W => instr_Encode_any z W)
        have HE2 := Lib.hid (fun W => ref06_Encode_any z W)
        have HV1 := Lib.hid (fun W => instr_Valid z W)
        have HV2 := Lib.hid (fun W => ref06_Valid z W)
        have HR1 := Lib.hid (fun W => instr_Branch z.op W)
        have HR2 := Lib.hid (fun W => ref06_Branch z.op W)
        have HT1 := Lib.hid (fun W => instr_Targets z p W hp)
        have HT2 := Lib.hid (fun W => ref06_Targets z p W hp)
        have HL : Hid ((tgtV z ((p : Int) + 1)).length ≤ 1000000) := Lib.hid (by unfold tgtV; split <;> (try split) <;> (try split) <;> (try split) <;> (try split) <;> simp)
        obtain ⟨zo, za, zb, zc, zi⟩ := z
        unfold insV at HE1 HE2 HV1 HV2 HT1 HT2
        simp only at HE1 HE2 HV1 HV2 HR1 HR2 HT1 HT2 c0 c1 c2 c3 c4
        generalize tgtV ⟨zo, za, zb, zc, zi⟩ ((p : Int) + 1) = L at *
        generalize eS ⟨zo, za, zb, zc, zi⟩ = st at *
        generalize eE ⟨zo, za, zb, zc, zi⟩ = er at *
        generalize (jumpB zo || decide (zo = 22 ∨ zo = 24)) = br at *
        obtain ⟨vb, hvb⟩ : ∃ vb, vinB ⟨zo, za, zb, zc, zi⟩ = vb := ⟨_, rfl⟩
        rw [hvb] at HV1 HV2 HT1
        clear hvb
        generalize wr.alloc (.cells #[.int .i64 zo, .int .i64 za, .int .i64 zb, .int .i64 zc, .int .i64 zi] 23) = W5 at *
        generalize wr.heap.size = V at *
        obtain ⟨e0, e1, e2, e3, e4, _⟩ := ins_cells Z5
        clear c0 c1 c2 c3 c4
        go_wp2_with fail
        refine (HE1.out _).mono ?_
        rintro e W6 ⟨a6, n6, c6, rfl, cv6, hb6⟩
        have Z6 := Z5.later hb6
        have hB6 := hC5.trans (hb6.mono hC5.size)
        clear HE1 e0 e1 e2 e3 e4 Z5 hb6 hC5
        obtain ⟨e0, e1, e2, e3, e4, _⟩ := ins_cells Z6
        go_wp2_with fail
        refine (HE2.out _).mono ?_
        rintro e W7 ⟨a7, n7, c7, rfl, cv7, hb7⟩
        have Z7 := Z6.later hb7
        have hB7 := hB6.trans (hb7.mono hB6.size)
        have C6 := Lib.hid (fun W (h : Below W7.heap.size W7 W) => cv6 W (hb7.trans (h.mono hb7.size)))
        have C7 := Lib.hid cv7
        clear HE2 e0 e1 e2 e3 e4 Z6 hb7 hB6 cv6 cv7
        have HS : Hid (∀ W, Below W7.heap.size W7 W → (convert 30 9 (.slice a6 n6 c6)).run Try.prog W = .ok (.string st) W ∧ (convert 30 9 (.slice a7 n7 c7)).run Try.prog W = .ok (.string st) W ∧ W.cell? ⟨V, 0, none⟩ = some (.int .i64 zo) ∧ W.cell? ⟨V, 1, none⟩ = some (.int .i64 za) ∧ W.cell? ⟨V, 2, none⟩ = some (.int .i64 zb) ∧ W.cell? ⟨V, 3, none⟩ = some (.int .i64 zc) ∧ W.cell? ⟨V, 4, none⟩ = some (.int .i64 zi) ∧ Below W7.heap.size W7 W) := Lib.hid (fun W h => by
          obtain ⟨r0, r1, r2, r3, r4, _⟩ := ins_cells (Z7.later h)
          exact ⟨C6.out W h, C7.out W h, r0, r1, r2, r3, r4, h⟩)
        have HZ := Lib.hid hB7
        clear hB7 Z7 C6 C7 hw hBr hB4
        go_upto_region 8 with fail
        go_region_held3 (fun W => (convert 30 9 (.slice a6 n6 c6)).run Try.prog W = .ok (.string st) W ∧ (convert 30 9 (.slice a7 n7 c7)).run Try.prog W = .ok (.string st) W ∧ W.cell? ⟨V, 0, none⟩ = some (.int .i64 zo) ∧ W.cell? ⟨V, 1, none⟩ = some (.int .i64 za) ∧ W.cell? ⟨V, 2, none⟩ = some (.int .i64 zb) ∧ W.cell? ⟨V, 3, none⟩ = some (.int .i64 zc) ∧ W.cell? ⟨V, 4, none⟩ = some (.int .i64 zi) ∧ Below W7.heap.size W7 W)
          (first
            | exact HS.out _ (Below.refl _ _)
            | exact HS.out _ (Below.refl _ _).drew
            | assumption
            | (go_split_ands; exact HS.out _ (Below.trans (by assumption) (hb8.mono (Below.size (by assumption))))))
          (first
            | (go_at_call 13; (with_reducible refine (HV1.out _).mono ?_); rintro e W8 ⟨rfl, hb8⟩; dsimp only)
            | (go_at_call 14; (with_reducible refine (HV2.out _).mono ?_); rintro e W8 ⟨rfl, hb8⟩; dsimp only)
            | (go_at_call 15; (with_reducible refine (HR1.out _).mono ?_); rintro e W8 ⟨rfl, rfl⟩; dsimp only)
            | (go_at_call 16; (with_reducible refine (HR2.out _).mono ?_); rintro e W8 ⟨rfl, rfl⟩; dsimp only))
        rename_i hHeld
        have hB9 := hHeld.2.2.2.2.2.2.2
        clear hHeld
        have HS2 : Hid (∀ W, Below W7.heap.size W7 W → W.cell? ⟨V, 0, none⟩ = some (.int .i64 zo) ∧ W.cell? ⟨V, 1, none⟩ = some (.int .i64 za) ∧ W.cell? ⟨V, 2, none⟩ = some (.int .i64 zb) ∧ W.cell? ⟨V, 3, none⟩ = some (.int .i64 zc) ∧ W.cell? ⟨V, 4, none⟩ = some (.int .i64 zi) ∧ Below W7.heap.size W7 W) := Lib.hid (fun W h => (HS.out W h).2.2)
        clear HS
        go_upto_region 10 with fail
        cases vb with
        | false =>
          obtain ⟨e0, e1, e2, e3, e4, _⟩ := HS2.out _ hB9
          have HE0 := Lib.hid (HZ.out.trans (hB9.mono HZ.out.size))
          have k0 := cell_regrown e0
          have k1 := cell_regrown e1
          have k2 := cell_regrown e2
          have k3 := cell_regrown e3
          have k4 := cell_regrown e4
          have cV := fun d os => Calls.regrown_of (HV2.out (grow (redrawn W8 d) os))
          clear hB9 HZ HS2 HT1 HT2 HM HL HV1 HV2 HR1 HR2
          refine wp_region_quiet_below (by kernel_rfl) (by kernel_rfl) ?_
          repeat (go_big_quiet_step (exact cV _ _))
          refine wpQuiet_nil ?_
          intro _ hw'
          obtain ⟨⟨dq, osq⟩, hw''⟩ := hw'
          subst hw''
          have HB := Lib.hid (below_regrown W8 dq osq)
          go_wp2
          go_roundw
          case rel => exact ⟨k + 1, by omega, by go_num, HE0.out.trans (HB.out.mono HE0.out.size)⟩
          case measure => simp [intOf]; omega
        | true =>
          have HSI := Lib.hid (fun a1 a2 c1 c2 W h1 h2 => ref01_SameInts a1 a2 L c1 c2 W h1 h2 HL.out)
          have HT1 := Lib.hid (fun W => HT1.out W rfl)
          go_region_held3 (fun W => W.cell? ⟨V, 0, none⟩ = some (.int .i64 zo) ∧ W.cell? ⟨V, 1, none⟩ = some (.int .i64 za) ∧ W.cell? ⟨V, 2, none⟩ = some (.int .i64 zb) ∧ W.cell? ⟨V, 3, none⟩ = some (.int .i64 zc) ∧ W.cell? ⟨V, 4, none⟩ = some (.int .i64 zi) ∧ Below W7.heap.size W7 W)
            (first
              | exact HS2.out _ hB9
              | exact HS2.out _ hB9.drew
              | assumption
              | (go_split_ands; exact HS2.out _ (Below.trans (by assumption) (hb8.mono (Below.size (by assumption))))))
            (first
              | (go_at_call 14; (with_reducible refine (HV2.out _).mono ?_); rintro e W8 ⟨rfl, hb8⟩; dsimp only)
              | (go_at_call 19; (with_reducible refine (HM.out _).mono ?_); rintro e W8 ⟨rfl, rfl⟩; dsimp only)
              | (go_at_call 18; (with_reducible refine (HT1.out _).mono ?_); rintro e W8 ⟨a8, k8, rfl, hI8, hb8⟩; (try have hI9 := ints_later hI9 hb8); dsimp only)
              | (go_at_call 20; (with_reducible refine (HT2.out _).mono ?_); rintro e W8 ⟨a9, k9, rfl, hI9, hb8⟩; (try have hI8 := ints_later hI8 hb8); dsimp only)
              | (go_at_call 17; (with_reducible refine (HSI.out _ _ _ _ _ hI8 hI9).mono ?_); rintro e W8 ⟨rfl, hb8⟩; dsimp only))
          all_goals
            rename_i hHeld
            have HE := Lib.hid (HZ.out.trans (hHeld.2.2.2.2.2.mono HZ.out.size))
            clear hHeld
            go_wp2
            go_roundw
            case rel => exact ⟨k + 1, by omega, by go_num, HE.out⟩
            case measure => simp [intOf]; omega
      · obtain rfl : k = 4 := by omega
        have HB := Lib.hid hBr
        clear hBr
        go_wp2_with (go_at_call 21; (with_reducible refine (law06_awake _).mono ?_); rintro e w' ⟨rfl, hb9⟩)
        go_ret
        exact ⟨rfl, HB.out.trans (hb9.mono HB.out.size)⟩

theorem walk {H : Type} (enc : TypeId × Value → H) (W : World) (base : Nat) (v0 : Value) (d0 : DataW H) (p0 : List MemPlace) (o0 : Value.okWide Try.prog W .any base 23 v0) (h0 : DataW.Trod enc Try.prog W 0 (fun _ => true) true 23 v0 d0 p0)
    (v1 : Value) (d1 : DataW H) (p1 : List MemPlace) (o1 : Value.okWide Try.prog W .any base 24 v1) (h1 : DataW.Trod enc Try.prog W 0 (fun _ => true) true 24 v1 d1 p1)
    (v2 : Value) (d2 : DataW H) (p2 : List MemPlace) (o2 : Value.okWide Try.prog W .any base 3 v2) (h2 : DataW.Trod enc Try.prog W 0 (fun _ => true) true 3 v2 d2 p2)
    (v3 : Value) (d3 : DataW H) (p3 : List MemPlace) (o3 : Value.okWide Try.prog W .any base 3 v3) (h3 : DataW.Trod enc Try.prog W 0 (fun _ => true) true 3 v3 d3 p3)
    (v4 : Value) (d4 : DataW H) (p4 : List MemPlace) (o4 : Value.okWide Try.prog W .any base 3 v4) (h4 : DataW.Trod enc Try.prog W 0 (fun _ => true) true 3 v4 d4 p4) :
    Calls Try.prog 3 #[v0, v1, v2, v3, v4] W fun e w' => e = .returned (.bool true) ∧ Below W.heap.size W w' := by
  obtain ⟨r, rfl⟩ := open_ins o0 h0
  obtain ⟨a, xs, ca, rfl, ha, hx, hl⟩ := open_nums Try.underlying24 Try.underlying3 (by kernel_rfl) o1 h1
  obtain ⟨i, rfl, rfl, rfl, w2⟩ := open_int Try.underlying3 o2 h2
  obtain ⟨j, rfl, rfl, rfl, w3⟩ := open_int Try.underlying3 o3 h3
  obtain ⟨k, rfl, rfl, rfl, w4⟩ := open_int Try.underlying3 o4 h4
  exact core r a xs ca i j k W ha ⟨fun x hx2 => int_of (hx x hx2), by unfold maxLen at hl; exact hl⟩ (int_of w2).1 (int_of w2).2 (int_of w3).1 (int_of w3).2 (int_of w4).1 (int_of w4).2
end Go.Proofs.Ytbhpolnoeccofaa.instrCodesLaw
