/-
  A copy of a layout; the machine at the beginning of a program.
  The machine at the beginning of a program: the program's Start.
-/
import Derived.Test.YthajndgljfbifaaThr8
import Derived.Test.YthajndgljfbifaaMem2
import Derived.Test.YthajndgljfbifaaChk8
import Derived.Lib.SliceRun
import Derived.Deep.RegionWith
import Derived.Deep.RegionHeld3
namespace Go.Proofs.Ythajndgljfbifaa
open Go.RowKit
set_option maxRecDepth 100000

theorem info_int8 : (Try.prog.info? 3).map (fun i => (i.zero, i.size, i.bytes)) = some (some (.int .i64 0), 1, 8) := by kernel_rfl

theorem lines_kept8 {w w' : World} {g : Nat} {r : Option Nat} (h : LinesAt w (some ⟨g, 0, none⟩) emptyM) (hg : w.grownBy w' r) (hr : r ≠ some g) : LinesAt w' (some ⟨g, 0, none⟩) emptyM := by
  rcases h with h | ⟨b, off, ha, h⟩
  · exact .inl h
  · cases ha
    refine .inr ⟨_, _, rfl, fun i hi => ?_⟩
    obtain ⟨h0, h1, a, c, h2, _⟩ := h i hi
    have he : emptyM[i].cells = [] := by
      have : emptyM[i] = ⟨-1, false, []⟩ := List.getElem_replicate (a := (⟨-1, false, []⟩ : MLine)) (n := 4) hi
      rw [this]
    have hne : some g ≠ r := fun e => hr e.symm
    exact ⟨hg.cell h0 hne, hg.cell h1 hne, a, c, hg.cell h2 hne, .inl he⟩

/-- The five cells of a machine's box are set. -/
def put5 (R : Nat) (w : World) (v0 v1 v2 v3 v4 : Value) : World :=
  ((((w.setCell ⟨R, 0, none⟩ v0).setCell ⟨R, 1, none⟩ v1).setCell ⟨R, 2, none⟩ v2).setCell ⟨R, 3, none⟩ v3).setCell ⟨R, 4, none⟩ v4

theorem grown_put5 (R : Nat) (w : World) (v0 v1 v2 v3 v4 : Value) : w.grownBy (put5 R w v0 v1 v2 v3 v4) (some R) :=
  grownBy_trans (grownBy_trans (grownBy_trans (grownBy_trans (grownBy_cell w R 0 v0) (grownBy_cell _ R 1 v1)) (grownBy_cell _ R 2 v2)) (grownBy_cell _ R 3 v3)) (grownBy_cell _ R 4 v4)

def i64V (xs : List Int) : List Value := xs.map (Value.int .i64)

theorem ints_src8 {w : World} {a : Addr} {xs : List Int} (h : IntsAt .i64 w (some a) xs) : ∀ j u, (i64V xs)[j]? = some u → w.cell? (a.add j) = some u := fun j u hj => by
  obtain ⟨h1, rfl⟩ := List.getElem?_eq_some_iff.1 hj
  unfold i64V at h1
  rw [List.length_map] at h1
  rcases h with h | ⟨b, off, ha, h⟩
  · rw [h] at h1; simp at h1
  · cases ha
    have e : (⟨b, off, none⟩ : Addr).add j = ⟨b, off + j, none⟩ := by unfold Addr.add; split <;> simp_all
    rw [e, h j h1]
    simp [i64V]

/-- Ints in a block from lo on. -/
def IntsIn8 (lo : Nat) (w : World) (a : Option Addr) (xs : List Int) : Prop :=
  xs = [] ∨ ∃ b off, a = some ⟨b, off, none⟩ ∧ lo ≤ b ∧ ∀ i (h : i < xs.length), w.cell? ⟨b, off + i, none⟩ = some (.int .i64 xs[i])

theorem IntsIn8.at {lo : Nat} {w : World} {a : Option Addr} {xs : List Int} (h : IntsIn8 lo w a xs) : IntsAt .i64 w a xs := by
  rcases h with h | ⟨b, off, ha, _, h⟩
  · exact .inl h
  · exact .inr ⟨b, off, ha, h⟩

theorem IntsIn8.kept {lo : Nat} {w w' : World} {a : Option Addr} {xs : List Int} {r : Option Nat} (h : IntsIn8 lo w a xs) (hg : w.grownBy w' r) (hr : ∀ b, r = some b → b < lo) : IntsIn8 lo w' a xs := by
  rcases h with h | ⟨b, off, ha, hb, h⟩
  · exact .inl h
  · exact .inr ⟨b, off, ha, hb, fun i hi => hg.cell (h i hi) (fun e => by have := hr b e.symm; omega)⟩

theorem IntsIn8.mono {lo lo' : Nat} {w : World} {a : Option Addr} {xs : List Int} (h : IntsIn8 lo w a xs) (hl : lo' ≤ lo) : IntsIn8 lo' w a xs := by
  rcases h with h | ⟨b, off, ha, hb, h⟩
  · exact .inl h
  · exact .inr ⟨b, off, ha, by omega, h⟩

theorem ints_of_own8 {w : World} {base n : Nat} {v : Value} {xs : List Int} (h : w.ownsRow base 3 1 v n (i64V xs)) : n = xs.length ∧ ∃ a c, v = .slice a xs.length c ∧ xs.length ≤ c ∧ IntsIn8 base w a xs := by
  have hn : n = xs.length := by have := h.1; simp [i64V] at this; omega
  subst hn
  refine ⟨rfl, ?_⟩
  rcases h.2 with ⟨hv, h0⟩ | ⟨g, cap, cur, hv, hbs, _, hnc, _⟩
  · have hx : xs = [] := List.eq_nil_of_length_eq_zero h0
    subst hx
    exact ⟨none, 0, hv, Nat.le_refl _, Or.inl rfl⟩
  · refine ⟨some ⟨g, 0, none⟩, cap, hv, hnc, Or.inr ⟨g, 0, rfl, hbs, fun i hi => ?_⟩⟩
    subst hv
    have := h.cellAt i (by omega)
    rw [Nat.zero_add, this]
    simp [i64V, List.getElem?_eq_getElem hi]

set_option maxHeartbeats 1000000 in
theorem slices_Clone_ints (a : Option Addr) (xs : List Int) (ca : Nat) (w : World) (ha : IntsAt .i64 w a xs) (lx : xs.length ≤ 1000000) :
    Calls Try.prog 89 #[.slice a xs.length ca] w fun e w' => ∃ ad c, e = .returned (.slice ad xs.length c) ∧ xs.length ≤ c ∧ IntsIn8 w.heap.size w' ad xs ∧ Below w.heap.size w w' := by
  have q := fun (w : World) (a : Option Addr) (n c n' c' : Nat) => Lib.run_eql_slice_nil (P := Try.prog) w _ _ a n c n' c' Try.underlying23
  cases a with
  | none =>
    obtain rfl : xs = [] := by
      rcases ha with h | ⟨_, _, h, _⟩
      · exact h
      · cases h
    go_enter Try.func89, Try.ntmps89
    go_wp2
    go_ret
    exact ⟨_, _, rfl, Nat.le_refl _, .inl rfl, Below.refl _ _⟩
  | some ad =>
    obtain ⟨i0, hi, hz0, hz1, hz2⟩ := info_parts info_int8
    have hsrc := ints_src8 ha
    have hlen : (i64V xs).length = xs.length * 1 := by simp [i64V]
    have hone : ∀ u ∈ i64V xs, u.oneCell' = true := fun u hu => by obtain ⟨y, _, rfl⟩ := List.mem_map.1 hu; rfl
    have HOF := Lib.hid (fun (W : World) (v : Value) (h : W.ownsRow w.heap.size 3 1 v xs.length (i64V xs)) => (ints_of_own8 h).2)
    clear ha
    generalize i64V xs = R at *
    go_enter Try.func89, Try.ntmps89
    go_wp2_with (at_builtin; refine wpList_append_own _ rfl _ _ 23 rfl w.heap.size 3 i0 (.int .i64 0) 1 8 Try.underlying23 hi hz0 hz1 hz2 rfl (by decide) _ _ _ rfl (World.ownsRow_made w #[] 0 (Nat.le_refl _) (Nat.zero_le _) rfl) ad xs.length ca R rfl ?qc1 ?qc2 ?qc3 ?qc4 ?qc5 ?qc6 ?_)
    case qc1 => exact hlen
    case qc2 => exact fun j u hj => Lib.cell?_alloc_some _ (hsrc j u hj)
    case qc3 => exact hone
    case qc4 => unfold maxLen; omega
    case qc5 => omega
    case qc6 => simp
    intro v' w1 hown hgrow hnil
    have hown : w1.ownsRow w.heap.size 3 1 v' xs.length R := by simpa using hown
    obtain ⟨ad2, c2, rfl, hc, hat⟩ := HOF.out _ _ hown
    have HAT := Lib.hid hat
    have HB := Lib.hid (((Below.refl _ w).alloc (Nat.le_refl _) (.cells #[] 3)).grown hgrow (by simp) (by intro k hk; simp [Value.ownBlock] at hk; omega))
    clear hat hgrow hown
    go_wp2
    go_ret
    exact ⟨ad2, c2, rfl, hc, HAT.out, HB.out⟩

set_option maxHeartbeats 2000000 in
theorem program_copyLayout (a : Option Addr) (xs : List Int) (ca : Nat) (key : Int) (w : World) (ha : IntsAt .i64 w a xs) (lx : xs.length ≤ 1000000) :
    Calls Try.prog 51 #[.agg #[.slice a xs.length ca, .int .u16 key]] w fun e w' => ∃ ad c, e = .returned (.agg #[.slice ad xs.length c, .int .u16 key]) ∧ xs.length ≤ c ∧ IntsIn8 w.heap.size w' ad xs ∧ Below w.heap.size w w' := by
  have g1 := World.grownBy_alloc (w.alloc (.cells #[.slice a xs.length ca, .int .u16 key] 29)) (.cells #[.slice none 0 0, .int .u16 0] 29) none
  have bA := (Blk.new (W := w) #[.slice a xs.length ca, .int .u16 key] 29).kept g1 (by simp)
  have bR := Blk.new (W := (w.alloc (.cells #[.slice a xs.length ca, .int .u16 key] 29))) #[.slice none 0 0, .int .u16 0] 29
  have hs1 : (w.alloc (.cells #[.slice a xs.length ca, .int .u16 key] 29)).heap.size = w.heap.size + 1 := by simp
  rw [hs1] at bR
  have hB := Below.alloc (Below.alloc (Below.refl w.heap.size w) (Nat.le_refl _) (.cells #[.slice a xs.length ca, .int .u16 key] 29)) (by rw [hs1]; omega) (.cells #[.slice none 0 0, .int .u16 0] 29)
  have HC := Lib.hid (fun W (h : Below w.heap.size w W) => slices_Clone_ints a xs ca W (ints_later7 ha h) lx)
  clear g1 hs1 ha
  go_enter Try.func51, Try.ntmps51
  go_upto_region 1 with fail
  generalize ((w.alloc (.cells #[.slice a xs.length ca, .int .u16 key] 29)).alloc (.cells #[.slice none 0 0, .int .u16 0] 29)) = W0 at *
  have BA := Lib.hid (fun W (h : Below W0.heap.size W0 W) => And.intro (bA.later h) (bR.later h))
  have a0 := (bA 0 (by simp)).1
  have a1 := (bA 1 (by simp)).1
  have r0 := (bR 0 (by simp)).1
  have r1 := (bR 1 (by simp)).1
  have k0 := (bR 0 (by simp)).2
  have k1 := (bR 1 (by simp)).2
  clear bA bR
  go_region_with (go_at_call 89; (with_reducible refine (HC.out W0.drew hB.drew).mono ?_); rintro e w2 ⟨ad, c, rfl, hcc, hat, hb2⟩; have hbb := BA.out w2 ((Below.refl _ _).drew.trans (hb2.mono (Nat.le_refl _))); have x0 := (hbb.1 0 (by simp)).1; have x1 := (hbb.1 1 (by simp)).1; have y0 := (hbb.2 0 (by simp)).1; have y1 := (hbb.2 1 (by simp)).1; have z0 := (hbb.2 0 (by simp)).2; have z1 := (hbb.2 1 (by simp)).2)
  all_goals
    have h0 := hB.size
    have hz := World.block_lt_of_cell? _ _ r0
    simp only at hz
    have hg := grownBy_cell w2 (w.heap.size + 1) 0 (.slice ad xs.length c)
    have hg2 := grownBy_cell (w2.setCell ⟨w.heap.size + 1, 0, none⟩ (.slice ad xs.length c)) (w.heap.size + 1) 1 (.int .u16 key)
    have HI := Lib.hid (((hat.kept hg (fun b hb => by cases hb; exact hz)).kept hg2 (fun b hb => by cases hb; exact hz)).mono (lo' := w.heap.size) h0)
    have HF := Lib.hid (((hB.drew.trans (hb2.mono h0)).setCell (p := ⟨w.heap.size + 1, 0, none⟩) (by simp) (.slice ad xs.length c)).setCell (p := ⟨w.heap.size + 1, 1, none⟩) (by simp) (.int .u16 key))
    clear hat hb2 hg hg2 HC BA hbb hB
    go_wp2
    refine bodyPost_ret (v := .agg #[.slice ad xs.length c, .int .u16 key]) (by simp [results, Try.results51, go_sem, y0, y1]) rfl ⟨ad, c, rfl, hcc, HI.out, HF.out⟩
end Go.Proofs.Ythajndgljfbifaa
namespace Go.Proofs.Ythajndgljfbifaa
open Go.RowKit
set_option maxRecDepth 100000

/-- A zero machine. -/
def zeroMach : Value := .agg #[.slice none 0 0, .int .u16 0, .slice none 0 0, .slice none 0 0, .slice none 0 0]

/-- What Start gives. -/
def GivesStart (C : List Ins) (s : List Int) (L : List (List Nat)) (bs : List Int) (key : Int) (w : World) (e : Ending) (w' : World) : Prop :=
  Below w.heap.size w w' ∧ ((chkE C s L ≠ 0 ∧ e = .returned (.tuple #[zeroMach, .int .i64 (chkE C s L)])) ∨ (chkE C s L = 0 ∧ layB bs s = false ∧ e = .returned (.tuple #[zeroMach, .int .i64 1])) ∨
    (chkE C s L = 0 ∧ layB bs s = true ∧ ∃ la lc c cc g cl ta tc, e = .returned (.tuple #[.agg #[.slice la bs.length lc, .int .u16 key, .slice (some ⟨c, 0, none⟩) 512 cc, .slice (some ⟨g, 0, none⟩) 4 cl, .slice ta 4 tc], .int .i64 0]) ∧ bs.length ≤ lc ∧
      IntsAt .i64 w' la bs ∧ CellsAt w' (some ⟨c, 0, none⟩) (loadTo bs (s.map Int.toNat) L L.length 0) ∧ LinesAt w' (some ⟨g, 0, none⟩) emptyM ∧ ThrsAt w' ta firstT))

theorem start_err {C : List Ins} {s : List Int} {L : List (List Nat)} {bs : List Int} {key v : Int} {w w' : World} (hb : Below w.heap.size w w') (h : chkE C s L ≠ 0) (hv : chkE C s L = v) : GivesStart C s L bs key w (.returned (.tuple #[zeroMach, .int .i64 v])) w' := ⟨hb, .inl ⟨h, by rw [hv]⟩⟩
theorem start_arg {C : List Ins} {s : List Int} {L : List (List Nat)} {bs : List Int} {key : Int} {w w' : World} (hb : Below w.heap.size w w') (h : chkE C s L = 0) (h2 : layB bs s = false) : GivesStart C s L bs key w (.returned (.tuple #[zeroMach, .int .i64 1])) w' := ⟨hb, .inr (.inl ⟨h, h2, rfl⟩)⟩

theorem loadOk_of {C : List Ins} {s : List Int} {L : List (List Nat)} {bs : List Int} (h : chkE C s L = 0) : loadOk bs s L = layB bs s := by
  unfold loadOk
  have hg := chk_good.1 h
  have : (decide (L.length = s.length) && fitsL s L) = true := by
    rw [Bool.and_eq_true, decide_eq_true_iff]
    exact ⟨hg.2.1, fitsL_all.2 hg.2.2.2.2.1⟩
  rw [this, Bool.and_true]

theorem start_close {C : List Ins} {s : List Int} {L : List (List Nat)} {bs : List Int} {key : Int} {w W3 Wz : World} {R lo1 lo2 c cc g cl lc tc : Nat} {la ta : Option Addr} (hk : chkE C s L = 0) (hl : layB bs s = true) (h3 : Below w.heap.size w W3) (hz : Below W3.heap.size W3 Wz) (hi : IntsIn8 lo1 Wz la bs) (ht : ThrsIn lo2 Wz ta firstT)
    (hcc : CellsAt W3 (some ⟨c, 0, none⟩) (loadTo bs (s.map Int.toNat) L L.length 0)) (hll : LinesAt W3 (some ⟨g, 0, none⟩) emptyM) (hR : w.heap.size ≤ R) (hR1 : R < lo1) (hR2 : R < lo2) (hRc : R < c) (hRg : R < g) (hlc : bs.length ≤ lc) :
    GivesStart C s L bs key w (.returned (.tuple #[.agg #[.slice la bs.length lc, .int .u16 key, .slice (some ⟨c, 0, none⟩) 512 cc, .slice (some ⟨g, 0, none⟩) 4 cl, .slice ta 4 tc], .int .i64 0])) (put5 R Wz (.slice la bs.length lc) (.int .u16 key) (.slice (some ⟨c, 0, none⟩) 512 cc) (.slice (some ⟨g, 0, none⟩) 4 cl) (.slice ta 4 tc)) := by
  have hg := grown_put5 R Wz (.slice la bs.length lc) (.int .u16 key) (.slice (some ⟨c, 0, none⟩) 512 cc) (.slice (some ⟨g, 0, none⟩) 4 cl) (.slice ta 4 tc)
  refine ⟨(h3.trans (hz.mono h3.size)).grown hg (by have := h3.size; have := hz.size; omega) (fun j hj => by cases hj; exact hR), .inr (.inr ⟨hk, hl, la, lc, c, cc, g, cl, ta, tc, rfl, hlc, ?_, ?_, ?_, ?_⟩)⟩
  · exact (hi.kept hg (fun b hb => by cases hb; exact hR1)).at
  · exact cells_kept8 (hcc.later hz) hg (by simp; omega)
  · exact lines_kept8 (hll.later hz) hg (by simp; omega)
  · exact (ht.kept hg (fun b hb => by cases hb; exact hR2)).at

set_option maxHeartbeats 4000000 in
theorem program_Start (ac a2 ad la : Option Addr) (C : List Ins) (s : List Int) (L : List (List Nat)) (bs : List Int) (key : Int) (cc c2 cd lc : Nat) (w : World) (hc : CodeAt w ac C) (hs : IntsAt .i64 w a2 s) (hd : DatAt w ad L) (hl : IntsAt .i64 w la bs)
    (lC : C.length ≤ 1000000) (ls : s.length ≤ 1000000) (ld : L.length ≤ 1000000) (lr : ∀ l ∈ L, l.length ≤ 1000000) (lb : bs.length ≤ 1000000) :
    Calls Try.prog 17 #[.agg #[.slice ac C.length cc, .slice a2 s.length c2, .slice ad L.length cd], .agg #[.slice la bs.length lc, .int .u16 key]] w (GivesStart C s L bs key w) := by
  have A1 := Below.alloc (Below.refl w.heap.size w) (Nat.le_refl _) (.cells #[.slice ac C.length cc, .slice a2 s.length c2, .slice ad L.length cd] 26)
  have e1 : (w.alloc (.cells #[.slice ac C.length cc, .slice a2 s.length c2, .slice ad L.length cd] 26)).heap.size = w.heap.size + 1 := by simp
  have bP := Blk.new (W := w) #[.slice ac C.length cc, .slice a2 s.length c2, .slice ad L.length cd] 26
  have bL := Blk.new (W := w.alloc (.cells #[.slice ac C.length cc, .slice a2 s.length c2, .slice ad L.length cd] 26)) #[.slice la bs.length lc, .int .u16 key] 29
  have A2 := A1.alloc (by rw [e1]; omega) (.cells #[.slice la bs.length lc, .int .u16 key] 29)
  rw [e1] at bL
  have bP1 := bP.later (Below.alloc (Below.refl _ _) (Nat.le_refl _) (.cells #[.slice la bs.length lc, .int .u16 key] 29))
  have e2 : ((w.alloc (.cells #[.slice ac C.length cc, .slice a2 s.length c2, .slice ad L.length cd] 26)).alloc (.cells #[.slice la bs.length lc, .int .u16 key] 29)).heap.size = w.heap.size + 1 + 1 := by simp
  have bR := Blk.new (W := (w.alloc (.cells #[.slice ac C.length cc, .slice a2 s.length c2, .slice ad L.length cd] 26)).alloc (.cells #[.slice la bs.length lc, .int .u16 key] 29)) #[.slice none 0 0, .int .u16 0, .slice none 0 0, .slice none 0 0, .slice none 0 0] 47
  rw [e2] at bR
  have A3 := A2.alloc (by rw [e2]; omega) (.cells #[.slice none 0 0, .int .u16 0, .slice none 0 0, .slice none 0 0, .slice none 0 0] 47)
  have bP2 := bP1.later (Below.alloc (Below.refl _ _) (Nat.le_refl _) (.cells #[.slice none 0 0, .int .u16 0, .slice none 0 0, .slice none 0 0, .slice none 0 0] 47))
  have bL2 := bL.later (Below.alloc (Below.refl _ _) (Nat.le_refl _) (.cells #[.slice none 0 0, .int .u16 0, .slice none 0 0, .slice none 0 0, .slice none 0 0] 47))
  clear bP bP1 bL
  have hc0 := hc.later A3
  have hs0 := ints_later7 hs A3
  have hd0 := hd.later A3
  have hl0 := ints_later7 hl A3
  have e3 : (((w.alloc (.cells #[.slice ac C.length cc, .slice a2 s.length c2, .slice ad L.length cd] 26)).alloc (.cells #[.slice la bs.length lc, .int .u16 key] 29)).alloc (.cells #[.slice none 0 0, .int .u16 0, .slice none 0 0, .slice none 0 0, .slice none 0 0] 47)).heap.size = w.heap.size + 1 + 1 + 1 := by simp
  have HZ : Hid (w.heap.size + 1 + 1 < (((w.alloc (.cells #[.slice ac C.length cc, .slice a2 s.length c2, .slice ad L.length cd] 26)).alloc (.cells #[.slice la bs.length lc, .int .u16 key] 29)).alloc (.cells #[.slice none 0 0, .int .u16 0, .slice none 0 0, .slice none 0 0, .slice none 0 0] 47)).heap.size) := Lib.hid (by rw [e3]; omega)
  clear A1 A2 e1 e2 e3 hc hs hd hl
  go_enter Try.func17, Try.ntmps17
  go_upto_region 1 with fail
  generalize ((w.alloc (.cells #[.slice ac C.length cc, .slice a2 s.length c2, .slice ad L.length cd] 26)).alloc (.cells #[.slice la bs.length lc, .int .u16 key] 29)).alloc (.cells #[.slice none 0 0, .int .u16 0, .slice none 0 0, .slice none 0 0, .slice none 0 0] 47) = W0 at *
  have HCk := Lib.hid (program_Check ac a2 ad C s L cc c2 cd _ hc0 hs0 hd0 lC ls ld lr)
  have HB0 := Lib.hid A3
  have p0 := (bP2 0 (by simp)).1
  have p1 := (bP2 1 (by simp)).1
  have p2 := (bP2 2 (by simp)).1
  clear A3
  by_cases hk : chkE C s L = 0
  case neg =>
    have hne : (chkE C s L != 0) = true := by rw [bne_iff_ne]; exact hk
    have HK := Lib.hid hk
    have HR := Lib.hid bR
    clear hk bP2 bL2 bR hc0 hs0 hd0 hl0
    go_upto_region 3 with (go_at_call 15; (with_reducible refine HCk.out.mono ?_); rintro e w1 ⟨rfl, hb1⟩; have bR1 := HR.out.later hb1)
    have r0 := (bR1 0 (by simp)).1
    have r1 := (bR1 1 (by simp)).1
    have r2 := (bR1 2 (by simp)).1
    have r3 := (bR1 3 (by simp)).1
    have r4 := (bR1 4 (by simp)).1
    have k0 := (bR1 0 (by simp)).2
    have k1 := (bR1 1 (by simp)).2
    have k2 := (bR1 2 (by simp)).2
    have k3 := (bR1 3 (by simp)).2
    have k4 := (bR1 4 (by simp)).2
    have HF := Lib.hid ((((((HB0.out.trans (hb1.mono HB0.out.size)).setCell (p := ⟨w.heap.size + 1 + 1, 0, none⟩) (by simp; omega) (.slice none 0 0)).setCell (p := ⟨w.heap.size + 1 + 1, 1, none⟩) (by simp; omega) (.int .u16 0)).setCell (p := ⟨w.heap.size + 1 + 1, 2, none⟩) (by simp; omega) (.slice none 0 0)).setCell (p := ⟨w.heap.size + 1 + 1, 3, none⟩) (by simp; omega) (.slice none 0 0)).setCell (p := ⟨w.heap.size + 1 + 1, 4, none⟩) (by simp; omega) (.slice none 0 0))
    clear hb1 bR1
    go_wp2_with fail
    refine bodyPost_ret (v := .tuple #[zeroMach, .int .i64 (chkE C s L)]) (by simp [results, Try.results17, go_sem, zeroMach, r0, r1, r2, r3, r4]) rfl (start_err HF.out HK.out rfl)
  case pos =>
  have HK := Lib.hid hk
  have HLO : Hid (loadOk bs s L = layB bs s) := Lib.hid (loadOk_of hk)
  rw [hk] at HCk
  have HP := Lib.hid bP2
  have HL := Lib.hid bL2
  have HR := Lib.hid bR
  clear hk bP2 bL2 bR hc0
  go_upto_region 4 with (go_at_call 15; (with_reducible refine HCk.out.mono ?_); rintro e w1 ⟨rfl, hb1⟩)
  have HB1 := Lib.hid (HB0.out.trans (hb1.mono HB0.out.size))
  have HP1 := Lib.hid (HP.out.later hb1)
  have HL1 := Lib.hid (HL.out.later hb1)
  have HR1 := Lib.hid (HR.out.later hb1)
  have HLd := Lib.hid (memory_LoadF ac a2 la ad C.length cc c2 cd lc s bs L key w1 (ints_later7 hs0 hb1) (ints_later7 hl0 hb1) (hd0.later hb1) ls lb (by omega) (fun l hl => by have := lr l hl; omega))
  have HLI := Lib.hid (ints_later7 hl0 hb1)
  have p0 := (HP1.out 0 (by simp)).1
  have p1 := (HP1.out 1 (by simp)).1
  have p2 := (HP1.out 2 (by simp)).1
  have l0 := (HL1.out 0 (by simp)).1
  have l1 := (HL1.out 1 (by simp)).1
  have HZ1 : Hid (w.heap.size + 1 + 1 < w1.heap.size) := Lib.hid (Nat.lt_of_lt_of_le HZ.out hb1.size)
  clear HCk HB0 HP HL HR hb1 hs0 hd0 hl0 lr HZ
  go_upto_region 5 with (go_at_call 50; (with_reducible refine HLd.out.mono ?_); rintro e w2 hG; obtain ⟨hb2, hG⟩ := hG; obtain ⟨hlo, rfl⟩ | ⟨hlo, c, cm, g, cl, rfl, hcc, hll, hc9, hg9⟩ := hG)
  · have HLF : Hid (layB bs s = false) := Lib.hid (by rw [← HLO.out]; exact hlo)
    have hA := Below.alloc (Below.refl w2.heap.size w2) (Nat.le_refl _) (.cells #[.slice none 0 0, .slice none 0 0] 44)
    have hb3 := hb2.trans (hA.mono hb2.size)
    have bR1 := HR1.out.later hb3
    have r0 := (bR1 0 (by simp)).1
    have k0 := (bR1 0 (by simp)).2
    have r1 := (bR1 1 (by simp)).1
    have k1 := (bR1 1 (by simp)).2
    have r2 := (bR1 2 (by simp)).1
    have k2 := (bR1 2 (by simp)).2
    have r3 := (bR1 3 (by simp)).1
    have k3 := (bR1 3 (by simp)).2
    have r4 := (bR1 4 (by simp)).1
    have k4 := (bR1 4 (by simp)).2
    have HF := Lib.hid ((((((HB1.out.trans (hb3.mono HB1.out.size)).setCell (p := ⟨w.heap.size + 1 + 1, 0, none⟩) (by simp; omega) (.slice none 0 0)).setCell (p := ⟨w.heap.size + 1 + 1, 1, none⟩) (by simp; omega) (.int .u16 0)).setCell (p := ⟨w.heap.size + 1 + 1, 2, none⟩) (by simp; omega) (.slice none 0 0)).setCell (p := ⟨w.heap.size + 1 + 1, 3, none⟩) (by simp; omega) (.slice none 0 0)).setCell (p := ⟨w.heap.size + 1 + 1, 4, none⟩) (by simp; omega) (.slice none 0 0))
    clear hA hb2 hb3 bR1 HR1 HP1 HL1 HLI
    generalize w2.alloc (.cells #[.slice none 0 0, .slice none 0 0] 44) = W3 at *
    go_wp2_with fail
    refine bodyPost_ret (v := .tuple #[zeroMach, .int .i64 1]) (by simp [results, Try.results17, go_sem, zeroMach, r0, r1, r2, r3, r4]) rfl (start_arg HF.out HK.out HLF.out)
  · have HLF : Hid (layB bs s = true) := Lib.hid (by rw [← HLO.out]; exact hlo)
    have MB := Blk.new (W := w2) #[.slice (some ⟨c, 0, none⟩) 512 cm, .slice (some ⟨g, 0, none⟩) 4 cl] 44
    have hA := Below.alloc (Below.refl w2.heap.size w2) (Nat.le_refl _) (.cells #[.slice (some ⟨c, 0, none⟩) 512 cm, .slice (some ⟨g, 0, none⟩) 4 cl] 44)
    have hb3 := hb2.trans (hA.mono hb2.size)
    have HR2 := Lib.hid (HR1.out.later hb3)
    have HL2 := Lib.hid (HL1.out.later hb3)
    have HMB := Lib.hid MB
    have HCC := Lib.hid (hcc.later hA)
    have HLL := Lib.hid (hll.later hA)
    have HB3 := Lib.hid (HB1.out.trans (hb3.mono HB1.out.size))
    have HLI3 := Lib.hid (ints_later7 HLI.out hb3)
    have HZ3 : Hid (w.heap.size + 1 + 1 < (w2.alloc (.cells #[.slice (some ⟨c, 0, none⟩) 512 cm, .slice (some ⟨g, 0, none⟩) 4 cl] 44)).heap.size) := Lib.hid (Nat.lt_of_lt_of_le HZ1.out hb3.size)
    have HCG : Hid (w1.heap.size ≤ c ∧ w1.heap.size ≤ g) := Lib.hid ⟨hc9, hg9⟩
    clear hA hb2 hb3 MB HR1 HP1 HL1 HLI hcc hll HB1 HLd hc9 hg9 p0 p1 p2 l0 l1
    generalize w2.alloc (.cells #[.slice (some ⟨c, 0, none⟩) 512 cm, .slice (some ⟨g, 0, none⟩) 4 cl] 44) = W3 at *
    go_upto_region 7 with fail
    have HCo := Lib.hid (fun W (h : Below W3.heap.size W3 W) => program_copyLayout la bs lc key W (ints_later7 HLI3.out h) lb)
    have HTh := Lib.hid (fun W => program_firstThreads W)
    have HFA : Hid (∀ W, Below W3.heap.size W3 W → W.cell? ⟨w.heap.size + 1, 0, none⟩ = some (.slice la bs.length lc) ∧ W.cell? ⟨w.heap.size + 1, 1, none⟩ = some (.int .u16 key) ∧ W.cell? ⟨w2.heap.size, 0, none⟩ = some (.slice (some ⟨c, 0, none⟩) 512 cm) ∧ W.cell? ⟨w2.heap.size, 1, none⟩ = some (.slice (some ⟨g, 0, none⟩) 4 cl) ∧ W.cell? ⟨w.heap.size + 1 + 1, 0, none⟩ = some (.slice none 0 0) ∧ W.frozen? ⟨w.heap.size + 1 + 1, 0, none⟩ = false ∧ W.cell? ⟨w.heap.size + 1 + 1, 1, none⟩ = some (.int .u16 0) ∧ W.frozen? ⟨w.heap.size + 1 + 1, 1, none⟩ = false ∧ W.cell? ⟨w.heap.size + 1 + 1, 2, none⟩ = some (.slice none 0 0) ∧ W.frozen? ⟨w.heap.size + 1 + 1, 2, none⟩ = false ∧ W.cell? ⟨w.heap.size + 1 + 1, 3, none⟩ = some (.slice none 0 0) ∧ W.frozen? ⟨w.heap.size + 1 + 1, 3, none⟩ = false ∧ W.cell? ⟨w.heap.size + 1 + 1, 4, none⟩ = some (.slice none 0 0) ∧ W.frozen? ⟨w.heap.size + 1 + 1, 4, none⟩ = false) := Lib.hid (fun W h => by
      have a := HL2.out.later h
      have b := HMB.out.later h
      have r := HR2.out.later h
      exact ⟨(a 0 (by simp)).1, (a 1 (by simp)).1, (b 0 (by simp)).1, (b 1 (by simp)).1, (r 0 (by simp)).1, (r 0 (by simp)).2, (r 1 (by simp)).1, (r 1 (by simp)).2, (r 2 (by simp)).1, (r 2 (by simp)).2, (r 3 (by simp)).1, (r 3 (by simp)).2, (r 4 (by simp)).1, (r 4 (by simp)).2⟩)
    have HDr := Lib.hid (Below.drew (Below.refl W3.heap.size W3))
    obtain ⟨a00, a01, m00, m01, _⟩ := HFA.out _ (Below.refl _ _)
    clear HMB HR2 HL2 HLI3
    go_region_with (first
      | (go_at_call 51; (with_reducible refine (HCo.out W3.drew HDr.out).mono ?_); rintro e w8 ⟨l8, c8, rfl, hlc8, hi8, hb8⟩; have hB8 := HDr.out.trans (hb8.mono (Nat.le_refl _)); obtain ⟨a80, a81, m80, m81, r80, k80, r81, k81, r82, k82, r83, k83, r84, k84⟩ := HFA.out w8 hB8)
      | (go_at_call 52; (with_reducible refine (HTh.out W3.drew).mono ?_); rintro e w9 ⟨t9, c9, rfl, htc9, ht9, hb9⟩; have hB9 := HDr.out.trans (hb9.mono (Nat.le_refl _)); obtain ⟨a90, a91, m90, m91, r90, k90, r91, k91, r92, k92, r93, k93, r94, k94⟩ := HFA.out w9 hB9)
      | (go_at_call 51; (with_reducible refine (HCo.out w9 hB9).mono ?_); rintro e w8 ⟨l8, c8, rfl, hlc8, hi8, hb8⟩; have hBz := hB9.trans (hb8.mono hB9.size); obtain ⟨a70, a71, m70, m71, r70, k70, r71, k71, r72, k72, r73, k73, r74, k74⟩ := HFA.out w8 hBz; have ht8 := ht9.later hb8)
      | (go_at_call 52; (with_reducible refine (HTh.out w8).mono ?_); rintro e w9 ⟨t9, c9, rfl, htc9, ht9, hb9⟩; have hBz := hB8.trans (hb9.mono hB8.size); obtain ⟨a70, a71, m70, m71, r70, k70, r71, k71, r72, k72, r73, k73, r74, k74⟩ := HFA.out w9 hBz; have hi9 := hi8.kept (grownBy_below hb9 rfl none) (fun b hb => by cases hb)))
    all_goals
      first
        | (have HE := Lib.hid (start_close (w := w) (R := w.heap.size + 1 + 1) (lc := c8) (cc := cm) (cl := cl) (tc := c9) (key := key) HK.out HLF.out HB3.out hBz hi9 ht9 HCC.out HLL.out (by omega) HZ3.out (Nat.lt_of_lt_of_le HZ3.out hB8.size) (by have := HCG.out.1; have := HZ1.out; omega) (by have := HCG.out.2; have := HZ1.out; omega) hlc8)
           clear HCo HTh HFA hi8 hi9 ht9 hB8 hBz hb8 hb9)
        | (have HE := Lib.hid (start_close (w := w) (R := w.heap.size + 1 + 1) (lc := c8) (cc := cm) (cl := cl) (tc := c9) (key := key) HK.out HLF.out HB3.out hBz hi8 ht8 HCC.out HLL.out (by omega) (Nat.lt_of_lt_of_le HZ3.out hB9.size) HZ3.out (by have := HCG.out.1; have := HZ1.out; omega) (by have := HCG.out.2; have := HZ1.out; omega) hlc8)
           clear HCo HTh HFA hi8 ht8 ht9 hB9 hBz hb8 hb9)
      go_wp2
      refine bodyPost_ret (v := .tuple #[.agg #[.slice l8 bs.length c8, .int .u16 key, .slice (some ⟨c, 0, none⟩) 512 cm, .slice (some ⟨g, 0, none⟩) 4 cl, .slice t9 4 c9], .int .i64 0]) (by simp [results, Try.results17, go_sem, r70, r71, r72, r73, r74]) rfl HE.out
end Go.Proofs.Ythajndgljfbifaa
