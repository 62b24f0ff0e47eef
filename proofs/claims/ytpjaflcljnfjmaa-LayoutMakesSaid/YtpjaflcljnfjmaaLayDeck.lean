/-
  Contracts of the deck: Layout, Canon.
-/
import Derived.Test.YtpjaflcljnfjmaaLayMk
import Derived.Test.YtpjaflcljnfjmaaLay12
import Derived.Test.YtpjaflcljnfjmaaDeck
import Derived.Test.YtpjaflcljnfjmaaReg6
namespace Go.Proofs.Ytpjaflcljnfjmaa
open Go.RowKit

/-- The call gives some valid layout in new memory and writes to the deck alone. -/
def GivesLay (D : Nat) (s : List Nat) (w : World) (e : Ending) (w' : World) : Prop :=
  ∃ (a : Option Addr) (cap : Nat) (bs : List Int) (key : Nat), e = .returned (.agg #[.slice a bs.length cap, .int .u16 (key : Int)]) ∧ LV bs s ∧ key < 65536 ∧ IntsFrom w.heap.size .i64 w' a bs ∧ bs.length ≤ cap ∧ Deck w' D ∧ w.grownBy w' (some D)

theorem deck_Layout (D : Nat) (a : Option Addr) (s : List Nat) (cap : Nat) (w : World) (hd : Deck w D) (hs : Sz s) (ha : NatsFrom (D + 1) .i64 w a s) :
    Calls Try.prog 18 #[.pointer (some ⟨D, 0, none⟩), .slice a s.length cap] w (GivesLay D s w) := by
  have hDl := hd.lt
  have hr0 : ∀ d, some D = some d → d < D + 1 := fun d hd => by cases hd; omega
  have hd0 := hd.kept (World.grownBy_alloc w (.cells #[.slice none 0 0, .int .u16 0] 25) none) (fun k hk => by cases hk)
  have ha0 := ha.kept (World.grownBy_alloc w (.cells #[.slice none 0 0, .int .u16 0] 25) none) (fun k hk => by cases hk)
  have G0 := World.grownBy_alloc w (.cells #[.slice none 0 0, .int .u16 0] 25) (some D)
  have b0 := BoxN.new2 w (.slice none 0 0) (.int .u16 0) 25
  have hN := Lib.hid (deck_Next D 1048576 _ hd0 (by omega) (by omega))
  go_enter Try.func18, Try.ntmps18
  go_wp2_with fail
  refine hN.out.mono ?_
  rintro e w1 ⟨q, hq, rfl, hd1, hg1⟩
  have ha1 := ha0.kept hg1 hr0
  have G1 := grownBy_trans G0 hg1
  have b1 := b0.kept hg1 (by simp; omega)
  have hK := Lib.hid (ref03_Make_valid a s cap q w1 hs (by omega) ha1.at)
  have hw1 : w.heap.size + 1 ≤ w1.heap.size := by have := hg1.size; simpa using this
  clear hd0 ha0 G0 hg1 b0 hd ha hN
  go_wp2_with fail
  refine hK.out.mono ?_
  rintro e w2 ⟨a2, c2, bs, key, rfl, hv, hk, hbs, hc, hb2⟩
  have hg2 : w1.grownBy w2 (some D) := grownBy_below hb2 rfl _
  have hg3 := World.grownBy_alloc w2 (.cells #[.slice a2 bs.length c2, .int .u16 (key : Int)] 25)
  have b3 := (b1.kept (grownBy_below hb2 rfl none) (by simp)).kept (hg3 none) (by simp)
  have d3 := (hd1.kept (grownBy_below hb2 rfl none) (fun k hk => by cases hk)).kept (hg3 none) (fun k hk => by cases hk)
  have n3 := hbs.kept (hg3 none) (fun k hk => by cases hk)
  have G3 := grownBy_trans (grownBy_trans G1 hg2) (hg3 (some D))
  have u0 : (w2.alloc (.cells #[.slice a2 bs.length c2, .int .u16 (key : Int)] 25)).cell? ⟨w2.heap.size, 0, none⟩ = some (.slice a2 bs.length c2) := by rw [World.cell?_alloc_at _ _ _ _ rfl]; rfl
  have u1 : (w2.alloc (.cells #[.slice a2 bs.length c2, .int .u16 (key : Int)] 25)).cell? ⟨w2.heap.size, 1, none⟩ = some (.int .u16 (key : Int)) := by rw [World.cell?_alloc_at _ _ _ _ rfl]; rfl
  clear hg2 hg3 hbs hb2 G1 b1 hd1 hK ha1
  go_upto_region 2 with fail
  generalize w2.alloc (.cells #[.slice a2 bs.length c2, .int .u16 (key : Int)] 25) = W at *
  generalize w2.heap.size = P at *
  have HG := Lib.hid (grownBy_two (B := w.heap.size) G3 (Nat.le_refl _) (.slice a2 bs.length c2) (.int .u16 (key : Int)))
  have HD := Lib.hid (d3.two hDl (.slice a2 bs.length c2) (.int .u16 (key : Int)))
  have HI := Lib.hid (((n3.kept (grownBy_cell W w.heap.size 0 (.slice a2 bs.length c2)) (fun d hd => by cases hd; omega)).kept (grownBy_cell _ w.heap.size 1 (.int .u16 (key : Int))) (fun d hd => by cases hd; omega)).mono (B' := w.heap.size) (by omega))
  obtain ⟨⟨p0, k0⟩, g2⟩ := b3 0 (by omega)
  obtain ⟨⟨p1, k1⟩, g3⟩ := b3 1 (by omega)
  clear G3 d3 n3 b3
  go_wp2
  refine bodyPost_ret (v := .agg #[.slice a2 bs.length c2, .int .u16 (key : Int)]) (by simp [results, Try.results18, go_sem, k0, k1]) rfl ⟨a2, c2, bs, key, rfl, hv, hk, HI.out, hc, HD.out, HG.out⟩

/-- A proper canonical cell. -/
def PropC (s : List Nat) (t v : Nat) (r o : Int) : Prop := v < 65536 ∧ ((t = 0 ∧ r = 0 ∧ o = 0) ∨ (t = 2 ∧ r = 0 ∧ o = 0) ∨ (t = 1 ∧ v = 0 ∧ insB s r o = true))

/-- The call gives some proper canonical cell and writes to the deck alone. -/
def GivesCanon (D : Nat) (s : List Nat) (w : World) (e : Ending) (w' : World) : Prop :=
  ∃ (t v : Nat) (r o : Int), e = .returned (.agg #[.int .u8 (t : Int), .int .u16 (v : Int), .int .i64 r, .int .i64 o]) ∧ PropC s t v r o ∧ Deck w' D ∧ w.grownBy w' (some D)

/-- Four cells of a block of the call's own are written. -/
def put4 (W : World) (B : Nat) (a b c d : Value) : World := (((W.setCell ⟨B, 0, none⟩ a).setCell ⟨B, 1, none⟩ b).setCell ⟨B, 2, none⟩ c).setCell ⟨B, 3, none⟩ d

theorem put4_grown {w W : World} {r : Option Nat} (h : w.grownBy W r) {B : Nat} (hB : w.heap.size ≤ B) (a b c d : Value) : w.grownBy (put4 W B a b c d) r :=
  grownBy_new (grownBy_new (grownBy_new (grownBy_new h hB 0 a) hB 1 b) hB 2 c) hB 3 d

theorem put4_deck {W : World} {D B : Nat} (h : Deck W D) (hB : D < B) (a b c d : Value) : Deck (put4 W B a b c d) D := by
  have hk : ∀ k, some B = some k → D < k := fun k hk => by cases hk; exact hB
  exact (((h.kept (grownBy_cell _ B 0 a) hk).kept (grownBy_cell _ B 1 b) hk).kept (grownBy_cell _ B 2 c) hk).kept (grownBy_cell _ B 3 d) hk

set_option maxHeartbeats 1000000 in
theorem deck_Canon (D : Nat) (a : Option Addr) (s : List Nat) (cap : Nat) (w : World) (hd : Deck w D) (hs : Sz s) (ha : NatsFrom (D + 1) .i64 w a s) :
    Calls Try.prog 19 #[.pointer (some ⟨D, 0, none⟩), .slice a s.length cap] w (GivesCanon D s w) := by
  have hDl := hd.lt
  have hr0 : ∀ d, some D = some d → d < D + 1 := fun d hd => by cases hd; omega
  have hd0 := hd.kept (World.grownBy_alloc w (.cells #[.int .u8 0, .int .u16 0, .int .i64 0, .int .i64 0] 48) none) (fun k hk => by cases hk)
  have ha0 := ha.kept (World.grownBy_alloc w (.cells #[.int .u8 0, .int .u16 0, .int .i64 0, .int .i64 0] 48) none) (fun k hk => by cases hk)
  have G0 := World.grownBy_alloc w (.cells #[.int .u8 0, .int .u16 0, .int .i64 0, .int .i64 0] 48) (some D)
  have b0 := BoxN.new4 w (.int .u8 0) (.int .u16 0) (.int .i64 0) (.int .i64 0) 48
  have hN := Lib.hid (fun m W (h : Deck W D) (h1 : 1 ≤ m) (h2 : m ≤ 4000000000) => deck_Next D m W h h1 h2)
  have hWd := Lib.hid (fun W (h : Deck W D) => deck_Word D W h)
  go_enter Try.func19, Try.ntmps19
  go_wp2_with fail
  refine (hN.out 6 _ hd0 (by omega) (by omega)).mono ?_
  rintro e w1 ⟨q, hq, rfl, hd1, hg1⟩
  have ha1 := ha0.kept hg1 hr0
  have G1 := grownBy_trans G0 hg1
  have b1 := b0.kept hg1 (by simp; omega)
  clear hd0 ha0 G0 hg1 b0 hd ha
  by_cases h4 : q = 4
  · subst h4
    have hT := Lib.hid (ref02_Total a s cap w1 hs.2.1 (fun x hx => (hs.2.2 x hx).2) ha1.at)
    have hs1 := hs.sum_pos
    have hs2 := hs.sum_le
    go_wp2_with fail
    refine hT.out.mono ?_
    rintro e w' ⟨rfl, rfl⟩
    go_wp2_with fail
    refine (hN.out ((s.sum : Nat) : Int) _ hd1 (by omega) (by omega)).mono ?_
    rintro e w2 ⟨x, hx, rfl, hd2, hg2⟩
    have b2 := b1.kept hg2 (by simp; omega)
    have ha2 := ha1.kept hg2 hr0
    have hA := ref02_At a s cap (x : Int) w2 (by omega) (by omega) hs ha2.at
    obtain ⟨r, o, hr, hat, ho, _⟩ := at_there (s := s) (i := x) (by omega)
    obtain ⟨e1, e2, e3⟩ := at_some hat
    rw [e1, e2, e3] at hA
    have HP : Hid (PropC s 1 0 (r : Int) (o : Int)) := Lib.hid ⟨by omega, .inr (.inr ⟨rfl, rfl, ins_in s r o hr ho⟩)⟩
    have HA := Lib.hid hA
    clear hA e1 e2 e3 hat ho hr
    go_wp2_with fail
    refine HA.out.mono ?_
    rintro e w3 ⟨rfl, hb3⟩
    have hg3 : w2.grownBy w3 (some D) := grownBy_below hb3 rfl _
    have hg4 := World.grownBy_alloc w3 (.cells #[.int .i64 (r : Int), .int .i64 (o : Int)] 39)
    have b4 := (b2.kept (grownBy_below hb3 rfl none) (by simp)).kept (hg4 none) (by simp)
    have d4 := (hd2.kept (grownBy_below hb3 rfl none) (fun k hk => by cases hk)).kept (hg4 none) (fun k hk => by cases hk)
    have G4 := grownBy_trans (grownBy_trans (grownBy_trans G1 hg2) hg3) (hg4 (some D))
    have u0 : (w3.alloc (.cells #[.int .i64 (r : Int), .int .i64 (o : Int)] 39)).cell? ⟨w3.heap.size, 0, none⟩ = some (.int .i64 (r : Int)) := by rw [World.cell?_alloc_at _ _ _ _ rfl]; rfl
    have u1 : (w3.alloc (.cells #[.int .i64 (r : Int), .int .i64 (o : Int)] 39)).cell? ⟨w3.heap.size, 1, none⟩ = some (.int .i64 (o : Int)) := by rw [World.cell?_alloc_at _ _ _ _ rfl]; rfl
    clear hg2 hg3 hg4 b2 b1 hd1 hd2 ha1 ha2 hb3 G1 hT
    go_upto_region 4 with fail
    generalize w3.alloc (.cells #[.int .i64 (r : Int), .int .i64 (o : Int)] 39) = W at *
    generalize w3.heap.size = P at *
    have HG := Lib.hid (put4_grown G4 (B := w.heap.size) (Nat.le_refl _) (.int .u8 1) (.int .u16 0) (.int .i64 (r : Int)) (.int .i64 (o : Int)))
    have HD := Lib.hid (put4_deck d4 hDl (.int .u8 1) (.int .u16 0) (.int .i64 (r : Int)) (.int .i64 (o : Int)))
    obtain ⟨⟨p0, k0⟩, g0⟩ := b4 0 (by omega)
    obtain ⟨⟨p1, k1⟩, g1⟩ := b4 1 (by omega)
    obtain ⟨⟨p2, k2⟩, g2⟩ := b4 2 (by omega)
    obtain ⟨⟨p3, k3⟩, g3⟩ := b4 3 (by omega)
    clear b4 d4 G4
    go_wp2
    refine bodyPost_ret (v := .agg #[.int .u8 1, .int .u16 0, .int .i64 (r : Int), .int .i64 (o : Int)]) (by simp [results, Try.results19, go_sem, k0, k1, k2, k3]) rfl ⟨1, 0, _, _, rfl, HP.out, HD.out, HG.out⟩
  · have h4b : ((q : Int) == 4) = false := by rw [beq_eq_false_iff_ne]; omega
    by_cases h5 : q = 5
    · subst h5
      go_wp2_with fail
      refine (hN.out 10 _ hd1 (by omega) (by omega)).mono ?_
      rintro e w2 ⟨x, hx, rfl, hd2, hg2⟩
      have b2 := b1.kept hg2 (by simp; omega)
      have hwx := wrap_word x (by omega)
      have G2 := grownBy_trans G1 hg2
      have HP : Hid (PropC s 2 x 0 0) := Lib.hid ⟨by omega, .inr (.inl ⟨rfl, rfl, rfl⟩)⟩
      have HG := Lib.hid (put4_grown G2 (B := w.heap.size) (Nat.le_refl _) (.int .u8 2) (.int .u16 (x : Int)) (.int .i64 0) (.int .i64 0))
      have HD := Lib.hid (put4_deck hd2 hDl (.int .u8 2) (.int .u16 (x : Int)) (.int .i64 0) (.int .i64 0))
      obtain ⟨⟨p0, k0⟩, g0⟩ := b2 0 (by omega)
      obtain ⟨⟨p1, k1⟩, g1⟩ := b2 1 (by omega)
      obtain ⟨⟨p2, k2⟩, g2⟩ := b2 2 (by omega)
      obtain ⟨⟨p3, k3⟩, g3⟩ := b2 3 (by omega)
      clear b2 G2 hd2 hg2 G1 b1 hd1 ha1 h4 h4b
      go_wp2
      refine bodyPost_ret (v := .agg #[.int .u8 2, .int .u16 (x : Int), .int .i64 0, .int .i64 0]) (by simp [results, Try.results19, go_sem, k0, k1, k2, k3]) rfl ⟨2, x, _, _, rfl, HP.out, HD.out, HG.out⟩
    · have h5b : ((q : Int) == 5) = false := by rw [beq_eq_false_iff_ne]; omega
      go_wp2_with fail
      refine (hWd.out _ hd1).mono ?_
      rintro e w2 ⟨x, hx, rfl, hd2, hg2⟩
      have b2 := b1.kept hg2 (by simp; omega)
      have G2 := grownBy_trans G1 hg2
      have HP : Hid (PropC s 0 x 0 0) := Lib.hid ⟨hx, .inl ⟨rfl, rfl, rfl⟩⟩
      have HG := Lib.hid (put4_grown G2 (B := w.heap.size) (Nat.le_refl _) (.int .u8 0) (.int .u16 (x : Int)) (.int .i64 0) (.int .i64 0))
      have HD := Lib.hid (put4_deck hd2 hDl (.int .u8 0) (.int .u16 (x : Int)) (.int .i64 0) (.int .i64 0))
      obtain ⟨⟨p0, k0⟩, g0⟩ := b2 0 (by omega)
      obtain ⟨⟨p1, k1⟩, g1⟩ := b2 1 (by omega)
      obtain ⟨⟨p2, k2⟩, g2⟩ := b2 2 (by omega)
      obtain ⟨⟨p3, k3⟩, g3⟩ := b2 3 (by omega)
      clear b2 G2 hd2 hg2 G1 b1 hd1 ha1 h4 h5
      go_wp2
      refine bodyPost_ret (v := .agg #[.int .u8 0, .int .u16 (x : Int), .int .i64 0, .int .i64 0]) (by simp [results, Try.results19, go_sem, k0, k1, k2, k3]) rfl ⟨0, x, _, _, rfl, HP.out, HD.out, HG.out⟩
end Go.Proofs.Ytpjaflcljnfjmaa
