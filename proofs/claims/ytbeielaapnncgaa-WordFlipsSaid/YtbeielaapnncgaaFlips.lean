/-
  WordFlips: for every word and all ints i, k the law returns true.
-/
import Derived.Test.YtbeielaapnncgaaCells
import Derived.ProofKit
import Derived.OpenShut
namespace Go.Proofs.Ytbeielaapnncgaa.wordFlipsLaw
open Go.RowKit Go.ChangeShapes Go.WideShapes Go.ChangeAt

theorem dist_one (v u : Nat) (h : ones (v ^^^ u) = 1) : dist [(0, v)] [(0, u)] = 1 := by
  show 0 + cellD (0, v) (0, u) = 1
  simp [cellD, h]

/-- The two lists of one cell each, as the law lays them. -/
theorem two (w : World) (v u : Nat) (T : TypeId) :
    CellsAt ((w.alloc (.cells #[.int .u8 0, .int .u16 (v : Int)] T)).alloc (.cells #[.int .u8 0, .int .u16 (u : Int)] T)) (some ⟨w.heap.size, 0, none⟩) [(0, v)] ∧
    CellsAt ((w.alloc (.cells #[.int .u8 0, .int .u16 (v : Int)] T)).alloc (.cells #[.int .u8 0, .int .u16 (u : Int)] T)) (some ⟨w.heap.size + 1, 0, none⟩) [(0, u)] := by
  have h1 := CellsAt.new1 w 0 v T
  have h2 := CellsAt.new1 (w.alloc (.cells #[.int .u8 0, .int .u16 (v : Int)] T)) 0 u T
  have hs : (w.alloc (.cells #[.int .u8 0, .int .u16 (v : Int)] T)).heap.size = w.heap.size + 1 := by simp
  rw [hs] at h2
  exact ⟨h1.later ((Below.refl _ _).alloc (Nat.le_refl _) _), h2⟩

theorem core (v : Nat) (i k : Int) (w : World) (hv : v < 65536) :
    Calls Try.prog 6 #[.int .u16 (v : Int), .int .i64 i, .int .i64 k] w fun e w' => e = .returned (.bool true) ∧ Below w.heap.size w w' := by
  obtain ⟨m, hm, em⟩ := low_of i
  obtain ⟨n, hn, en⟩ := low_of k
  have p1 := Lib.hid (fun W => flip_any v i W hv)
  have p2 := Lib.hid (fun W => flip_any (v ^^^ 2 ^ m) i W (flip_lt v m hv hm))
  have p3 := Lib.hid (fun W => flip_any (v ^^^ 2 ^ m) k W (flip_lt v m hv hm))
  have p4 := Lib.hid (fun W => flip_any v k W hv)
  have p5 := Lib.hid (fun W => flip_any (v ^^^ 2 ^ n) i W (flip_lt v n hv hn))
  rw [em, Int.toNat_natCast] at p1 p2 p5
  rw [en, Int.toNat_natCast] at p3 p4
  clear em en
  rw [flip_flip] at p2
  rw [flip_comm v n m] at p5
  have ho := ones_flip v m hm
  have hD := dist_one v (v ^^^ 2 ^ m) (by rw [xor_flip]; exact ones_pow m hm)
  have hne : v ^^^ 2 ^ m ≠ v := flip_ne v m hm
  have hlt := flip_lt v m hv hm
  have hlt2 := flip_lt v n hv hn
  have hlt3 := flip_lt _ n hlt hn
  have b1 := ones_le v
  have b2 := ones_le (v ^^^ 2 ^ m)
  have O1 := Lib.hid (fun W => ones_any v W hv)
  have O2 := Lib.hid (fun W => ones_any (v ^^^ 2 ^ m) W hlt)
  generalize (v ^^^ 2 ^ m) ^^^ 2 ^ n = y at *
  generalize v ^^^ 2 ^ m = u at *
  generalize v ^^^ 2 ^ n = z at *
  have hT := two w v u 24
  have hD1 : Hid (Calls Try.prog 20 #[.slice (some ⟨w.heap.size, 0, none⟩) 1 1, .slice (some ⟨w.heap.size + 1, 0, none⟩) 1 1]
      ((w.alloc (.cells #[.int .u8 0, .int .u16 (v : Int)] 24)).alloc (.cells #[.int .u8 0, .int .u16 (u : Int)] 24))
      fun e w' => e = .returned (.int .i64 1) ∧ Below w.heap.size w w') := by
    have h := dist_any _ _ [(0, v)] [(0, u)] 1 1 _ hT.1 hT.2 (by intro x hx; simp at hx; subst hx; exact ⟨by omega, hv⟩) (by intro x hx; simp at hx; subst hx; exact ⟨by omega, hlt⟩) (by simp) (by simp)
    rw [hD] at h
    refine h.mono fun e w' ⟨he, hb⟩ => ⟨he, ?_⟩
    exact (((Below.refl _ _).alloc (Nat.le_refl _) _).alloc (by simp) _).trans (hb.mono (by simp; omega))
  clear hD hT
  have n1 : ((u : Int) != (v : Int)) = true := by rw [bne_iff_ne]; omega
  generalize ones u = s at *
  generalize ones v = t at *
  have hcase : (((s : Int) - (t : Int) == 1) = true) ∨ (((s : Int) - (t : Int) == 1) = false ∧ ((s : Int) - (t : Int) == -1) = true) := by
    rcases ho with ho | ho
    · left; rw [beq_iff_eq]; omega
    · right; rw [beq_eq_false_iff_ne, beq_iff_eq]; omega
  clear ho
  rcases hcase with n2 | ⟨n2, n3⟩
  all_goals
    go_enter Try.func6, Try.ntmps6
    go_wp2_with (first
      | (go_at_call 10; (with_reducible refine (p1.out _).mono ?_); rintro e w' ⟨rfl, rfl⟩)
      | (go_at_call 10; (with_reducible refine (p2.out _).mono ?_); rintro e w' ⟨rfl, rfl⟩)
      | (go_at_call 10; (with_reducible refine (p3.out _).mono ?_); rintro e w' ⟨rfl, rfl⟩)
      | (go_at_call 10; (with_reducible refine (p4.out _).mono ?_); rintro e w' ⟨rfl, rfl⟩)
      | (go_at_call 10; (with_reducible refine (p5.out _).mono ?_); rintro e w' ⟨rfl, rfl⟩)
      | (go_at_call 14; (with_reducible refine (O1.out _).mono ?_); rintro e w' ⟨rfl, rfl⟩)
      | (go_at_call 14; (with_reducible refine (O2.out _).mono ?_); rintro e w' ⟨rfl, rfl⟩)
      | (go_at_call 20; (with_reducible refine hD1.out.mono ?_); rintro e w1 ⟨rfl, hb1⟩)
      | (go_at_call 16; refine (awake_any _).mono ?_; rintro e w2 ⟨rfl, hb2⟩)
      )
    go_ret
    exact ⟨rfl, hb1.trans (hb2.mono hb1.size)⟩

theorem walk {H : Type} (enc : TypeId × Value → H) (W : World) (base : Nat) (v0 : Value) (d0 : DataW H) (p0 : List MemPlace) (o0 : Value.okWide Try.prog W .any base 22 v0) (h0 : DataW.Trod enc Try.prog W 0 (fun _ => true) true 22 v0 d0 p0)
    (v1 : Value) (d1 : DataW H) (p1 : List MemPlace) (o1 : Value.okWide Try.prog W .any base 3 v1) (h1 : DataW.Trod enc Try.prog W 0 (fun _ => true) true 3 v1 d1 p1)
    (v2 : Value) (d2 : DataW H) (p2 : List MemPlace) (o2 : Value.okWide Try.prog W .any base 3 v2) (h2 : DataW.Trod enc Try.prog W 0 (fun _ => true) true 3 v2 d2 p2) :
    Calls Try.prog 6 #[v0, v1, v2] W fun e w' => e = .returned (.bool true) ∧ Below W.heap.size W w' := by
  obtain ⟨a0, rfl, rfl, rfl, w0⟩ := open_int Try.underlying22 o0 h0
  obtain ⟨a1, rfl, rfl, rfl, w1⟩ := open_int Try.underlying3 o1 h1
  obtain ⟨a2, rfl, rfl, rfl, w2⟩ := open_int Try.underlying3 o2 h2
  obtain ⟨v, hv, rfl⟩ := word_of w0
  exact core v a1 a2 W hv
end Go.Proofs.Ytbeielaapnncgaa.wordFlipsLaw
