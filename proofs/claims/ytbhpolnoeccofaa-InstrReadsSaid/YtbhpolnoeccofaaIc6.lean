/-
  Branch of the program; the law's example; bytes as strings.
-/
import Derived.Test.YtbhpolnoeccofaaIc5
import Derived.Test.YtbhpolnoeccofaaPairs
namespace Go.Proofs.Ytbhpolnoeccofaa
open Go.RowKit
set_option maxRecDepth 100000

theorem instr_Branch (op : Int) (w : World) :
    Calls Try.prog 15 #[.int .i64 op] w fun e w' => e = .returned (.bool (jumpB op || decide (op = 22 ∨ op = 24))) ∧ w = w' := by
  by_cases h : op = 18 ∨ op = 19 ∨ op = 20 ∨ op = 21 ∨ op = 22 ∨ op = 24
  · rcases h with rfl | rfl | rfl | rfl | rfl | rfl
    all_goals
      go_enter Try.func15, Try.ntmps15
      go_wp2
      go_ret
      exact ⟨rfl, rfl⟩
  · have hv : Hid ((jumpB op || decide (op = 22 ∨ op = 24)) = false) := Lib.hid (by unfold jumpB; rw [decide_eq_false (by omega), decide_eq_false (by omega)]; rfl)
    have g1 : (op == 18) = false := by rw [beq_eq_false_iff_ne]; omega
    have g2 : (op == 19) = false := by rw [beq_eq_false_iff_ne]; omega
    have g3 : (op == 20) = false := by rw [beq_eq_false_iff_ne]; omega
    have g4 : (op == 21) = false := by rw [beq_eq_false_iff_ne]; omega
    have g5 : (op == 22) = false := by rw [beq_eq_false_iff_ne]; omega
    have g6 : (op == 24) = false := by rw [beq_eq_false_iff_ne]; omega
    clear h
    go_enter Try.func15, Try.ntmps15
    go_wp2
    go_ret
    exact ⟨ret_bool hv.out.symm, rfl⟩

/-- A block of bytes as a list of numbers. -/
theorem nats_blk {w : World} {B : Nat} {l : List Nat} (h : Blk w B (u8s l)) : NatsAt .u8 w (some ⟨B, 0, none⟩) l :=
  .inr ⟨B, 0, rfl, fun i hi => by
    have := (h i (by rw [length_u8s]; exact hi)).1
    simpa [u8s] using this⟩

theorem encB_lt (x : Ins) (hv : vinB x = true) : ∀ n ∈ encB x, n < 256 := by
  obtain ⟨h1, h2, h3, h4, h5, h6, h7, h8, h9, h10, _⟩ := (vinB_iff x).1 hv
  intro n hn
  simp [encB] at hn
  omega

/-- What is encoded is decoded. -/
theorem dec_enc (x : Ins) (hv : vinB x = true) : decX (encB x) = x ∧ decE (encB x) = 0 := by
  have hd : decI (encB x) = x := by
    obtain ⟨h1, h2, h3, h4, h5, h6, h7, h8, h9, h10, _⟩ := (vinB_iff x).1 hv
    obtain ⟨op, a, b, c, imm⟩ := x
    simp [decI, encB] at *
    omega
  have := dec_good (xs := encB x) rfl (by rw [hd]; exact hv)
  rw [hd] at this
  exact this

theorem enc_inj (x y : Ins) (hx : vinB x = true) (hy : vinB y = true) (h : encB x = encB y) : x = y := by
  rw [← (dec_enc x hx).1, h, (dec_enc y hy).1]

theorem strOf_inj {l m : List Nat} (hl : ∀ n ∈ l, n < 256) (hm : ∀ n ∈ m, n < 256) (h : strOf l = strOf m) : l = m := by
  have h2 : (strOf l).data.toList = (strOf m).data.toList := by rw [h]
  simp [strOf] at h2
  have h3 : (l.map UInt8.ofNat).map UInt8.toNat = (m.map UInt8.ofNat).map UInt8.toNat := by rw [h2]
  rw [List.map_map, List.map_map] at h3
  have e : ∀ k : List Nat, (∀ n ∈ k, n < 256) → k.map (UInt8.toNat ∘ UInt8.ofNat) = k := fun k hk => by
    conv => rhs; rw [← List.map_id k]
    apply List.map_congr_left
    intro n hn
    have := hk n hn
    simp
    omega
  rw [e l hl, e m hm] at h3
  exact h3

theorem vin_li : vinB ⟨1, 1, 0, 0, 258⟩ = true := by
  rw [vinB_iff]
  simp [InsIn, usA, usB, usC, usI, jumpB]

set_option maxHeartbeats 1000000 in
theorem law06_awake (w : World) :
    Calls Try.prog 21 #[] w fun e w' => e = .returned (.bool true) ∧ Below w.heap.size w w' := by
  have HE := Lib.hid (instr_Encode ⟨1, 1, 0, 0, 258⟩ w vin_li)
  have HB := Lib.hid (fun op W => instr_Branch op W)
  unfold insV at HE
  simp only at HE
  go_enter Try.func21, Try.ntmps21
  go_wp2_with fail
  refine HE.out.mono ?_
  rintro e w1 ⟨B, hBs, rfl, hb, hw⟩
  have hc := conv_of (nats_blk hb) (encB_lt _ vin_li) 6 6 rfl
  rw [show strOf (encB ⟨1, 1, 0, 0, 258⟩) = ⟨#[1, 1, 0, 0, 1, 2]⟩ from rfl] at hc
  have HB1 := Lib.hid (HB.out 22 w1)
  have HB2 := Lib.hid (HB.out 23 w1)
  rw [show (jumpB 22 || decide ((22 : Int) = 22 ∨ (22 : Int) = 24)) = true from rfl] at HB1
  rw [show (jumpB 23 || decide ((23 : Int) = 22 ∨ (23 : Int) = 24)) = false from rfl] at HB2
  clear HE HB hb hBs
  go_wp2_with (first
    | (go_at_call 15; (with_reducible refine HB1.out.mono ?_); rintro e w' ⟨rfl, rfl⟩)
    | (go_at_call 15; (with_reducible refine HB2.out.mono ?_); rintro e w' ⟨rfl, rfl⟩))
  go_ret
  exact ⟨rfl, hw⟩
end Go.Proofs.Ytbhpolnoeccofaa
