/-
  The example of the chapter: law07's awake.
-/
import Derived.Test.YthajndgljfbifaaDoorAsmPa
namespace Go.Proofs.YthajndgljfbifaaDoor
open Go.RowKit
set_option maxRecDepth 100000

def exT : ByteArray := ⟨#[114, 101, 103, 105, 111, 110, 32, 50, 32, 55, 10, 108, 105, 32, 114, 48, 32, 49, 10, 108, 49, 58, 10, 106, 109, 112, 32, 108, 49, 10]⟩
def exL : List ByteArray := [⟨#[114, 101, 103, 105, 111, 110, 32, 50, 32, 55]⟩, ⟨#[108, 105, 32, 114, 48, 32, 49]⟩, ⟨#[108, 49, 58]⟩, ⟨#[106, 109, 112, 32, 108, 49]⟩]
def exB : ByteArray := ⟨#[108, 49]⟩
def ex1 : St := { st0 with S := [2], L := [[7]] }
def ex2 : St := { ex1 with C := [⟨1, 0, 0, 0, 1⟩] }
def ex3 : St := { ex2 with nl := 1, f := addL (fun _ => none) exB 1 }
def exE : St := { ex3 with C := [⟨1, 0, 0, 0, 1⟩, ⟨18, 0, 0, 0, 0⟩], J := [(3, 1, exB)] }
def exS : Nat → St
  | 0 => st0
  | 1 => ex1
  | 2 => ex2
  | 3 => ex3
  | _ => exE

theorem ex_split : Lib.splitB ⟨#[10]⟩ 0 (Lib.countB exT ⟨#[10]⟩) exT = lsE exL := by kernel_rfl

theorem ex_0 : Step 0 ⟨#[114, 101, 103, 105, 111, 110, 32, 50, 32, 55]⟩ st0 ex1 :=
  .region st0 [⟨#[50]⟩, ⟨#[55]⟩] 2 [7] (by kernel_rfl) (by kernel_rfl) (by decide) (by kernel_rfl) rfl rfl (by decide) (by decide) (by decide) (by decide) (by decide) (by decide)

theorem ex_1 : Step 1 ⟨#[108, 105, 32, 114, 48, 32, 49]⟩ ex1 ex2 :=
  .instr ex1 1 [⟨#[114, 48]⟩, ⟨#[49]⟩] ⟨1, 0, 0, 0, 1⟩ ⟨#[]⟩ (by kernel_rfl) (by kernel_rfl) (by decide) (by decide) (by decide) (by kernel_rfl) rfl (by decide) (by decide) (by decide) (by decide)

theorem ex_2 : Step 2 ⟨#[108, 49, 58]⟩ ex2 ex3 :=
  .label ex2 exB (by kernel_rfl) (by decide) rfl (by decide) (by decide)

theorem ex_3 : Step 3 ⟨#[106, 109, 112, 32, 108, 49]⟩ ex3 exE :=
  .instr ex3 18 [exB] ⟨18, 0, 0, 0, 0⟩ exB (by kernel_rfl) (by kernel_rfl) (by decide) (by decide) (by decide) (by kernel_rfl) rfl (by decide) (by decide) (by decide) (by decide)

theorem ex_steps : ∀ i (h : i < exL.length), Step i exL[i] (exS i) (exS (i + 1)) := by
  intro i h
  match i, h with
  | 0, _ => exact ex_0
  | 1, _ => exact ex_1
  | 2, _ => exact ex_2
  | 3, _ => exact ex_3

def exC : List Ins := [⟨1, 0, 0, 0, 1⟩, ⟨18, 0, 0, 0, 1⟩]

theorem ex_rsl : rsl exE.f exE.J exE.C exE.J.length = exC := by kernel_rfl

theorem ex_Parse (w : World) (ht : Tabs w) (ho : OpsTab w) : Calls Tryd.prog 11 #[.string exT] w (GivesPg exC [2] [[7]] 4 w) := by
  have h := asm_Parse exT exL exS exE w ht ho (by decide) ex_split rfl ex_steps rfl (by decide) (fun k hk => by
    have : k = 0 := by have : k < 1 := hk; omega
    subst this
    exact ⟨(by decide : (1 : Nat) < 2), (by decide : (exE.f exB).isSome = true), (by decide : exB.size ≤ 1000000)⟩) (by decide) (by decide) (fun q k hq => by
    have h1 : addL (fun _ => none) exB 1 q = some k := hq
    unfold addL at h1
    split at h1
    · cases h1
      decide
    · cases h1) (by decide) (by decide)
  rw [ex_rsl] at h
  exact h

theorem ex_good : GoodPg exC [2] [[7]] := by
  refine ⟨by decide, by decide, by decide, by decide, ?_, ?_⟩
  · intro i h h2
    have : i = 0 := by have : i < 1 := h; omega
    subst this
    exact (by decide : ((1 : Nat) : Int) ≤ 2)
  · intro i h
    have : i < 2 := h
    match i, h with
    | 0, _ => exact ⟨(by decide : vinB ⟨1, 0, 0, 0, 1⟩ = true), (by decide : jumpB 1 = true → (1 : Int) < 2), (by decide : (1 : Int) = 15 → (1 : Int) < 1)⟩
    | 1, _ => exact ⟨(by decide : vinB ⟨18, 0, 0, 0, 1⟩ = true), (by decide : jumpB 18 = true → (1 : Int) < 2), (by decide : (18 : Int) = 15 → (1 : Int) < 1)⟩

theorem ex_print : printB exC [2] [[7]] = exT := by kernel_rfl

theorem law07_awake (w : World) (ht : Tabs w) (ho : OpsTab w) :
    Calls Tryd.prog 13 #[] w fun e w' => e = .returned (.bool true) ∧ Below w.heap.size w w' := by
  have HP := Lib.hid (ex_Parse w ht ho)
  unfold exT at HP
  go_enter Tryd.func13, Tryd.ntmps13
  go_upto_region 2 with (go_at_call 11; (with_reducible refine HP.out.mono ?_); rintro e W1 ⟨ac, a2, ad, cc, c2, cd, rfl, hc, hs, hd, hb1⟩)
  have hA := Below.alloc (Below.refl W1.heap.size W1) (Nat.le_refl _) (.cells #[.slice ac 2 cc, .slice a2 1 c2, .slice ad 1 cd] 26)
  have X0 := Blk.new (W := W1) #[.slice ac 2 cc, .slice a2 1 c2, .slice ad 1 cd] 26
  have p0 := (X0 0 (by simp)).1
  have p1 := (X0 1 (by simp)).1
  have p2 := (X0 2 (by simp)).1
  have hb2 := hb1.trans (hA.mono hb1.size)
  have HPr : Hid (∀ W, Below w.heap.size w W → CodeAt W ac exC → IntsAt .i64 W a2 (intsS [2]) → DatAt W ad [[7]] → Calls Tryd.prog 6 #[.agg #[.slice ac 2 cc, .slice a2 1 c2, .slice ad 1 cd]] W fun e w' => e = .returned (.tuple #[.string exT, .int .i64 0]) ∧ Below W.heap.size W w') := Lib.hid (fun W h1 h2 h3 h4 => by
    have h := asm_Print ac a2 ad exC [2] [[7]] cc c2 cd W (ht.later h1) (ho.later h1) h2 h3 h4 ex_good (by decide)
    rw [ex_print] at h
    exact h)
  have HPr := Lib.hid (HPr.out _ hb2 (hc.later hA) (ints_later7 hs hA) (hd.later hA))
  have HNm := Lib.hid (fun W (h : OpsTab W) => asm_Name 23 W h)
  have hnm : Hid (nameB 23 = ⟨#[115, 121, 115]⟩) := Lib.hid (by decide)
  rw [hnm.out] at HNm
  have HB2 := Lib.hid hb2
  have HO := Lib.hid ho
  unfold exT at HPr
  have l1 : exC.length = 2 := rfl
  clear hc hs hd hb1 hA hb2 X0 HP hnm ht ho
  go_upto_region 4 with fail
  generalize W1.alloc (.cells #[.slice ac 2 cc, .slice a2 1 c2, .slice ad 1 cd] 26) = W2 at *
  go_wp2_with (first
    | (go_at_call 6; (with_reducible refine HPr.out.mono ?_); rintro e W3 ⟨rfl, hb3⟩)
    | (go_at_call 37; (with_reducible refine (HNm.out _ (HO.out.later (HB2.out.trans (hb3.mono HB2.out.size)))).mono ?_); rintro e W4 ⟨rfl, rfl⟩))
  go_ret
  exact ⟨rfl, HB2.out.trans (hb3.mono HB2.out.size)⟩
end Go.Proofs.YthajndgljfbifaaDoor
