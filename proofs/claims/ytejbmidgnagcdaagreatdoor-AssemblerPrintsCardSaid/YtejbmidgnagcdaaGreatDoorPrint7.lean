/-
  The text of a program: the document's Print.
-/
import Derived.Test.YtejbmidgnagcdaaGreatDoorName7
import Derived.Test.YtejbmidgnagcdaaGreatDoorPgm
import Derived.Lib.ItoaLen
namespace Go.Proofs.YtejbmidgnagcdaaGreatDoor
open Go.RowKit
set_option maxRecDepth 100000

theorem itoaB_size {n : Nat} (h : n ≤ 1000000) : (itoaB n).size ≤ 21 := by
  have := Lib.itoa_length_le (n : Int) (by omega) (by omega)
  unfold itoaB ByteArray.size
  simpa using this

theorem add_size (a b : ByteArray) : (a ++ b).size = a.size + b.size := ByteArray.size_append

/-- A line of words. -/
def rowT (t : ByteArray) (l : List Nat) : ByteArray := l.foldl (fun t v => t ++ (⟨#[32]⟩ ++ itoaB v)) t
/-- A region's line. -/
def regT (t : ByteArray) (n : Nat) (l : List Nat) : ByteArray := rowT (t ++ (⟨#[114, 101, 103, 105, 111, 110, 32]⟩ ++ itoaB n)) l ++ ⟨#[10]⟩
/-- The first k regions' lines. -/
def regsT (s : List Int) (L : List (List Nat)) : Nat → ByteArray
  | 0 => ⟨#[]⟩
  | k + 1 => regT (regsT s L k) (s.getD k 0).toNat (L.getD k [])

theorem rowT_next (t : ByteArray) (l : List Nat) {j : Nat} (h : j < l.length) : rowT t (l.take (j + 1)) = rowT t (l.take j) ++ (⟨#[32]⟩ ++ itoaB l[j]) := by
  unfold rowT
  rw [List.take_succ_eq_append_getElem h, List.foldl_append]
  rfl

theorem info_bool : (Tryz.prog.info? 4).map (fun i => (i.zero, i.size, i.bytes)) = some (some (.bool false), 1, 1) := by kernel_rfl

/-- Whether one of the first j instructions jumps to i. -/
def tgtB (C : List Ins) (j i : Nat) : Bool := (C.take j).any fun x => jumpB x.op && x.imm == (i : Int)
def tgts (C : List Ins) (j : Nat) : List Value := (List.range C.length).map fun i => .bool (tgtB C j i)

theorem tgtB_next (C : List Ins) {j : Nat} (h : j < C.length) (i : Nat) : tgtB C (j + 1) i = (tgtB C j i || (jumpB C[j].op && C[j].imm == (i : Int))) := by
  unfold tgtB
  rw [List.take_succ_eq_append_getElem h, List.any_append]
  simp

theorem tgts_zero (C : List Ins) : (madeCells #[Value.bool false] (C.length * 1)).toList = tgts C 0 := by
  rw [show (madeCells #[Value.bool false] (C.length * 1)).toList = _ from made_rows [.bool false] C.length]
  unfold tgts tgtB
  apply List.ext_getElem?
  intro i
  simp [List.flatten_replicate_singleton, List.getElem?_replicate]
  split <;> simp_all

theorem tgts_skip (C : List Ins) {j : Nat} (h : j < C.length) (hj : jumpB C[j].op = false) : tgts C (j + 1) = tgts C j := by
  unfold tgts
  simp only [tgtB_next C h, hj, Bool.false_and, Bool.or_false]

theorem tgts_set (C : List Ins) {j m : Nat} (h : j < C.length) (hj : jumpB C[j].op = true) (hm : C[j].imm = (m : Int)) : (tgts C j).set m (.bool true) = tgts C (j + 1) := by
  apply List.ext_getElem
  · simp [tgts]
  · intro i h1 h2
    simp only [tgts, List.length_set, List.length_map, List.length_range] at h1 h2
    rw [List.getElem_set]
    by_cases e : m = i
    · subst e
      simp [tgts, tgtB_next C h, hj, hm]
    · rw [if_neg e]
      have : ((m : Int) == (i : Int)) = false := by rw [beq_eq_false_iff_ne]; omega
      simp [tgts, tgtB_next C h, hj, hm, this]

/-- A register behind an operation. -/
def argT (t : ByteArray) (u : Bool) (v : Nat) : ByteArray := if u then t ++ (⟨#[32, 114]⟩ ++ itoaB v) else t
def us3 (x : Ins) (f : Nat) : Bool := [usA x.op, usB x.op, usC x.op].getD f false
def va3 (x : Ins) (f : Nat) : Nat := [x.a.toNat, x.b.toNat, x.c.toNat].getD f 0
def argsT (t : ByteArray) (x : Ins) : Nat → ByteArray
  | 0 => t
  | f + 1 => argT (argsT t x f) (us3 x f) (va3 x f)
def headT (C : List Ins) (t : ByteArray) (k : Nat) : ByteArray := if tgtB C C.length k then t ++ ((⟨#[108]⟩ ++ itoaB k) ++ ⟨#[58, 10]⟩) else t
def immT (t : ByteArray) (x : Ins) : ByteArray := if jumpB x.op then t ++ (⟨#[32, 108]⟩ ++ itoaB x.imm.toNat) else if usI x.op then t ++ (⟨#[32]⟩ ++ itoaB x.imm.toNat) else t
/-- An instruction's lines. -/
def insT (C : List Ins) (t : ByteArray) (k : Nat) (x : Ins) : ByteArray := immT (argsT (headT C t k ++ nameB x.op) x 3) x ++ ⟨#[10]⟩
def codeT (C : List Ins) (t : ByteArray) : Nat → ByteArray
  | 0 => t
  | k + 1 => insT C (codeT C t k) k (C.getD k ⟨0, 0, 0, 0, 0⟩)
/-- A program's text. -/
def printB (C : List Ins) (s : List Int) (L : List (List Nat)) : ByteArray := codeT C (regsT s L s.length) C.length

theorem nameL_size : ∀ k < 25, (nameL.getD k ⟨#[]⟩).size ≤ 3 := by decide
theorem nameB_size (op : Int) : (nameB op).size ≤ 3 := by
  unfold nameB
  split
  · exact nameL_size _ (by omega)
  · decide

set_option maxHeartbeats 4000000 in
theorem ref07_Print (ac a2 ad : Option Addr) (C : List Ins) (s : List Int) (L : List (List Nat)) (cc c2 cd : Nat) (w : World) (ht : Tabs w) (hc : CodeAt w ac C) (hs : IntsAt .i64 w a2 s) (hd : DatAt w ad L) (hg : GoodPg C s L) (hu : ∀ l ∈ L, ∀ v ∈ l, v < 65536) :
    Calls Tryz.prog 11 #[.agg #[.slice ac C.length cc, .slice a2 s.length c2, .slice ad L.length cd]] w fun e w' => e = .returned (.tuple #[.string (printB C s L), .int .i64 0]) ∧ Below w.heap.size w w' := by
  have hv : 1 ≤ s.length ∧ s.length ≤ 4 ∧ ∀ x ∈ s, 1 ≤ x ∧ x ≤ 32 := of_decide_eq_true hg.1
  have lc : C.length ≤ 64 := hg.2.2.2.1
  have ld : L.length = s.length := hg.2.1
  have lr : ∀ i (h : i < L.length) (h2 : i < s.length), L[i].length ≤ 32 := fun i h h2 => by
    have h3 := hg.2.2.2.2.1 i h h2
    have h4 := hv.2.2 _ (List.getElem_mem h2)
    omega
  have lr2 : ∀ l ∈ L, l.length ≤ 1000000 := fun l hl => by
    obtain ⟨i, hi, rfl⟩ := List.mem_iff_getElem.1 hl
    have := lr i hi (by omega)
    omega
  have hB0 := Below.alloc (Below.refl w.heap.size w) (Nat.le_refl _) (.cells #[.slice ac C.length cc, .slice a2 s.length c2, .slice ad L.length cd] 26)
  have X0 := Blk.new (W := w) #[.slice ac C.length cc, .slice a2 s.length c2, .slice ad L.length cd] 26
  have hc := hc.later hB0
  have hs := ints_later7 hs hB0
  have hd := hd.later hB0
  have ht := ht.later hB0
  have HG : Hid (∀ W, _ → _) := Lib.hid (fun W (h : W = w.alloc (.cells #[.slice ac C.length cc, .slice a2 s.length c2, .slice ad L.length cd] 26)) => ((ref07_Good ac a2 ad C s L cc c2 cd W (h ▸ hc) (h ▸ hs) (h ▸ hd) (by omega) (by omega) (by omega) lr2).mono fun e w' hh => by
    obtain ⟨g, he, hi, hb⟩ := hh
    rw [hi.2 hg] at he
    exact (⟨he, hb⟩ : e = .returned (.bool true) ∧ Below W.heap.size W w')))
  have HG := Lib.hid (HG.out _ rfl)
  have LD := Lib.hid ld
  have LR := Lib.hid lr
  have HV := Lib.hid hv
  clear ld lr lr2 hv
  go_enter Tryz.func11, Tryz.ntmps11
  go_upto_region 1 with fail
  generalize w.alloc (.cells #[.slice ac C.length cc, .slice a2 s.length c2, .slice ad L.length cd] 26) = W0 at *
  have p0 := (X0 0 (by simp)).1
  have p1 := (X0 1 (by simp)).1
  have p2 := (X0 2 (by simp)).1
  go_wp2_with (go_at_call 35; (with_reducible refine HG.out.mono ?_); rintro e W1 ⟨rfl, hb1⟩; have p0 := cell_later hb1 p0; have p1 := cell_later hb1 p1; have p2 := cell_later hb1 p2)
  have hc := hc.later hb1
  have hs := ints_later7 hs hb1
  have hd := hd.later hb1
  have ht := ht.later hb1
  have HB1 : Hid (Below w.heap.size w W1) := Lib.hid (hB0.trans (hb1.mono hB0.size))
  clear HG hb1 hB0 X0
  go_loopw [4, 23] (fun t c wr => ∃ k : Nat, k ≤ s.length ∧ c = .int .i64 k ∧ t = .string (regsT s L k) ∧ (regsT s L k).size ≤ k * 800 ∧ Below W1.heap.size W1 wr) (fun _ c _ => s.length - (intOf c).toNat)
  case atStart => exact ⟨0, by omega, rfl, rfl, by simp [regsT, ByteArray.size], Below.refl _ _⟩
  obtain ⟨k, hk, rfl, rfl, hts, hw⟩ := hrel
  have HW := Lib.hid hw
  have p0 := cell_later hw p0
  have p1 := cell_later hw p1
  have p2 := cell_later hw p2
  by_cases hlt : k < s.length
  · have hlt' : k < L.length := by have := LD.out; omega
    have l32 := LR.out k hlt' hlt
    obtain ⟨n, hn, n32⟩ : ∃ n : Nat, s[k] = (n : Int) ∧ n ≤ 32 := ⟨s[k].toNat, by have := HV.out.2.2 _ (List.getElem_mem hlt); omega, by have := HV.out.2.2 _ (List.getElem_mem hlt); omega⟩
    have HZ : Hid (regsT s L (k + 1) = rowT (regsT s L k ++ (⟨#[114, 101, 103, 105, 111, 110, 32]⟩ ++ itoaB n)) L[k] ++ ⟨#[10]⟩) := Lib.hid (by
      show regT (regsT s L k) (s.getD k 0).toNat (L.getD k []) = _
      rw [List.getD_eq_getElem?_getD, List.getElem?_eq_getElem hlt, List.getD_eq_getElem?_getD, List.getElem?_eq_getElem hlt']
      simp [hn, regT])
    have HU := Lib.hid (hu _ (List.getElem_mem hlt'))
    obtain ⟨b, o, rfl, hh⟩ := (ints_later7 hs hw).some hlt
    obtain ⟨b', o', rfl, hh'⟩ := (hd.later hw).some hlt'
    have q0 := hh k hlt
    rw [hn] at q0
    obtain ⟨a5, c5, q1, m0⟩ := hh' k hlt'
    have htw := ht.later hw
    have HI := Lib.hid (lib_Itoa n wr htw (by omega))
    have i1 : (k : Int) < (s.length : Int) := by omega
    have i2 : (k : Int) < (L.length : Int) := by omega
    have i3 : 0 ≤ (k : Int) := by omega
    generalize L[k] = x at *
    generalize regsT s L k = t0 at *
    have hni := itoaB_size (n := n) (by omega)
    have hk4 : k < 4 := by have := HV.out.2.1; omega
    have z1 : ¬ 9223372036854775807 < 7 + (itoaB n).size := by omega
    have z2 : ¬ 9223372036854775807 < t0.size + (7 + (itoaB n).size) := by omega
    have HT1 : Hid ((t0 ++ (⟨#[114, 101, 103, 105, 111, 110, 32]⟩ ++ itoaB n)).size ≤ k * 800 + 28) := Lib.hid (by
      rw [add_size, add_size]
      have : ByteArray.size ⟨#[114, 101, 103, 105, 111, 110, 32]⟩ = 7 := rfl
      omega)
    have HTS := Lib.hid hts
    clear hts hni
    clear hh hh' hn hlt hlt' hw hs hd ht
    go_wp2_with (go_at_call 32; (with_reducible refine HI.out.mono ?_); rintro e W2 ⟨rfl, hb2⟩; have p0 := cell_later hb2 p0; have p1 := cell_later hb2 p1; have p2 := cell_later hb2 p2; have q1 := cell_later hb2 q1)
    clear z1 z2
    have htw := htw.later hb2
    have m0 := m0.later hb2
    have HB2 : Hid (Below W1.heap.size W1 W2) := Lib.hid (HW.out.trans (hb2.mono HW.out.size))
    clear hb2 HI HW
    generalize (t0 ++ (⟨#[114, 101, 103, 105, 111, 110, 32]⟩ ++ itoaB n)) = t1 at *
    go_loopw [4, 39] (fun t c wr => ∃ j : Nat, j ≤ x.length ∧ c = .int .i64 j ∧ t = .string (rowT t1 (x.take j)) ∧ (rowT t1 (x.take j)).size ≤ k * 800 + 28 + j * 22 ∧ Below W2.heap.size W2 wr) (fun _ c _ => x.length - (intOf c).toNat)
    case atStart => exact ⟨0, by omega, rfl, rfl, by have := HT1.out; simpa [rowT] using this, Below.refl _ _⟩
    obtain ⟨j, hj, rfl, rfl, hts, hw⟩ := hrel
    have HW := Lib.hid hw
    have p0 := cell_later hw p0
    have p1 := cell_later hw p1
    have p2 := cell_later hw p2
    by_cases hlt : j < x.length
    · obtain ⟨b5, o5, rfl, hh⟩ := (m0.later hw).some hlt
      have q5 := hh j hlt
      have hv6 := HU.out _ (List.getElem_mem hlt)
      have HN : Hid (rowT t1 (x.take (j + 1)) = rowT t1 (x.take j) ++ (⟨#[32]⟩ ++ itoaB x[j])) := Lib.hid (rowT_next t1 x hlt)
      have HI := Lib.hid (lib_Itoa x[j] wr (htw.later hw) (by omega))
      have hni := itoaB_size (n := x[j]) (by omega)
      have j1 : (j : Int) < (x.length : Int) := by omega
      have j3 : 0 ≤ (j : Int) := by omega
      generalize x[j] = v at *
      generalize rowT t1 (x.take j) = t2 at *
      have z1 : ¬ 9223372036854775807 < 1 + (itoaB v).size := by omega
      have z2 : ¬ 9223372036854775807 < t2.size + (1 + (itoaB v).size) := by omega
      have HT2 : Hid ((t2 ++ (⟨#[32]⟩ ++ itoaB v)).size ≤ k * 800 + 28 + (j + 1) * 22) := Lib.hid (by
        rw [add_size, add_size]
        have : ByteArray.size ⟨#[32]⟩ = 1 := rfl
        omega)
      clear hh m0 htw hts hni hw
      go_wp2_with (go_at_call 32; (with_reducible refine HI.out.mono ?_); rintro e W3 ⟨rfl, hb3⟩)
      refine ⟨⟨j + 1, by omega, by go_num, by rw [HN.out], by rw [HN.out]; exact HT2.out, HW.out.trans (hb3.mono HW.out.size)⟩, ?_⟩
      simp [intOf]
      omega
    · obtain rfl : j = x.length := by omega
      rw [List.take_length] at hts ⊢
      have z1 : ¬ 9223372036854775807 < (rowT t1 x).size + 1 := by omega
      have HT2 : Hid ((rowT t1 x ++ ⟨#[10]⟩).size ≤ (k + 1) * 800) := Lib.hid (by
        rw [add_size]
        have : ByteArray.size ⟨#[10]⟩ = 1 := rfl
        omega)
      have HW5 : Hid (Below W1.heap.size W1 wr) := Lib.hid (HB2.out.trans (hw.mono HB2.out.size))
      clear hts hw m0 htw
      go_wp2_with fail
      refine ⟨⟨k + 1, by omega, by go_num, by rw [HZ.out], by rw [HZ.out]; exact HT2.out, HW5.out⟩, ?_⟩
      simp [intOf]
      omega
  · obtain rfl : k = s.length := by omega
    have htw := ht.later hw
    have hcw := hc.later hw
    have HB2 : Hid (Below w.heap.size w wr) := Lib.hid (HB1.out.trans (hw.mono HB1.out.size))
    have HTS := Lib.hid hts
    have l1 : 1 ≤ C.length := hg.2.2.1
    clear hw hts hlt HW hs hd ht hc HB1 LR
    have hpr : Hid (printB C s L = codeT C (regsT s L s.length) C.length) := Lib.hid rfl
    generalize regsT s L s.length = t0 at *
    obtain ⟨i0, hi, hz0, hz1, hz2⟩ := info_parts info_bool
    generalize wr = W2 at *
    go_wp2_with (first
      | (at_make; refine wpList_make_full _ rfl _ _ 67 rfl W2.heap.size 4 i0 (.bool false) 1 Tryz.underlying67 hi hz0 hz1 .i64 .i64 _ _ C.length rfl rfl rfl rfl ?c1 ?c2 ?c3 ?_))
    case c1 => rw [hz2]; omega
    case c2 => unfold maxLen; omega
    case c3 => exact Nat.le_refl _
    intro W3 hown hg3
    rw [show (madeCells #[Value.bool false] C.length).toList = tgts C 0 by have := tgts_zero C; rwa [Nat.mul_one] at this] at hown
    have hb3 : Below W2.heap.size W2 W3 := (Below.refl _ _).grown hg3 (Nat.le_refl _) (fun k hk => by cases hk)
    have P0 := Lib.hid p0
    have P1 := Lib.hid p1
    have P2 := Lib.hid p2
    have p0 := cell_later hb3 p0
    clear hg3
    go_wp2_with fail
    go_loopw [60] (fun c wr => ∃ j : Nat, j ≤ C.length ∧ c = .int .i64 j ∧ wr.ownsRow W2.heap.size 4 1 (.slice (some ⟨W2.heap.size, 0, none⟩) C.length C.length) C.length (tgts C j) ∧ Below W2.heap.size W2 wr) (fun c _ => C.length - (intOf c).toNat)
    case atStart => exact ⟨0, by omega, rfl, hown, hb3⟩
    clear hown p0 hb3
    obtain ⟨j, hj, rfl, hown, hw⟩ := hrel
    have HW := Lib.hid hw
    have p0 := cell_later hw P0.out
    have p1 := cell_later hw P1.out
    have p2 := cell_later hw P2.out
    by_cases hlt : j < C.length
    · obtain ⟨bc, oc, rfl, hcc⟩ := (hcw.later hw).some hlt
      obtain ⟨q0, q1, q2, q3, q4⟩ := hcc j hlt
      obtain ⟨gv, gj, _⟩ := hg.2.2.2.2.2 j hlt
      have i1 : (j : Int) < (C.length : Int) := by omega
      have i2 : 0 ≤ (j : Int) := by omega
      have HSK : Hid (jumpB C[j].op = false → tgts C (j + 1) = tgts C j) := Lib.hid (fun h => tgts_skip C hlt h)
      have HST : Hid (∀ m : Nat, jumpB C[j].op = true → C[j].imm = (m : Int) → (tgts C j).set m (.bool true) = tgts C (j + 1)) := Lib.hid (fun m h1 h2 => tgts_set C hlt h1 h2)
      have hin := (vinB_iff _).1 gv
      have him : 0 ≤ C[j].imm := hin.2.2.2.2.2.2.2.2.1
      clear hin gv hcc hcw htw
      generalize C[j] = x at *
      have HJ := Lib.hid (fun W => ref06_Jump x.op W)
      obtain ⟨op, a, b, c, imm⟩ := x
      simp only at HJ q0 q1 q2 q3 q4 gj HSK HST him
      have HGJ := Lib.hid gj
      clear gj
      go_upto_region 19 with fail
      have e0 := (Blk.new (W := wr) #[.int .i64 op, .int .i64 a, .int .i64 b, .int .i64 c, .int .i64 imm] 56 0 (by simp)).1
      have e4 := (Blk.new (W := wr) #[.int .i64 op, .int .i64 a, .int .i64 b, .int .i64 c, .int .i64 imm] 56 4 (by simp)).1
      have hA5 := Below.alloc (Below.refl wr.heap.size wr) (Nat.le_refl _) (.cells #[.int .i64 op, .int .i64 a, .int .i64 b, .int .i64 c, .int .i64 imm] 56)
      have H6 := Lib.hid (hw.trans (hA5.mono hw.size))
      have hown := hown.alloc (.cells #[.int .i64 op, .int .i64 a, .int .i64 b, .int .i64 c, .int .i64 imm] 56)
      clear hA5 q0 q1 q2 q3 q4 hw p0 p1 p2
      generalize wr.alloc (.cells #[.int .i64 op, .int .i64 a, .int .i64 b, .int .i64 c, .int .i64 imm] 56) = W5 at *
      generalize wr.heap.size = Z at *
      cases hjj : jumpB op with
      | false =>
        rw [hjj] at HJ
        have HS := Lib.hid (HSK.out hjj)
        clear hjj HSK HST HGJ
        go_wp2_with (go_at_call 26; (with_reducible refine (HJ.out _).mono ?_); rintro e w' ⟨rfl, rfl⟩)
        refine ⟨⟨j + 1, by omega, by go_num, by rw [HS.out]; exact hown, H6.out⟩, ?_⟩
        simp [intOf]
        omega
      | true =>
        rw [hjj] at HJ
        obtain ⟨m, rfl⟩ := Int.eq_ofNat_of_zero_le him
        have hm : (m : Int) < (C.length : Int) := HGJ.out hjj
        have hml : m < C.length := by omega
        have hm0 : 0 ≤ (m : Int) := by omega
        have HS := Lib.hid (HST.out m hjj rfl)
        have c0 := hown.cellAt m (by omega)
        rw [show (tgts C j)[m]? = some (.bool (tgtB C j m)) by simp [tgts, hml]] at c0
        have fr := hown.frozenAt m
        have hst := hown.stored m (.bool true)
        rw [HS.out] at hst
        have HO := Lib.hid hst.1
        have HB6 : Hid (Below W2.heap.size W2 (W5.setCell ⟨W2.heap.size, m, none⟩ (.bool true))) := Lib.hid (H6.out.grown hst.2 H6.out.size (fun k hk => by cases hk; exact Nat.le_refl _))
        clear hjj HSK HST HGJ hst hown
        go_wp2_with (go_at_call 26; (with_reducible refine (HJ.out _).mono ?_); rintro e w' ⟨rfl, rfl⟩)
        refine ⟨⟨j + 1, by omega, by go_num, HO.out, HB6.out⟩, ?_⟩
        simp [intOf]
        omega
    · obtain rfl : j = C.length := by omega
      have tg : ∀ i (h : i < C.length), wr.cell? ⟨W2.heap.size, i, none⟩ = some (.bool (tgtB C C.length i)) := fun i h => by
        rw [hown.cellAt i (by omega)]
        simp [tgts, h]
      have hcw := hcw.later hw
      have htw := htw.later hw
      have HB4 : Hid (Below w.heap.size w wr) := Lib.hid (HB2.out.trans (hw.mono HB2.out.size))
      clear hown hw HW P0 P1 P2 hlt
      go_wp2_with fail
      generalize wr = W4 at *
      go_loopw [4, 75] (fun t c wr => ∃ k : Nat, k ≤ C.length ∧ c = .int .i64 k ∧ t = .string (codeT C t0 k) ∧ (codeT C t0 k).size ≤ 3200 + k * 200 ∧ Below W4.heap.size W4 wr) (fun _ c _ => C.length - (intOf c).toNat)
      case atStart => exact ⟨0, by omega, rfl, rfl, by have := HTS.out; have := HV.out.2.1; simp only [codeT]; omega, Below.refl _ _⟩
      clear p0 p1 p2
      obtain ⟨k, hk, rfl, rfl, hts, hw⟩ := hrel
      have HW := Lib.hid hw
      by_cases hlt : k < C.length
      · obtain ⟨bc, oc, rfl, hcc⟩ := (hcw.later hw).some hlt
        obtain ⟨q0, q1, q2, q3, q4⟩ := hcc k hlt
        have htg := cell_later hw (tg k hlt)
        have hin := (vinB_iff _).1 (hg.2.2.2.2.2 k hlt).1
        have HC : Hid (codeT C t0 (k + 1) = insT C (codeT C t0 k) k C[k]) := Lib.hid (by
          show insT C (codeT C t0 k) k (C.getD k ⟨0, 0, 0, 0, 0⟩) = _
          rw [List.getD_eq_getElem?_getD, List.getElem?_eq_getElem hlt]
          rfl)
        have i1 : (k : Int) < (C.length : Int) := by omega
        have i2 : 0 ≤ (k : Int) := by omega
        have HTW := Lib.hid (htw.later hw)
        clear hcc hcw tg htw
        generalize C[k] = x at *
        generalize codeT C t0 k = t1 at *
        obtain ⟨op, a, b, c, imm⟩ := x
        simp only at q0 q1 q2 q3 q4
        go_upto_region 25 with fail
        have X5 := Blk.new (W := wr) #[.int .i64 op, .int .i64 a, .int .i64 b, .int .i64 c, .int .i64 imm] 56
        have hA5 := Below.alloc (Below.refl wr.heap.size wr) (Nat.le_refl _) (.cells #[.int .i64 op, .int .i64 a, .int .i64 b, .int .i64 c, .int .i64 imm] 56)
        have H6 := Lib.hid (hw.trans (hA5.mono hw.size))
        have htg := cell_later hA5 htg
        have HTW := Lib.hid (HTW.out.later hA5)
        clear hA5 q0 q1 q2 q3 q4 hw HW
        generalize wr.alloc (.cells #[.int .i64 op, .int .i64 a, .int .i64 b, .int .i64 c, .int .i64 imm] 56) = W5 at *
        generalize wr.heap.size = Z at *
        have HTS1 := Lib.hid hts
        clear hts
        have hhd : Hid (headT C t1 k = if tgtB C C.length k then t1 ++ ((⟨#[108]⟩ ++ itoaB k) ++ ⟨#[58, 10]⟩) else t1) := Lib.hid rfl
        generalize tgtB C C.length k = bt at *
        go_upto_if 83 with fail
        go_cut [4] (fun v wx => v = .string (headT C t1 k) ∧ (headT C t1 k).size ≤ t1.size + 24 ∧ Below W5.heap.size W5 wx)
        case first =>
          have hni := itoaB_size (n := k) (by omega)
          have hts1 := HTS1.out
          cases bt with
          | true =>
            have HI := Lib.hid (lib_Itoa k W5 HTW.out (by omega))
            have z1 : ¬ 9223372036854775807 < 1 + (itoaB k).size := by omega
            have z2 : ¬ 9223372036854775807 < 1 + (itoaB k).size + 2 := by omega
            have z3 : ¬ 9223372036854775807 < t1.size + (1 + (itoaB k).size + 2) := by omega
            go_wp2_with (go_at_call 32; (with_reducible refine HI.out.mono ?_); rintro e W6 ⟨rfl, hb6⟩)
            go_meet
            refine ⟨by rw [hhd.out]; rfl, ?_, hb6⟩
            rw [hhd.out]
            simp only [if_true, add_size]
            have : ByteArray.size ⟨#[108]⟩ = 1 := rfl
            have : ByteArray.size ⟨#[58, 10]⟩ = 2 := rfl
            omega
          | false =>
            go_wp2_with fail
            go_meet
            exact ⟨by rw [hhd.out]; rfl, by rw [hhd.out]; simp, Below.refl _ _⟩
        case rest =>
          obtain ⟨rfl, hht, hwc⟩ := hcut
          have H7 := Lib.hid (H6.out.trans (hwc.mono H6.out.size))
          have X5 := X5.later hwc
          have e0 := (X5 0 (by simp)).1
          have e1 := (X5 1 (by simp)).1
          have e2 := (X5 2 (by simp)).1
          have e3 := (X5 3 (by simp)).1
          have e4 := (X5 4 (by simp)).1
          have htc := HTW.out.later hwc
          have HIT : Hid (insT C t1 k ⟨op, a, b, c, imm⟩ = immT (argsT (headT C t1 k ++ nameB op) ⟨op, a, b, c, imm⟩ 3) ⟨op, a, b, c, imm⟩ ++ ⟨#[10]⟩) := Lib.hid rfl
          generalize headT C t1 k = t2 at *
          have HNM := Lib.hid (ref07_Name op wc htc)
          have HUS := Lib.hid (fun W => ref06_Uses op W hin.1 hin.2.1)
          have hnz := nameB_size op
          have z1 : ¬ 9223372036854775807 < t2.size + (nameB op).size := by have := HTS1.out; omega
          have HS2 : Hid ((t2 ++ nameB op).size ≤ t1.size + 27) := Lib.hid (by rw [add_size]; omega)
          generalize nameB op = nm at *
          unfold usV at HUS
          clear hht hwc hnz X5 htg
          go_upto_region 29 with (first
            | (go_at_call 13; (with_reducible refine HNM.out.mono ?_); rintro e W6 ⟨rfl, hb6⟩; have e0 := cell_later hb6 e0; have e1 := cell_later hb6 e1; have e2 := cell_later hb6 e2; have e3 := cell_later hb6 e3; have e4 := cell_later hb6 e4; have H8 := Lib.hid (H7.out.trans (hb6.mono H7.out.size)); have htc := htc.later hb6)
            | (go_at_call 36; (with_reducible refine (HUS.out _).mono ?_); rintro e W7 ⟨rfl, hb7⟩; have e0 := cell_later hb7 e0; have e1 := cell_later hb7 e1; have e2 := cell_later hb7 e2; have e3 := cell_later hb7 e3; have e4 := cell_later hb7 e4; have H9 := Lib.hid (H8.out.trans (hb7.mono H8.out.size)); have htc := htc.later hb7))
          have X7 := Blk.new (W := W7) #[.bool (usA op), .bool (usB op), .bool (usC op), .bool (usI op)] 72
          have hA7 := Below.alloc (Below.refl W7.heap.size W7) (Nat.le_refl _) (.cells #[.bool (usA op), .bool (usB op), .bool (usC op), .bool (usI op)] 72)
          have e0 := cell_later hA7 e0
          have e1 := cell_later hA7 e1
          have e2 := cell_later hA7 e2
          have e3 := cell_later hA7 e3
          have e4 := cell_later hA7 e4
          have htc := htc.later hA7
          have H10 := Lib.hid (H9.out.trans (hA7.mono H9.out.size))
          clear hA7 HUS HNM H9 H8 H7
          generalize W7.alloc (.cells #[.bool (usA op), .bool (usB op), .bool (usC op), .bool (usI op)] 72) = W8 at *
          generalize W7.heap.size = V at *
          go_wp2_with fail
          have X8 := Blk.new (W := W8) #[.int .i64 a, .int .i64 b, .int .i64 c] 3
          have hA8 := Below.alloc (Below.refl W8.heap.size W8) (Nat.le_refl _) (.cells #[.int .i64 a, .int .i64 b, .int .i64 c] 3)
          have X7 := X7.later hA8
          have e0 := cell_later hA8 e0
          have e4 := cell_later hA8 e4
          have htc := htc.later hA8
          have H11 := Lib.hid (H10.out.trans (hA8.mono H10.out.size))
          clear hA8 H10 e1 e2 e3
          generalize W8.alloc (.cells #[.int .i64 a, .int .i64 b, .int .i64 c] 3) = W9 at *
          generalize W8.heap.size = S at *
          obtain ⟨na, rfl⟩ := Int.eq_ofNat_of_zero_le hin.2.2.1
          obtain ⟨nb, rfl⟩ := Int.eq_ofNat_of_zero_le hin.2.2.2.2.1
          obtain ⟨nc, rfl⟩ := Int.eq_ofNat_of_zero_le hin.2.2.2.2.2.2.1
          obtain ⟨ni, rfl⟩ := Int.eq_ofNat_of_zero_le hin.2.2.2.2.2.2.2.2.1
          have hn8 : na < 8 ∧ nb < 8 ∧ nc < 8 ∧ ni ≤ 65535 := by
            obtain ⟨_, _, _, y1, _, y2, _, y3, _, y4, _⟩ := hin
            simp only at y1 y2 y3 y4
            omega
          have HF : Hid (∀ f < 3, ∃ uf vf, us3 ⟨op, na, nb, nc, ni⟩ f = uf ∧ va3 ⟨op, na, nb, nc, ni⟩ f = vf ∧ vf < 8 ∧ W9.cell? ⟨V, f, none⟩ = some (.bool uf) ∧ W9.cell? ⟨S, f, none⟩ = some (.int .i64 (vf : Int))) := Lib.hid (fun f hf => by
            rcases (by omega : f = 0 ∨ f = 1 ∨ f = 2) with rfl | rfl | rfl
            · exact ⟨usA op, na, rfl, rfl, hn8.1, (X7 0 (by simp)).1, (X8 0 (by simp)).1⟩
            · exact ⟨usB op, nb, rfl, rfl, hn8.2.1, (X7 1 (by simp)).1, (X8 1 (by simp)).1⟩
            · exact ⟨usC op, nc, rfl, rfl, hn8.2.2.1, (X7 2 (by simp)).1, (X8 2 (by simp)).1⟩)
          have u3 := (X7 3 (by simp)).1
          have n65 := hn8.2.2.2
          clear X7 X8 hin hn8
          generalize t2 ++ nm = t3 at *
          go_loopw [4, 106] (fun t c wr => ∃ f : Nat, f ≤ 3 ∧ c = .int .i64 f ∧ t = .string (argsT t3 ⟨op, na, nb, nc, ni⟩ f) ∧ (argsT t3 ⟨op, na, nb, nc, ni⟩ f).size ≤ t1.size + 27 + f * 23 ∧ Below W9.heap.size W9 wr) (fun _ c _ => 3 - (intOf c).toNat)
          case atStart => exact ⟨0, by omega, rfl, rfl, by have := HS2.out; simpa [argsT] using this, Below.refl _ _⟩
          obtain ⟨f, hf, rfl, rfl, hts, hw⟩ := hrel
          have hts1 := HTS1.out
          by_cases hlf : f < 3
          · obtain ⟨uf, vf, hue, hve, hv8, c1, c2⟩ := HF.out f hlf
            have c1 := cell_later hw c1
            have c2 := cell_later hw c2
            have HNX : Hid (argsT t3 ⟨op, na, nb, nc, ni⟩ (f + 1) = argT (argsT t3 ⟨op, na, nb, nc, ni⟩ f) uf vf) := Lib.hid (by rw [← hue, ← hve]; rfl)
            have HI := Lib.hid (lib_Itoa vf wr (htc.later hw) (by omega))
            have hni := itoaB_size (n := vf) (by omega)
            have f1 : (f : Int) < 3 := by omega
            have f2 : 0 ≤ (f : Int) := by omega
            have HWF := Lib.hid hw
            generalize argsT t3 ⟨op, na, nb, nc, ni⟩ f = t4 at *
            have z1 : ¬ 9223372036854775807 < 2 + (itoaB vf).size := by omega
            have z2 : ¬ 9223372036854775807 < t4.size + (2 + (itoaB vf).size) := by omega
            clear hue hve hw HF htc
            cases uf with
            | true =>
              have HSZ : Hid ((t4 ++ (⟨#[32, 114]⟩ ++ itoaB vf)).size ≤ t1.size + 27 + (f + 1) * 23) := Lib.hid (by
                rw [add_size, add_size]
                have : ByteArray.size ⟨#[32, 114]⟩ = 2 := rfl
                omega)
              have HNX2 : Hid (argsT t3 ⟨op, na, nb, nc, ni⟩ (f + 1) = t4 ++ (⟨#[32, 114]⟩ ++ itoaB vf)) := Lib.hid (HNX.out.trans rfl)
              clear hts hts1 hni HNX
              go_wp2_with (go_at_call 32; (with_reducible refine HI.out.mono ?_); rintro e W6 ⟨rfl, hb6⟩)
              refine ⟨⟨f + 1, by omega, by go_num, by rw [HNX2.out], by rw [HNX2.out]; exact HSZ.out, HWF.out.trans (hb6.mono HWF.out.size)⟩, ?_⟩
              simp [intOf]
              omega
            | false =>
              have HNX2 : Hid (argsT t3 ⟨op, na, nb, nc, ni⟩ (f + 1) = t4) := Lib.hid (HNX.out.trans rfl)
              have HSZ : Hid (t4.size ≤ t1.size + 27 + (f + 1) * 23) := Lib.hid (by omega)
              clear hts hts1 hni HNX HI
              go_wp2_with fail
              refine ⟨⟨f + 1, by omega, by go_num, by rw [HNX2.out], by rw [HNX2.out]; exact HSZ.out, HWF.out⟩, ?_⟩
              simp [intOf]
              omega
          · obtain rfl : f = 3 := by omega
            have e0 := cell_later hw e0
            have e4 := cell_later hw e4
            have u3 := cell_later hw u3
            have HFI : Hid (codeT C t0 (k + 1) = immT (argsT t3 ⟨op, na, nb, nc, ni⟩ 3) ⟨op, na, nb, nc, ni⟩ ++ ⟨#[10]⟩) := Lib.hid (HC.out.trans HIT.out)
            have HI := Lib.hid (lib_Itoa ni wr (htc.later hw) (by omega))
            have hni := itoaB_size (n := ni) (by omega)
            have HWF := Lib.hid (H11.out.trans (hw.mono H11.out.size))
            generalize argsT t3 ⟨op, na, nb, nc, ni⟩ 3 = t4 at *
            have HJ := Lib.hid (fun W => ref06_Jump op W)
            clear HF htc hlf hw HC HIT
            cases hjj : jumpB op with
            | true =>
              rw [hjj] at HJ
              have z1 : ¬ 9223372036854775807 < 2 + (itoaB ni).size := by omega
              have z2 : ¬ 9223372036854775807 < t4.size + (2 + (itoaB ni).size) := by omega
              have z3 : ¬ 9223372036854775807 < t4.size + (2 + (itoaB ni).size) + 1 := by omega
              have HE : Hid (codeT C t0 (k + 1) = t4 ++ (⟨#[32, 108]⟩ ++ itoaB ni) ++ ⟨#[10]⟩) := Lib.hid (by rw [HFI.out]; simp [immT, hjj])
              have HSZ : Hid ((t4 ++ (⟨#[32, 108]⟩ ++ itoaB ni) ++ ⟨#[10]⟩).size ≤ 3200 + (k + 1) * 200) := Lib.hid (by
                rw [add_size, add_size, add_size]
                have : ByteArray.size ⟨#[32, 108]⟩ = 2 := rfl
                have : ByteArray.size ⟨#[10]⟩ = 1 := rfl
                omega)
              clear hts hts1 hni hjj HFI u3
              go_wp2_with (first
                | (go_at_call 26; (with_reducible refine (HJ.out _).mono ?_); rintro e w' ⟨rfl, rfl⟩)
                | (go_at_call 32; (with_reducible refine HI.out.mono ?_); rintro e W6 ⟨rfl, hb6⟩))
              refine ⟨⟨k + 1, by omega, by go_num, by rw [HE.out], by rw [HE.out]; exact HSZ.out, HWF.out.trans (hb6.mono HWF.out.size)⟩, ?_⟩
              simp [intOf]
              omega
            | false =>
              rw [hjj] at HJ
              cases huu : usI op with
              | true =>
                rw [huu] at u3
                have z1 : ¬ 9223372036854775807 < 1 + (itoaB ni).size := by omega
                have z2 : ¬ 9223372036854775807 < t4.size + (1 + (itoaB ni).size) := by omega
                have z3 : ¬ 9223372036854775807 < t4.size + (1 + (itoaB ni).size) + 1 := by omega
                have HE : Hid (codeT C t0 (k + 1) = t4 ++ (⟨#[32]⟩ ++ itoaB ni) ++ ⟨#[10]⟩) := Lib.hid (by rw [HFI.out]; simp [immT, hjj, huu])
                have HSZ : Hid ((t4 ++ (⟨#[32]⟩ ++ itoaB ni) ++ ⟨#[10]⟩).size ≤ 3200 + (k + 1) * 200) := Lib.hid (by
                  rw [add_size, add_size, add_size]
                  have : ByteArray.size ⟨#[32]⟩ = 1 := rfl
                  have : ByteArray.size ⟨#[10]⟩ = 1 := rfl
                  omega)
                clear hts hts1 hni hjj huu HFI
                go_wp2_with (first
                  | (go_at_call 26; (with_reducible refine (HJ.out _).mono ?_); rintro e w' ⟨rfl, rfl⟩)
                  | (go_at_call 32; (with_reducible refine HI.out.mono ?_); rintro e W6 ⟨rfl, hb6⟩))
                refine ⟨⟨k + 1, by omega, by go_num, by rw [HE.out], by rw [HE.out]; exact HSZ.out, HWF.out.trans (hb6.mono HWF.out.size)⟩, ?_⟩
                simp [intOf]
                omega
              | false =>
                rw [huu] at u3
                have z3 : ¬ 9223372036854775807 < t4.size + 1 := by omega
                have HE : Hid (codeT C t0 (k + 1) = t4 ++ ⟨#[10]⟩) := Lib.hid (by rw [HFI.out]; simp [immT, hjj, huu])
                have HSZ : Hid ((t4 ++ ⟨#[10]⟩).size ≤ 3200 + (k + 1) * 200) := Lib.hid (by
                  rw [add_size]
                  have : ByteArray.size ⟨#[10]⟩ = 1 := rfl
                  omega)
                clear hts hts1 hni hjj huu HFI HI
                go_wp2_with (go_at_call 26; (with_reducible refine (HJ.out _).mono ?_); rintro e w' ⟨rfl, rfl⟩)
                refine ⟨⟨k + 1, by omega, by go_num, by rw [HE.out], by rw [HE.out]; exact HSZ.out, HWF.out⟩, ?_⟩
                simp [intOf]
                omega
      · obtain rfl : k = C.length := by omega
        have HBE := Lib.hid (HB4.out.trans (hw.mono HB4.out.size))
        clear hw HW hlt hts
        go_wp2
        refine bodyPost_ret (by simp [results, Tryz.results11, go_sem]; rfl) rfl ⟨?_, HBE.out⟩
        rw [hpr.out]

theorem ref07_Print_none (ac a2 ad : Option Addr) (C : List Ins) (s : List Int) (L : List (List Nat)) (cc c2 cd : Nat) (w : World) (hc : CodeAt w ac C) (hs : IntsAt .i64 w a2 s) (hd : DatAt w ad L) (lc : C.length ≤ 1000000) (ls : s.length ≤ 1000000) (ld : L.length ≤ 1000000) (lr : ∀ l ∈ L, l.length ≤ 1000000) (hg : ¬ GoodPg C s L) :
    Calls Tryz.prog 11 #[.agg #[.slice ac C.length cc, .slice a2 s.length c2, .slice ad L.length cd]] w fun e w' => e = .returned (.tuple #[.string ⟨#[]⟩, .int .i64 1]) ∧ Below w.heap.size w w' := by
  have hB0 := Below.alloc (Below.refl w.heap.size w) (Nat.le_refl _) (.cells #[.slice ac C.length cc, .slice a2 s.length c2, .slice ad L.length cd] 26)
  have X0 := Blk.new (W := w) #[.slice ac C.length cc, .slice a2 s.length c2, .slice ad L.length cd] 26
  have hc := hc.later hB0
  have hs := ints_later7 hs hB0
  have hd := hd.later hB0
  have HG : Hid (∀ W, _ → _) := Lib.hid (fun W (h : W = w.alloc (.cells #[.slice ac C.length cc, .slice a2 s.length c2, .slice ad L.length cd] 26)) => ((ref07_Good ac a2 ad C s L cc c2 cd W (h ▸ hc) (h ▸ hs) (h ▸ hd) lc ls ld lr).mono fun e w' hh => by
    obtain ⟨g, he, hi, hb⟩ := hh
    have hgf : g = false := by
      cases g with
      | false => rfl
      | true => exact absurd (hi.1 rfl) hg
    rw [hgf] at he
    exact (⟨he, hb⟩ : e = .returned (.bool false) ∧ Below W.heap.size W w')))
  have HG := Lib.hid (HG.out _ rfl)
  have HB0 := Lib.hid hB0
  clear hc hs hd hB0
  go_enter Tryz.func11, Tryz.ntmps11
  go_upto_region 1 with fail
  generalize w.alloc (.cells #[.slice ac C.length cc, .slice a2 s.length c2, .slice ad L.length cd] 26) = W0 at *
  have p0 := (X0 0 (by simp)).1
  have p1 := (X0 1 (by simp)).1
  have p2 := (X0 2 (by simp)).1
  go_wp2_with (go_at_call 35; (with_reducible refine HG.out.mono ?_); rintro e W1 ⟨rfl, hb1⟩)
  refine bodyPost_ret (v := .tuple #[.string ⟨#[]⟩, .int .i64 1]) (by simp [results, Tryz.results11, go_sem]) rfl ?_
  exact ⟨rfl, HB0.out.trans (hb1.mono HB0.out.size)⟩
end Go.Proofs.YtejbmidgnagcdaaGreatDoor
