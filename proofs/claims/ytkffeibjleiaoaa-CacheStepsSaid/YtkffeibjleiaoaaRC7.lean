/-
  Contract of the document's own memory: Same of equal words and lines.
-/
import Derived.Test.YtkffeibjleiaoaaRC6
namespace Go.Proofs.Ytkffeibjleiaoaa
open Go.RowKit

theorem sameCells (a b : Option Addr) (xs : List (Nat × Nat)) (ca cb : Nat) (w : World) (ha : CellsAt w a xs) (hb : CellsAt w b xs) (lx : xs.length ≤ 1000000) :
    Calls Try.prog 35 #[.slice a xs.length ca, .slice b xs.length cb] w fun e w' => e = .returned (.bool true) ∧ Below w.heap.size w w' := by
  have h := ref01_Same a b xs xs ca cb w ha hb lx lx
  rw [decide_eq_true rfl] at h
  exact h

theorem two_boxes (w : World) (P Q : Array Value) (T T2 : TypeId) : Blk ((w.alloc (.cells P T)).alloc (.cells Q T2)).drew w.heap.size P.toList ∧ Blk ((w.alloc (.cells P T)).alloc (.cells Q T2)).drew (w.heap.size + 1) Q.toList ∧ Below w.heap.size w ((w.alloc (.cells P T)).alloc (.cells Q T2)).drew := by
  have hs : (w.alloc (.cells P T)).heap.size = w.heap.size + 1 := by simp
  have b2 := Blk.new (W := w.alloc (.cells P T)) Q T2
  rw [hs] at b2
  exact ⟨((Blk.new (W := w) P T).kept (World.grownBy_alloc (w.alloc (.cells P T)) (.cells Q T2) none) (by simp)).later (Below.refl _ _).drew, b2.later (Below.refl _ _).drew, (((Below.refl w.heap.size w).alloc (Nat.le_refl _) _).alloc (by rw [hs]; omega) _).drew⟩

set_option maxHeartbeats 4000000 in
set_option maxRecDepth 20000 in
theorem ref04_Same (a al b bl : Option Addr) (na nl ca cl cb cl2 : Nat) (o : Option Mem) (w : World) (h1 : MemR w a na al nl o) (h2 : MemR w b na bl nl o) (hV : ∀ m, o = some m → MV m) :
    Calls Try.prog 16 #[.agg #[.slice a na ca, .slice al nl cl], .agg #[.slice b na cb, .slice bl nl cl2]] w fun e w' => e = .returned (.bool true) ∧ Below w.heap.size w w' := by
  obtain ⟨cs, ls, hna, hnl, hca, hcb, hla, hlb, hsh⟩ : ∃ (cs : List (Nat × Nat)) (ls : List MLine), na = cs.length ∧ nl = ls.length ∧ CellsAt w a cs ∧ CellsAt w b cs ∧ LinesAt w al ls ∧ LinesAt w bl ls ∧ (cs.length ≤ 512 ∧ ls.length ≤ 4 ∧ ∀ x ∈ ls, x.cells.length ≤ 4) := by
    cases o with
    | none =>
      obtain ⟨e1, e2⟩ := h1
      exact ⟨[], [], e1, e2, .inl rfl, .inl rfl, .inl rfl, .inl rfl, by simp, by simp, by simp⟩
    | some m =>
      have hm := hV m rfl
      obtain ⟨e1, e2, e3⟩ := h1
      obtain ⟨_, _, e4⟩ := h2
      exact ⟨m.cells, m.lines, by rw [e1, hm.len], by rw [e2, hm.lines], e3.1, e4.1, e3.2, e4.2, by rw [hm.len]; omega, by rw [hm.lines]; omega, hm.short⟩
  subst hna hnl
  clear h1 h2 hV o
  have g1 := World.grownBy_alloc (w.alloc (.cells #[.slice a cs.length ca, .slice al ls.length cl] 31)) (.cells #[.slice b cs.length cb, .slice bl ls.length cl2] 31) none
  have bA := (Blk.new (W := w) #[.slice a cs.length ca, .slice al ls.length cl] 31).kept g1 (by simp)
  have bB := Blk.new (W := (w.alloc (.cells #[.slice a cs.length ca, .slice al ls.length cl] 31))) #[.slice b cs.length cb, .slice bl ls.length cl2] 31
  have hs1 : (w.alloc (.cells #[.slice a cs.length ca, .slice al ls.length cl] 31)).heap.size = w.heap.size + 1 := by simp
  rw [hs1] at bB
  have hB := Below.alloc (Below.alloc (Below.refl w.heap.size w) (Nat.le_refl _) (.cells #[.slice a cs.length ca, .slice al ls.length cl] 31)) (by rw [hs1]; omega) (.cells #[.slice b cs.length cb, .slice bl ls.length cl2] 31)
  have HS := Lib.hid (sameCells a b cs ca cb _ (hca.later hB) (hcb.later hB) (by omega))
  have hla := hla.later hB
  have hlb := hlb.later hB
  clear g1 hs1 hca hcb
  go_enter Try.func16, Try.ntmps16
  go_upto_region 1 with fail
  generalize ((w.alloc (.cells #[.slice a cs.length ca, .slice al ls.length cl] 31)).alloc (.cells #[.slice b cs.length cb, .slice bl ls.length cl2] 31)) = W0 at *
  have a0 := (bA 0 (by simp)).1
  have a1 := (bA 1 (by simp)).1
  have b0 := (bB 0 (by simp)).1
  have b1 := (bB 1 (by simp)).1
  have HA := Lib.hid bA
  have HBB := Lib.hid bB
  have HLA := Lib.hid hla
  have HLB := Lib.hid hlb
  go_upto_region 3 with (go_at_call 35; (with_reducible refine HS.out.mono ?_); rintro e W1 ⟨rfl, hb1⟩; have bA1 := HA.out.later hb1; have bB1 := HBB.out.later hb1; have a2 := (bA1 1 (by simp)).1; have b2 := (bB1 1 (by simp)).1; clear a0 a1 b0 b1)
  have hB1 := hB.trans (hb1.mono hB.size)
  have hla := HLA.out.later hb1
  have hlb := HLB.out.later hb1
  clear HS HA HBB HLA HLB hB bA bB
  go_wp2_with fail
  go_loopw [26] (fun c wr => ∃ k : Nat, k ≤ ls.length ∧ c = .int .i64 (k : Int) ∧ Below W1.heap.size W1 wr) (fun c _ => ls.length - (intOf c).toNat)
  case atStart => exact ⟨0, by omega, rfl, Below.refl _ _⟩
  case round =>
    clear a2 b2
    obtain ⟨k, hk, rfl, hb⟩ := hrel
    by_cases hlt : k < ls.length
    · have i1 : (k : Int) < (ls.length : Int) := by omega
      have i2 : 0 ≤ (k : Int) := by omega
      obtain ⟨p, op, rfl, hp⟩ := (hla.later hb).some hlt
      obtain ⟨q, oq, rfl, hq⟩ := (hlb.later hb).some hlt
      obtain ⟨p0, p1, pa, pk, p2, hpc⟩ := hp k hlt
      obtain ⟨q0, q1, qa, qk, q2, hqc⟩ := hq k hlt
      have hx4 := hsh.2.2 _ (List.getElem_mem hlt)
      generalize ls[k] = x at *
      have a2 := ((bA1.later hb) 1 (by simp)).1
      have b2 := ((bB1.later hb) 1 (by simp)).1
      clear hp hq
      go_upto_region 6 with fail
      go_cut [6, 7] (fun v1 v2 wx => ∃ X Y, v1 = .pointer (some ⟨X, 0, none⟩) ∧ v2 = .pointer (some ⟨Y, 0, none⟩) ∧ Blk wx X [.int .i64 x.tag, .bool x.dirty, .slice pa x.cells.length pk] ∧ Blk wx Y [.int .i64 x.tag, .bool x.dirty, .slice qa x.cells.length qk] ∧ Below wr.heap.size wr wx)
      case first =>
        have hA1 := fun o => Below.alloc (Below.refl wr.heap.size wr) (Nat.le_refl _) o
        have hA2 := fun o o2 => (hA1 o).alloc (by simp) o2
        have l1 := World.block_lt_of_cell? _ _ p0
        have l2 := World.block_lt_of_cell? _ _ q0
        have l3 := World.block_lt_of_cell? _ _ a2
        have l4 := World.block_lt_of_cell? _ _ b2
        simp only at l1 l2 l3 l4
        have n1 : ¬ p = wr.heap.size := by omega
        have n2 : ¬ p = wr.heap.size + 1 := by omega
        have n3 : ¬ q = wr.heap.size := by omega
        have n4 : ¬ q = wr.heap.size + 1 := by omega
        have n5 : ¬ w.heap.size = wr.heap.size := by omega
        have n6 : ¬ w.heap.size = wr.heap.size + 1 := by omega
        have n7 : ¬ w.heap.size + 1 = wr.heap.size := by omega
        have n9 : ¬ wr.heap.size = wr.heap.size + 1 := by omega
        have p0a := fun o => cell_later (hA1 o) p0
        have p0b := fun o o2 => cell_later (hA2 o o2) p0
        have p1a := fun o => cell_later (hA1 o) p1
        have p1b := fun o o2 => cell_later (hA2 o o2) p1
        have p2a := fun o => cell_later (hA1 o) p2
        have p2b := fun o o2 => cell_later (hA2 o o2) p2
        have q0a := fun o => cell_later (hA1 o) q0
        have q0b := fun o o2 => cell_later (hA2 o o2) q0
        have q1a := fun o => cell_later (hA1 o) q1
        have q1b := fun o o2 => cell_later (hA2 o o2) q1
        have q2a := fun o => cell_later (hA1 o) q2
        have q2b := fun o o2 => cell_later (hA2 o o2) q2
        have a2a := fun o => cell_later (hA1 o) a2
        have a2b := fun o o2 => cell_later (hA2 o o2) a2
        have b2a := fun o => cell_later (hA1 o) b2
        have b2b := fun o o2 => cell_later (hA2 o o2) b2
        clear hA1 hA2 l1 l2 l3 l4 hla hlb hpc hqc hB1 hb bA1 bB1
        have T1 := Lib.hid (two_boxes wr #[.int .i64 x.tag, .bool x.dirty, .slice pa x.cells.length pk] #[.int .i64 x.tag, .bool x.dirty, .slice qa x.cells.length qk] 53 53)
        have T2 := Lib.hid (two_boxes wr #[.int .i64 x.tag, .bool x.dirty, .slice qa x.cells.length qk] #[.int .i64 x.tag, .bool x.dirty, .slice pa x.cells.length pk] 53 53)
        go_region
        all_goals
          go_wp2
          go_meet
          first
            | exact ⟨_, _, rfl, rfl, T1.out.1, T1.out.2.1, T1.out.2.2⟩
            | exact ⟨_, _, rfl, rfl, T2.out.2.1, T2.out.1, T2.out.2.2⟩
      case rest =>
        obtain ⟨X, Y, rfl, rfl, bX, bY, hbx⟩ := hcut
        have HS := Lib.hid (sameCells pa qa x.cells pk qk wc (hpc.later hbx) (hqc.later hbx) (by omega))
        have x0 := (bX 0 (by simp)).1
        have x1 := (bX 1 (by simp)).1
        have x2 := (bX 2 (by simp)).1
        have y0 := (bY 0 (by simp)).1
        have y1 := (bY 1 (by simp)).1
        have y2 := (bY 2 (by simp)).1
        clear bX bY p0 p1 p2 q0 q1 q2 a2 b2
        go_wp2_with (go_at_call 35; (with_reducible refine HS.out.mono ?_); rintro e W5 ⟨rfl, hb5⟩)
        have hR := Lib.hid (hb.trans ((hbx.trans (hb5.mono hbx.size)).mono hb.size))
        go_roundw
        case rel => exact ⟨k + 1, by omega, by go_num, hR.out⟩
        case measure => simp [intOf]; omega
    · go_wp2
      go_ret
      exact ⟨rfl, hB1.trans (hb.mono hB1.size)⟩
end Go.Proofs.Ytkffeibjleiaoaa
