/-
  mk.Short: whether a raw program is small enough.
-/
import Derived.Test.YtejbmidgnagcdaaGreatDoorPgm
namespace Go.Proofs.YtejbmidgnagcdaaGreatDoor
open Go.RowKit
set_option maxRecDepth 100000

/-- Programs that are small enough. -/
def ShortPg (C : Nat) (s : Nat) (L : List (List Nat)) : Prop := (∀ l ∈ L, l.length ≤ 100) ∧ C ≤ 80 ∧ s ≤ 20 ∧ L.length ≤ 20

set_option maxHeartbeats 1000000 in
theorem make_Short (ac a2 ad : Option Addr) (C s : Nat) (L : List (List Nat)) (cc c2 cd : Nat) (w : World) (hd : DatAt w ad L) (ll : L.length ≤ 9223372036854775807) :
    Calls Tryz.prog 5 #[.agg #[.slice ac C cc, .slice a2 s c2, .slice ad L.length cd]] w (Says (ShortPg C s L) w) := by
  have hB := Below.alloc (Below.refl w.heap.size w) (Nat.le_refl _) (.cells #[.slice ac C cc, .slice a2 s c2, .slice ad L.length cd] 26)
  have X0 := Blk.new (W := w) #[.slice ac C cc, .slice a2 s c2, .slice ad L.length cd] 26
  have hd0 := hd.later hB
  have hno := Lib.hid (fun W (h : Below w.heap.size w W) (hn : ¬ ShortPg C s L) => says_no h hn)
  have hyes := Lib.hid (fun W (h : Below w.heap.size w W) (hn : ShortPg C s L) => says_yes h hn)
  clear hd
  go_enter Tryz.func5, Tryz.ntmps5
  go_upto_region 1 with fail
  generalize w.alloc (.cells #[.slice ac C cc, .slice a2 s c2, .slice ad L.length cd] 26) = W0 at *
  have p0 := (X0 0 (by simp)).1
  have p1 := (X0 1 (by simp)).1
  have p2 := (X0 2 (by simp)).1
  have HB := Lib.hid hB
  clear X0 hB
  go_wp2_with fail
  go_loopw [8] (fun c wr => ∃ k : Nat, k ≤ L.length ∧ c = .int .i64 k ∧ wr = W0 ∧ ∀ i (h : i < L.length), i < k → L[i].length ≤ 100) (fun c _ => L.length - (intOf c).toNat)
  case atStart => exact ⟨0, by omega, rfl, rfl, fun i _ hi => by omega⟩
  obtain ⟨k, hk, rfl, rfl, hall⟩ := hrel
  by_cases hlt : k < L.length
  · obtain ⟨b, o, rfl, hh⟩ := hd0.some hlt
    obtain ⟨a5, c5, q0, _⟩ := hh k hlt
    have HN : Hid (¬ L[k].length ≤ 100 → ¬ ShortPg C s L) := Lib.hid (fun hn h => hn (h.1 _ (List.getElem_mem hlt)))
    have HY : Hid (L[k].length ≤ 100 → ∀ i (h : i < L.length), i < k + 1 → L[i].length ≤ 100) := Lib.hid (fun hn i hi hik => by
      by_cases e : i = k
      · subst e; exact hn
      · exact hall i hi (by omega))
    have i1 : (k : Int) < (L.length : Int) := by omega
    have i2 : 0 ≤ (k : Int) := by omega
    generalize L[k].length = n at *
    clear hh hall hd0
    by_cases h1 : n ≤ 100
    · have HY2 := Lib.hid (HY.out h1)
      have g1 : ¬ 100 < (n : Int) := by omega
      clear HN HY h1
      go_wp2
      go_roundw
      case rel => exact ⟨k + 1, by omega, by go_num, trivial, HY2.out⟩
      case measure => simp [intOf]; omega
    · have HE := Lib.hid (HN.out h1)
      have g1 : 100 < (n : Int) := by omega
      clear HN HY h1
      go_wp2
      go_ret
      exact hno.out _ HB.out HE.out
  · obtain rfl : k = L.length := by omega
    have HA : Hid (∀ l ∈ L, l.length ≤ 100) := Lib.hid (fun l hl => by
      obtain ⟨i, hi, rfl⟩ := List.mem_iff_getElem.1 hl
      exact hall i hi hi)
    clear hall hlt hd0
    by_cases h1 : C ≤ 80
    · have g1 : (C : Int) ≤ 80 := by omega
      by_cases h2 : s ≤ 20
      · have g2 : (s : Int) ≤ 20 := by omega
        by_cases h3 : L.length ≤ 20
        · have g3 : (L.length : Int) ≤ 20 := by omega
          have HE : Hid (ShortPg C s L) := Lib.hid ⟨HA.out, h1, h2, h3⟩
          clear h1 h2 h3
          go_wp2
          go_ret
          exact hyes.out _ HB.out HE.out
        · have g3 : ¬ (L.length : Int) ≤ 20 := by omega
          have HE : Hid (¬ ShortPg C s L) := Lib.hid (fun h => h3 h.2.2.2)
          clear h1 h2 h3
          go_wp2
          go_ret
          exact hno.out _ HB.out HE.out
      · have g2 : ¬ (s : Int) ≤ 20 := by omega
        have HE : Hid (¬ ShortPg C s L) := Lib.hid (fun h => h2 h.2.2.1)
        clear h1 h2
        go_wp2
        go_ret
        exact hno.out _ HB.out HE.out
    · have g1 : ¬ (C : Int) ≤ 80 := by omega
      have HE : Hid (¬ ShortPg C s L) := Lib.hid (fun h => h1 h.2.1)
      clear h1
      go_wp2
      go_ret
      exact hno.out _ HB.out HE.out
end Go.Proofs.YtejbmidgnagcdaaGreatDoor
