/-
  Contract of the deck: Words.
-/
import Derived.Test.YthajndgljfbifaaReg4
import Derived.Test.YthajndgljfbifaaDeck
import Derived.Test.YthajndgljfbifaaLists
namespace Go.Proofs.Ythajndgljfbifaa
open Go.RowKit
set_option maxRecDepth 100000

/-- The call gives up to n words in new memory and writes to the deck alone. -/
def GivesWs (n D : Nat) (w : World) (e : Ending) (w' : World) : Prop :=
  ∃ (a : Option Addr) (cap : Nat) (s : List Nat), e = .returned (.slice a s.length cap) ∧ NatsFrom w.heap.size .u16 w' a s ∧ s.length ≤ cap ∧ s.length ≤ n ∧ (∀ x ∈ s, x < 65536) ∧ Deck w' D ∧ w.grownBy w' (some D) ∧ (a = none → cap = 0)

theorem deck_Words (D n : Nat) (w : World) (hd : Deck w D) (hn : n ≤ 1000000) :
    Calls Try.prog 39 #[.pointer (some ⟨D, 0, none⟩), .int .i64 (n : Int)] w (GivesWs n D w) := by
  obtain ⟨i0, hi, hz0, hz1, hz2⟩ := info_parts info_u16
  have hDl := hd.lt
  have hN := Lib.hid (deck_Next D ((n : Int) + 1) w hd (by omega) (by omega))
  have hW := Lib.hid (fun W (h : Deck W D) => deck_Word D W h)
  go_enter Try.func39, Try.ntmps39
  go_wp2_with fail
  refine hN.out.mono ?_
  rintro e w1 ⟨q, hq, rfl, hd1, hg1⟩
  go_wp2_with fail
  go_loopw [5, 6] (fun v c wr => ∃ (j : Nat) (s : List Nat), c = .int .i64 j ∧ s.length + j ≤ n ∧ wr.ownsRow w.heap.size 27 1 v s.length (s.map fun x : Nat => Value.int .u16 (x : Int)) ∧ (∀ x ∈ s, x < 65536) ∧ Deck wr D ∧ w.grownBy wr (some D)) (fun _ c _ => (intOf c).toNat)
  case atStart => exact ⟨q, [], rfl, by simp; omega, by simpa using World.ownsRow_nil _ _ _ _, by simp, hd1, hg1⟩
  case round =>
    obtain ⟨j, s, rfl, hj, hown, hok, hdr, hgr⟩ := hrel
    by_cases h0 : 0 < j
    · have hlt := hgr.size
      clear hd1 hg1
      go_wp2_with fail
      refine (hW.out _ hdr).mono ?_
      rintro e w3 ⟨p, hp, rfl, hd3, hg3⟩
      have own3 := (hown.kept hg3 (by right; intro e; have := (hown.lt D e).1; omega)).alloc (.cells #[.int .u16 (p : Int)] 27)
      have G3 := Lib.hid (grownBy_more (grownBy_trans hgr hg3) (.cells #[.int .u16 (p : Int)] 27))
      have hd3a := hd3.kept (World.grownBy_alloc w3 (.cells #[.int .u16 (p : Int)] 27) none) (fun k hk => by cases hk)
      have hs3 := hg3.size
      clear hg3 hd3
      go_wp2_with (first
        | (at_builtin; refine wpList_append_own _ rfl _ _ 84 rfl w.heap.size 27 i0 (.int .u16 0) 1 2 Try.underlying84 hi hz0 hz1 hz2 rfl (by decide) _ _ _ rfl own3 ⟨w3.heap.size, 0, none⟩ 1 1 [.int .u16 (p : Int)] rfl rfl ?c1 ?c2 ?c3 ?c4 ?c5 ?_))
      case c1 => exact World.news_of_block (cs := #[.int .u16 (p : Int)]) (t := 27) (fr := (0, 0)) (heap_alloc_new _ _)
      case c2 => simp [Value.oneCell']
      case c3 => unfold maxLen; omega
      case c4 => omega
      case c5 => simp; omega
      intro v' w5 hown2 hgrow _h3
      rw [nmap_snoc] at hown2
      have hbl := own3.lt
      have R1 := Lib.hid (hd3a.kept hgrow (fun k hk => by have := (hbl k hk).1; omega))
      have R2 := Lib.hid (grown_own G3.out hgrow (fun k hk => (hbl k hk).1))
      have R3 : Hid (∀ x ∈ s ++ [p], x < 65536) := Lib.hid (fun x hx => by
        rcases List.mem_append.1 hx with hx | hx
        · exact hok x hx
        · simp at hx; omega)
      have R4 := Lib.hid hown2
      clear hgrow _h3 hown2 hbl own3 hd3a hok hown hdr hgr
      go_wp2
      go_roundw
      case rel => exact ⟨j - 1, s ++ [p], by go_num, by simp; omega, by simpa using R4.out, R3.out, R1.out, R2.out⟩
      case measure => simp [intOf]; omega
    · obtain rfl : j = 0 := by omega
      obtain ⟨a2, cap2, rfl, hn2, hcap, hnone⟩ := NatsFrom.of_row hown
      have HG : Hid (GivesWs n D w (.returned (.slice a2 s.length cap2)) wr) := Lib.hid ⟨a2, cap2, s, rfl, hn2, hcap, by omega, hok, hdr, hgr, hnone⟩
      clear hn2 hown hok hdr hgr hcap hd1 hg1
      go_wp2
      go_ret
      exact HG.out
end Go.Proofs.Ythajndgljfbifaa
