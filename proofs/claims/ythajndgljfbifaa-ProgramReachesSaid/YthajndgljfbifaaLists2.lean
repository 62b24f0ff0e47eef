/-
  Contracts of Bytes (both) and SameWords.
-/
import Derived.Test.YthajndgljfbifaaLists
namespace Go.Proofs.Ythajndgljfbifaa
open Go.RowKit
set_option maxRecDepth 100000

theorem bytes_word (v : Nat) (h : v < 65536) : IntKind.u8.wrap ((v : Int) / 256) = (v : Int) / 256 ∧ IntKind.u8.wrap (v : Int) = (v : Int) % 256 := by
  rw [IntKind.wrap_u8', IntKind.wrap_u8']
  omega

theorem map_two (l : List Nat) (v : Nat) : l.map (fun y : Nat => Value.int .u8 (y : Int)) ++ [.int .u8 ((v : Int) / 256), .int .u8 ((v : Int) % 256)] = (l ++ [v / 256, v % 256]).map (fun y : Nat => Value.int .u8 (y : Int)) := by
  simp

theorem word_Bytes (a : Option Addr) (ws : List Nat) (cap : Nat) (w : World) (hl : ws.length ≤ 1000000) (ha : NatsAt .u16 w a ws) (hx : ∀ x ∈ ws, x < 65536) :
    Calls Try.prog 58 #[.slice a ws.length cap] w (GivesNats .u8 (bytesOf ws) w) := by
  obtain ⟨i0, hi, hz0, hz1, hz2⟩ := info_parts info_u8
  go_enter Try.func58, Try.ntmps58
  go_wp2_with (first
    | (at_make; refine wpList_make_own _ rfl _ _ 52 rfl w.heap.size 5 i0 (.int .u8 0) 1 Try.underlying52 hi hz0 hz1 .i64 .i64 _ (2 * ws.length) rfl rfl (by omega) ?c1 ?c2 ?c3 ?_))
  case c1 => rw [hz2]; omega
  case c2 => unfold maxLen; omega
  case c3 => omega
  intro w1 hown hg
  have hbel := (Below.refl w.heap.size w).grown hg (Nat.le_refl _) (fun k hk => by cases hk)
  clear hg
  go_wp2
  go_loopw [3, 5, 12] (fun v _ c wr => ∃ k : Nat, k ≤ ws.length ∧ c = .int .i64 k ∧ wr.ownsRow w.heap.size 5 1 v (2 * k) ((bytesOf (ws.take k)).map fun x : Nat => Value.int .u8 (x : Int)) ∧ Below w.heap.size w wr) (fun _ _ c _ => ws.length - (intOf c).toNat)
  case atStart => exact ⟨0, by omega, rfl, hown, hbel⟩
  case round =>
    obtain ⟨k, hk, rfl, hownr, hw⟩ := hrel
    by_cases hlt : k < ws.length
    · obtain ⟨b, off, rfl, hc⟩ := (ha.later hw).some hlt
      have c1 := hc k hlt
      clear hc
      have x1 := hx _ (List.getElem_mem hlt)
      have hA := Lib.hid (take_succ_bytes ws k hlt)
      generalize ws[k] = x at *
      have e1 := (bytes_word x x1).1
      have e2 := (bytes_word x x1).2
      go_wp2_with (first
        | (at_builtin; refine wpList_append_own _ rfl (.tmp 16) (.tmp 22) 52 rfl w.heap.size 5 i0 (.int .u8 0) 1 1 Try.underlying52 hi hz0 hz1 hz2 rfl (by decide) _ _ _ rfl (hownr.alloc _) ⟨wr.heap.size, 0, none⟩ 2 2 [.int .u8 ((x : Int) / 256), .int .u8 ((x : Int) % 256)] rfl rfl ?c1 ?c2 ?c3 ?c4 ?c5 ?_))
      case c1 => exact World.news_of_block (cs := #[.int .u8 ((x : Int) / 256), .int .u8 ((x : Int) % 256)]) (t := 5) (fr := (0, 0)) (heap_alloc_new wr _)
      case c2 => simp [Value.oneCell']
      case c3 => unfold maxLen; omega
      case c4 => omega
      case c5 => have := hw.size; simp; omega
      intro v' w2 hown2 hgrow _h3
      have hB := (hw.alloc hw.size (.cells #[.int .u8 ((x : Int) / 256), .int .u8 ((x : Int) % 256)] 5)).grown hgrow (by have := hw.size; simp; omega) (fun j hj => (hownr.lt j hj).1)
      rw [map_two, ← hA.out, show 2 * k + 2 = 2 * (k + 1) by omega] at hown2
      clear hgrow _h3 hownr c1
      go_wp2
      go_roundw
      case rel => exact ⟨k + 1, by omega, by go_num, hown2, hB⟩
      case measure => simp [intOf]; omega
    · have hkn : k = ws.length := by omega
      have hG : ∃ a2 cap2, u3 = .slice a2 (bytesOf ws).length cap2 ∧ NatsAt .u8 wr a2 (bytesOf ws) := by
        subst hkn
        rw [List.take_length] at hownr
        exact (NatsAt.of_row hownr).2
      obtain ⟨a2, cap2, rfl, hn⟩ := hG
      have HG : Hid (GivesNats .u8 (bytesOf ws) w (.returned (.slice a2 (bytesOf ws).length cap2)) wr) := Lib.hid ⟨a2, cap2, rfl, hn, hw⟩
      clear hkn hn hownr ha hx hown
      go_wp2
      go_ret
      exact HG.out

theorem ref01_Bytes (a : Option Addr) (ws : List Nat) (cap : Nat) (w : World) (hl : ws.length ≤ 1000000) (ha : NatsAt .u16 w a ws) (hx : ∀ x ∈ ws, x < 65536) :
    Calls Try.prog 60 #[.slice a ws.length cap] w (GivesNats .u8 (bytesOf ws) w) := by
  obtain ⟨i0, hi, hz0, hz1, hz2⟩ := info_parts info_u8
  go_enter Try.func60, Try.ntmps60
  go_wp2
  go_loopw [3, 5, 8] (fun v _ c wr => ∃ k : Nat, k ≤ ws.length ∧ c = .int .i64 k ∧ wr.ownsRow w.heap.size 5 1 v (2 * k) ((bytesOf (ws.take k)).map fun x : Nat => Value.int .u8 (x : Int)) ∧ Below w.heap.size w wr) (fun _ _ c _ => ws.length - (intOf c).toNat)
  case atStart => exact ⟨0, by omega, rfl, World.ownsRow_nil _ _ _ _, Below.refl _ _⟩
  case round =>
    obtain ⟨k, hk, rfl, hownr, hw⟩ := hrel
    by_cases hlt : k < ws.length
    · obtain ⟨b, off, rfl, hc⟩ := (ha.later hw).some hlt
      have c1 := hc k hlt
      clear hc
      have x1 := hx _ (List.getElem_mem hlt)
      have hA := Lib.hid (take_succ_bytes ws k hlt)
      generalize ws[k] = x at *
      have e1 := (bytes_word x x1).1
      have e2 := (bytes_word x x1).2
      go_wp2_with (first
        | (at_builtin; refine wpList_append_own _ rfl (.tmp 12) (.tmp 18) 52 rfl w.heap.size 5 i0 (.int .u8 0) 1 1 Try.underlying52 hi hz0 hz1 hz2 rfl (by decide) _ _ _ rfl (hownr.alloc _) ⟨wr.heap.size, 0, none⟩ 2 2 [.int .u8 ((x : Int) / 256), .int .u8 ((x : Int) % 256)] rfl rfl ?c1 ?c2 ?c3 ?c4 ?c5 ?_))
      case c1 => exact World.news_of_block (cs := #[.int .u8 ((x : Int) / 256), .int .u8 ((x : Int) % 256)]) (t := 5) (fr := (0, 0)) (heap_alloc_new wr _)
      case c2 => simp [Value.oneCell']
      case c3 => unfold maxLen; omega
      case c4 => omega
      case c5 => have := hw.size; simp; omega
      intro v' w2 hown2 hgrow _h3
      have hB := (hw.alloc hw.size (.cells #[.int .u8 ((x : Int) / 256), .int .u8 ((x : Int) % 256)] 5)).grown hgrow (by have := hw.size; simp; omega) (fun j hj => (hownr.lt j hj).1)
      rw [map_two, ← hA.out, show 2 * k + 2 = 2 * (k + 1) by omega] at hown2
      clear hgrow _h3 hownr c1
      go_wp2
      go_roundw
      case rel => exact ⟨k + 1, by omega, by go_num, hown2, hB⟩
      case measure => simp [intOf]; omega
    · have hkn : k = ws.length := by omega
      have hG : ∃ a2 cap2, u3 = .slice a2 (bytesOf ws).length cap2 ∧ NatsAt .u8 wr a2 (bytesOf ws) := by
        subst hkn
        rw [List.take_length] at hownr
        exact (NatsAt.of_row hownr).2
      obtain ⟨a2, cap2, rfl, hn⟩ := hG
      have HG : Hid (GivesNats .u8 (bytesOf ws) w (.returned (.slice a2 (bytesOf ws).length cap2)) wr) := Lib.hid ⟨a2, cap2, rfl, hn, hw⟩
      clear hkn hn hownr ha hx
      go_wp2
      go_ret
      exact HG.out

end Go.Proofs.Ythajndgljfbifaa
