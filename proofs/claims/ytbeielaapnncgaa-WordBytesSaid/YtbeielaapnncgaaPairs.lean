/-
  WordPairs: for every list of bytes the law returns true.
-/
import Derived.Test.YtbeielaapnncgaaLists2
import Derived.Test.YtbeielaapnncgaaOpen
import Derived.ProofKit
import Derived.OpenShut
import Derived.Laws.IdiomStrings
import Derived.Laws.BytesArg
namespace Go.Proofs.Ytbeielaapnncgaa
open Go.RowKit Go.ChangeShapes Go.WideShapes Go.ChangeAt

/-- Bytes as a string. -/
def strOf (xs : List Nat) : ByteArray := ⟨(xs.map UInt8.ofNat).toArray⟩

theorem conv_of {w : World} {a : Option Addr} {xs : List Nat} (h : NatsAt .u8 w a xs) (hx : ∀ x ∈ xs, x < 256) (n cap : Nat) (hn : n = xs.length) :
    (convert 43 9 (.slice a n cap)).run Try.prog w = .ok (.string (strOf xs)) w := by
  subst hn
  cases a with
  | none =>
    have hx : xs = [] := by
      rcases h with h | ⟨b, off, ha, _⟩
      · exact h
      · cases ha
    subst hx
    exact run_convert_bytes_nil w 43 5 Try.underlying43 Try.underlying5 _ _ _ Try.underlying9
  | some ad =>
    have hlen : (xs.map UInt8.ofNat).length = xs.length := by simp
    have := run_convert_bytes_back (P := Try.prog) w 43 9 5 ad cap (xs.map UInt8.ofNat) Try.underlying43 Try.underlying5 Try.underlying9 (by
      intro j hj
      have hj2 : j < xs.length := by simpa using hj
      obtain ⟨b, off, he, hc⟩ := h.some hj2
      cases he
      have := hc j hj2
      have hlt := hx _ (List.getElem_mem hj2)
      rw [show (⟨b, off, none⟩ : Addr).add j = ⟨b, off + j, none⟩ by unfold Addr.add; split <;> simp_all, this]
      simp
      omega)
    rw [hlen] at this
    exact this

/-- The call returns new bytes that are the string s. -/
def GivesStr (s : ByteArray) (w : World) (e : Ending) (w' : World) : Prop :=
  ∃ a n cap, e = .returned (.slice a n cap) ∧ (convert 43 9 (.slice a n cap)).run Try.prog w' = .ok (.string s) w' ∧ Below w.heap.size w w'

theorem bytes_str (a : Option Addr) (ws : List Nat) (cap : Nat) (w : World) (hl : ws.length ≤ 1000000) (ha : NatsAt .u16 w a ws) (hx : ∀ x ∈ ws, x < 65536) :
    Calls Try.prog 26 #[.slice a ws.length cap] w (GivesStr (strOf (bytesOf ws)) w) :=
  (bytes_any a ws cap w hl ha hx).mono fun _ _ ⟨a2, c2, he, hn, hb⟩ => ⟨a2, _, c2, he, conv_of hn (bytesOf_lt ws hx) _ _ rfl, hb⟩

theorem rbytes_str (a : Option Addr) (ws : List Nat) (cap : Nat) (w : World) (hl : ws.length ≤ 1000000) (ha : NatsAt .u16 w a ws) (hx : ∀ x ∈ ws, x < 65536) :
    Calls Try.prog 27 #[.slice a ws.length cap] w (GivesStr (strOf (bytesOf ws)) w) :=
  (rbytes_any a ws cap w hl ha hx).mono fun _ _ ⟨a2, c2, he, hn, hb⟩ => ⟨a2, _, c2, he, conv_of hn (bytesOf_lt ws hx) _ _ rfl, hb⟩

namespace wordPairsLaw

set_option maxHeartbeats 1000000 in
theorem core (a : Option Addr) (xs : List Nat) (cap : Nat) (w : World) (ha : NatsAt .u8 w a xs) (hx : ∀ x ∈ xs, x < 256) :
    Calls Try.prog 8 #[.slice a xs.length cap] w fun e w' => e = .returned (.bool true) ∧ Below w.heap.size w w' := by
  by_cases hl : 400 < xs.length
  · go_enter Try.func8, Try.ntmps8
    go_wp2_with (go_at_call 16; (with_reducible refine (awake_any _).mono ?_); rintro e w' ⟨rfl, hb5⟩)
    go_ret
    exact ⟨rfl, hb5⟩
  · rcases Nat.mod_two_eq_zero_or_one xs.length with he | ho
    · have h1 : ((xs.length : Int) % 2 == 1) = false := by rw [beq_eq_false_iff_ne]; omega
      have hWs := Lib.hid (words_any a xs cap w he (by omega) ha hx)
      have hws := wordsOf_lt xs hx
      have hbs := bytes_words xs hx he
      have hll := length_wordsOf xs
      generalize wordsOf xs = ws at *
      have hBs := Lib.hid (fun a2 cap2 W (h : NatsAt .u16 W a2 ws) => bytes_str a2 ws cap2 W (by omega) h hws)
      rw [hbs] at hBs
      have h2 : (2 * (ws.length : Int) == (xs.length : Int)) = true := by rw [beq_iff_eq]; omega
      have h3 : IntKind.i64.wrap (2 * (ws.length : Int)) = 2 * (ws.length : Int) := IntWalk.i64_in _ (by omega)
      clear hbs hll he hws
      go_enter Try.func8, Try.ntmps8
      go_wp2_with (first
        | (go_at_call 24; (with_reducible refine hWs.out.mono ?_); rintro e w1 ⟨a2, cap2, rfl, hN, hb1⟩))
      have ha1 := ha.later hb1
      go_region_held (fun w' => (convert 43 9 (.slice a xs.length cap)).run Try.prog w' = .ok (.string (strOf xs)) w' ∧ Below w1.heap.size w1 w')
        (first
          | exact ⟨conv_of (ha1.later (Below.refl _ _).drew) hx _ _ rfl, (Below.refl _ _).drew⟩
          | assumption
          | (go_split_ands; exact ⟨conv_of (ha1.later (Below.trans (by assumption) (hb5.mono (Below.size (by assumption))))) hx _ _ rfl, Below.trans (by assumption) (hb5.mono (Below.size (by assumption)))⟩))
        (first
          | (go_at_call 26; go_split_ands; refine (hBs.out _ _ _ (hN.later (by assumption))).mono ?_; rintro e w' ⟨a3, n3, c3, rfl, hcv, hb5⟩)
          | (go_at_call 16; (with_reducible refine (awake_any _).mono ?_); rintro e w' ⟨rfl, hb5⟩))
      go_wp2
      go_ret
      go_split_ands
      exact ⟨rfl, hb1.trans (Below.mono (by assumption) hb1.size)⟩
    · have h1 : ((xs.length : Int) % 2 == 1) = true := by rw [beq_iff_eq]; omega
      have hWs := Lib.hid (words_odd a xs cap w ho (by omega))
      clear ho
      go_enter Try.func8, Try.ntmps8
      go_wp2_with (first
        | (go_at_call 24; (with_reducible refine hWs.out.mono ?_); rintro e w1 ⟨rfl, rfl⟩)
        | (go_at_call 16; (with_reducible refine (awake_any _).mono ?_); rintro e w' ⟨rfl, hb5⟩))
      go_ret
      exact ⟨rfl, hb5⟩

theorem walk {H : Type} (enc : TypeId × Value → H) (W : World) (base : Nat) (v0 : Value) (d0 : DataW H) (p0 : List MemPlace) (o0 : Value.okWide Try.prog W .any base 43 v0) (h0 : DataW.Trod enc Try.prog W 0 (fun _ => true) true 43 v0 d0 p0) :
    Calls Try.prog 8 #[v0] W fun e w' => e = .returned (.bool true) ∧ Below W.heap.size W w' := by
  obtain ⟨a, xs, cap, rfl, ha, hx, _⟩ := open_bytes o0 h0
  exact core a xs cap W ha hx

end wordPairsLaw
end Go.Proofs.Ytbeielaapnncgaa
