/-
  WordBytes: for every list of words and every list of bytes the law returns true.
-/
import Derived.Test.YtbeielaapnncgaaCells4
import Derived.Test.YtbeielaapnncgaaPairs
import Derived.Deep.RegionHeldLaw
namespace Go.Proofs.Ytbeielaapnncgaa.wordBytesLaw
open Go.RowKit Go.ChangeShapes Go.WideShapes Go.ChangeAt

theorem long (a b : Option Addr) (ws xs : List Nat) (ca cb : Nat) (w : World) (h : 200 < ws.length ∨ 400 < xs.length) :
    Calls Try.prog 5 #[.slice a ws.length ca, .slice b xs.length cb] w fun e w' => e = .returned (.bool true) ∧ Below w.heap.size w w' := by
  by_cases h1 : 200 < ws.length
  · go_enter Try.func5, Try.ntmps5
    go_wp2_with (go_at_call 16; (with_reducible refine (awake_any _).mono ?_); rintro e w' ⟨rfl, hb5⟩)
    go_ret
    exact ⟨rfl, hb5⟩
  · have h2 : 400 < xs.length := by omega
    go_enter Try.func5, Try.ntmps5
    go_wp2_with (go_at_call 16; (with_reducible refine (awake_any _).mono ?_); rintro e w' ⟨rfl, hb5⟩)
    go_ret
    exact ⟨rfl, hb5⟩

/-- The call returns a new list of words and an error number. -/
def GivesWordsE (xs : List Nat) (err : Int) (w : World) (e : Ending) (w' : World) : Prop :=
  ∃ a cap, e = .returned (.tuple #[.slice a xs.length cap, .int .i64 err]) ∧ NatsAt .u16 w' a xs ∧ Below w.heap.size w w'

set_option maxHeartbeats 4000000 in
theorem core (a b : Option Addr) (ws xs us : List Nat) (err : Int) (ca cb : Nat) (w : World) (h1 : ws.length ≤ 200) (h2 : xs.length ≤ 400) (ha : NatsAt .u16 w a ws) (hb : NatsAt .u8 w b xs) (hws : ∀ x ∈ ws, x < 65536)
    (hX : Hid (Calls Try.prog 24 #[.slice b xs.length cb] w (GivesWordsE us err w)))
    (hY : Hid (∀ W, NatsAt .u8 W b xs → Calls Try.prog 25 #[.slice b xs.length cb] W (GivesWordsE us err W))) (hl : us.length ≤ 1000000) :
    Calls Try.prog 5 #[.slice a ws.length ca, .slice b xs.length cb] w fun e w' => e = .returned (.bool true) ∧ Below w.heap.size w w' := by
  have hlb := length_bytesOf ws
  have hB := Lib.hid (fun W (h : NatsAt .u16 W a ws) => bytes_any a ws ca W (by omega) h hws)
  have hRB := Lib.hid (fun W (h : NatsAt .u16 W a ws) => rbytes_any a ws ca W (by omega) h hws)
  have hbl := bytesOf_lt ws hws
  have hZ := Lib.hid (fun a c W (h : NatsAt .u8 W a (bytesOf ws)) => words_any a (bytesOf ws) c W (by omega) (by omega) h hbl)
  rw [words_bytes] at hZ
  have hcv := Lib.hid (fun a c W (h : NatsAt .u8 W a (bytesOf ws)) => conv_of h hbl (bytesOf ws).length c rfl)
  generalize strOf (bytesOf ws) = str at *
  generalize bytesOf ws = bs at *
  have hN := Lib.hid (fun W (h : NatsAt .u16 W a ws) => numbers_any a ws ca W (by omega) h)
  have hRN := Lib.hid (fun W (h : NatsAt .u16 W a ws) => rnumbers_any a ws ca W (by omega) h)
  have hln : (numsOf ws).length ≤ 1000000 := by simp [numsOf]; omega
  generalize numsOf ws = ns at *
  clear hlb hbl hws
  go_enter Try.func5, Try.ntmps5
  go_wp2_with (first
    | (go_at_call 24; (with_reducible refine hX.out.mono ?_); rintro e w1 ⟨a1, c1, rfl, hN1, hb1⟩)
    | (go_at_call 25; (with_reducible refine (hY.out _ (hb.later hb1)).mono ?_); rintro e w2 ⟨a2, c2, rfl, hN2, hb2⟩; have hb12 := hb1.trans (hb2.mono hb1.size))
    | (go_at_call 26; (with_reducible refine (hB.out _ (ha.later hb12)).mono ?_); rintro e w3 ⟨a3, c3, rfl, hN3, hb3⟩)
    | (go_at_call 24; (with_reducible refine (hZ.out _ _ _ hN3).mono ?_); rintro e w4 ⟨a4, c4, rfl, hN4, hb4⟩))
  have A4 := ha.later (((hb12.trans (hb3.mono hb12.size)).trans (hb4.mono (Nat.le_trans hb12.size hb3.size))))
  have X4 := hN1.later ((hb2.trans (hb3.mono hb2.size)).trans (hb4.mono (Nat.le_trans hb2.size hb3.size)))
  have Y4 := hN2.later (hb3.trans (hb4.mono hb3.size))
  have B4 : Below w.heap.size w w4 := ((hb12.trans (hb3.mono hb12.size)).trans (hb4.mono (Nat.le_trans hb12.size hb3.size)))
  have hS1 := Lib.hid (fun W (h : NatsAt .u16 W a1 us) (h' : NatsAt .u16 W a2 us) => samewords_any a1 a2 us us c1 c2 W h h' hl hl)
  have hS2 := Lib.hid (fun W (h : NatsAt .u16 W a4 ws) (h' : NatsAt .u16 W a ws) => samewords_any a4 a ws ws c4 ca W h h' (by omega) (by omega))
  have hS3 := Lib.hid (fun a5 a6 c5 c6 W (h : CellsAt W a5 ns) (h' : CellsAt W a6 ns) => rsame_any a5 a6 ns ns c5 c6 W h h' hln hln)
  clear hb12 hb3 hb4 hb1 hb2 ha hb hN1 hN2 hN3 hX hY hZ
  go_region_held (fun w' => Below w4.heap.size w4 w')
    (first
      | exact (Below.refl _ _).drew
      | assumption
      | exact Below.trans (by assumption) (hb5.mono (Below.size (by assumption))))
    (first
      | (go_at_call 26; refine (hB.out _ (A4.later (by assumption))).mono ?_; rintro e w' ⟨a5, c5, rfl, hN5, hb5⟩; have hcv5 := hcv.out _ c5 _ hN5)
      | (go_at_call 27; refine (hRB.out _ (A4.later (by assumption))).mono ?_; rintro e w' ⟨a6, c6, rfl, hN6, hb5⟩; have hcv6 := hcv.out _ c6 _ hN6; have hcv5' := hcv.out _ c5 _ (hN5.later hb5))
      | (go_at_call 28; (with_reducible refine (hS1.out _ (X4.later (by assumption)) (Y4.later (by assumption))).mono ?_); rintro e w' ⟨rfl, hb5⟩)
      | (go_at_call 28; (with_reducible refine (hS2.out _ (hN4.later (by assumption)) (A4.later (by assumption))).mono ?_); rintro e w' ⟨rfl, hb5⟩)
      | (go_at_call 29; refine (hN.out _ (A4.later (by assumption))).mono ?_; rintro e w' ⟨a7, c7, rfl, hC7, hb5⟩)
      | (go_at_call 30; refine (hRN.out _ (A4.later (by assumption))).mono ?_; rintro e w' ⟨a8, c8, rfl, hC8, hb5⟩; have hC7' := hC7.later hb5)
      | (go_at_call 23; (with_reducible refine (hS3.out _ _ _ _ _ hC7' hC8).mono ?_); rintro e w' ⟨rfl, hb5⟩)
      | (go_at_call 16; (with_reducible refine (awake_any _).mono ?_); rintro e w' ⟨rfl, hb5⟩))
  all_goals
    go_wp2
    go_ret
    exact ⟨rfl, B4.trans (Below.mono (by assumption) B4.size)⟩

theorem walk {H : Type} (enc : TypeId × Value → H) (W : World) (base : Nat) (v0 : Value) (d0 : DataW H) (p0 : List MemPlace) (o0 : Value.okWide Try.prog W .any base 42 v0) (h0 : DataW.Trod enc Try.prog W 0 (fun _ => true) true 42 v0 d0 p0)
    (v1 : Value) (d1 : DataW H) (p1 : List MemPlace) (o1 : Value.okWide Try.prog W .any base 43 v1) (h1 : DataW.Trod enc Try.prog W 0 (fun _ => true) true 43 v1 d1 p1) :
    Calls Try.prog 5 #[v0, v1] W fun e w' => e = .returned (.bool true) ∧ Below W.heap.size W w' := by
  obtain ⟨a, ws, ca, rfl, ha, hws, _⟩ := open_words o0 h0
  obtain ⟨b, xs, cb, rfl, hb, hxs, _⟩ := open_bytes o1 h1
  by_cases hl : 200 < ws.length ∨ 400 < xs.length
  · exact long a b ws xs ca cb W hl
  · rcases Nat.mod_two_eq_zero_or_one xs.length with he | ho
    · exact core a b ws xs (wordsOf xs) 0 ca cb W (by omega) (by omega) ha hb hws
        (words_any b xs cb W he (by omega) hb hxs) (fun W' h => rwords_any b xs cb W' he (by omega) h hxs) (by rw [length_wordsOf]; omega)
    · exact core a b ws xs [] 5 ca cb W (by omega) (by omega) ha hb hws
        ((words_odd b xs cb W ho (by omega)).mono fun e w' ⟨he, hw⟩ => ⟨none, 0, he, .inl rfl, hw ▸ Below.refl _ _⟩)
        (fun W' _ => (rwords_odd b xs cb W' ho (by omega)).mono fun e w' ⟨he, hw⟩ => ⟨none, 0, he, .inl rfl, hw ▸ Below.refl _ _⟩) (by simp)

end Go.Proofs.Ytbeielaapnncgaa.wordBytesLaw
