/-
  Contracts of the deck: Word.
-/
import Derived.Test.YthajndgljfbifaaOpen
import Derived.Test.YthajndgljfbifaaDeckNext
import Derived.WalkSmall
import Derived.OwnWalk
namespace Go.Proofs.Ythajndgljfbifaa
open Go.RowKit
set_option maxRecDepth 100000

/-- The call gives some word and writes to the deck alone. -/
def GivesWord (D : Nat) (w : World) (e : Ending) (w' : World) : Prop :=
  ∃ v : Nat, v < 65536 ∧ e = .returned (.int .u16 (v : Int)) ∧ Deck w' D ∧ w.grownBy w' (some D)

theorem wrap_word (r : Nat) (h : r < 65536) : IntKind.u16.wrap (r : Int) = (r : Int) := by rw [IntKind.wrap_u16]; omega

theorem wrap_back (r : Nat) (h : r < 3) : IntKind.u16.wrap (65535 - (r : Int)) = 65535 - (r : Int) := by rw [IntKind.wrap_u16]; omega

theorem deck_Word (D : Nat) (w : World) (hd : Deck w D) :
    Calls Try.prog 79 #[.pointer (some ⟨D, 0, none⟩)] w (GivesWord D w) := by
  have hN := Lib.hid (fun n W (h : Deck W D) (h1 : 1 ≤ n) (h2 : n ≤ 4000000000) => deck_Next D n W h h1 h2)
  go_enter Try.func79, Try.ntmps79
  go_wp2_with (first
    | (go_at_call 36; (with_reducible refine (hN.out 5 _ hd (by omega) (by omega)).mono ?_); rintro e w1 ⟨r, hr, rfl, hd1, hg1⟩)
    | (go_at_call 36; (with_reducible refine (hN.out 8 _ hd1 (by omega) (by omega)).mono ?_); rintro e w2 ⟨s, hs, rfl, hd2, hg2⟩; have hw := wrap_word s (by omega))
    | (go_at_call 36; (with_reducible refine (hN.out 3 _ hd1 (by omega) (by omega)).mono ?_); rintro e w2 ⟨s, hs, rfl, hd2, hg2⟩; have hw := wrap_back s (by omega))
    | (go_at_call 36; (with_reducible refine (hN.out 65536 _ hd1 (by omega) (by omega)).mono ?_); rintro e w2 ⟨s, hs, rfl, hd2, hg2⟩; have hw := wrap_word s (by omega)))
  all_goals go_ret
  all_goals first
    | exact ⟨s, by omega, rfl, hd2, grownBy_trans hg1 hg2⟩
    | exact ⟨65535 - s, by omega, ret_int (by omega), hd2, grownBy_trans hg1 hg2⟩
end Go.Proofs.Ythajndgljfbifaa
