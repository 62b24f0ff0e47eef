/-
  A program in memory, whole; what the deck gives: a good program.
-/
import Derived.Test.YthajndgljfbifaaPgm
import Derived.Test.YthajndgljfbifaaDeckProg
namespace Go.Proofs.Ythajndgljfbifaa
open Go.RowKit
set_option maxRecDepth 100000

/-- A program in memory. -/
structure PgAt (W : World) (ac a2 ad : Option Addr) (C : List Ins) (s : List Int) (L : List (List Nat)) : Prop where
  code : CodeAt W ac C
  sizes : IntsAt .i64 W a2 s
  data : DatAt W ad L

theorem PgAt.later {W W' : World} {ac a2 ad : Option Addr} {C : List Ins} {s : List Int} {L : List (List Nat)} (h : PgAt W ac a2 ad C s L) (hb : Below W.heap.size W W') : PgAt W' ac a2 ad C s L := ⟨h.code.later hb, ints_later7 h.sizes hb, h.data.later hb⟩

/-- A good program: its words are words. -/
def GoodU (C : List Ins) (s : List Int) (L : List (List Nat)) : Prop := GoodPg C s L ∧ ∀ l ∈ L, ∀ v ∈ l, v < 65536

theorem GoodU.lens {C : List Ins} {s : List Int} {L : List (List Nat)} (h : GoodU C s L) : C.length ≤ 64 ∧ s.length ≤ 4 ∧ L.length ≤ 4 ∧ ∀ l ∈ L, l.length ≤ 32 := by
  have hv : 1 ≤ s.length ∧ s.length ≤ 4 ∧ ∀ x ∈ s, 1 ≤ x ∧ x ≤ 32 := of_decide_eq_true h.1.1
  have hl := h.1.2.1
  refine ⟨h.1.2.2.2.1, hv.2.1, by omega, fun l hm => ?_⟩
  obtain ⟨i, hi, rfl⟩ := List.mem_iff_getElem.1 hm
  have h3 := h.1.2.2.2.2.1 i hi (by omega)
  have h4 := hv.2.2 s[i] (List.getElem_mem _)
  omega

theorem prog_in2 (D : Nat) (w : World) (hd : Deck w D) :
    Calls Try.prog 12 #[.pointer (some ⟨D, 0, none⟩)] w fun e w' => ∃ ac a2 ad cc c2 cd C s L, e = .returned (.agg #[.slice ac C.length cc, .slice a2 s.length c2, .slice ad L.length cd]) ∧ GoodU C s L ∧ PgAt w' ac a2 ad C s L ∧ w.grownBy w' (some D) ∧ L.length ≤ cd := by
  refine (deck_Program D w hd).mono ?_
  rintro e w' ⟨ac, cc, C, a2, c2, s, ad, cd, L, lo, hi, rfl, hz, hl, hfit, h1, h64, _, _, hx, hn, hr, hdc, _, _, hg, hcd⟩
  refine ⟨ac, a2, ad, cc, c2, cd, C, s.map (fun x : Nat => (x : Int)), L, by rw [List.length_map], ⟨⟨?_, ?_, h1, h64, ?_, ?_⟩, hdc.1⟩, ⟨?_, ?_, ?_⟩, hg, hcd⟩
  · refine decide_eq_true ⟨by rw [List.length_map]; exact hz.1, by rw [List.length_map]; exact hz.2.1, fun x hx2 => ?_⟩
    obtain ⟨y, hy, rfl⟩ := List.mem_map.1 hx2
    have := hz.2.2 y hy
    omega
  · rw [List.length_map]; exact hl
  · intro i h h2
    have h3 : i < s.length := by simpa using h2
    have := hfit i h h3
    rw [List.getElem_map]
    omega
  · intro i h
    have hin := hx _ (List.getElem_mem h)
    rw [List.length_map]
    refine ⟨(vinB_iff _).2 ?_, fun hj => ?_, fun h15 => ?_⟩
    · obtain ⟨a1, a2, a3, a4, a5, a6, a7, a8, a9, a10, b1, b2, b3, b4, b5, b6, b7⟩ := hin
      have hs4 := hz.2.1
      exact ⟨a1, a2, a3, a4, a5, a6, a7, a8, a9, a10, b1, b2, b3, b4, fun hj => by have := b5 hj; omega, fun h => by have := b6 h; omega, b7⟩
    · exact hin.2.2.2.2.2.2.2.2.2.2.2.2.2.2.1 hj
    · exact hin.2.2.2.2.2.2.2.2.2.2.2.2.2.2.2.1 h15
  · rcases hr with h0 | ⟨b, off, ha, _, hc⟩
    · exact .inl (by have := congrArg List.length h0; rw [length_insRows] at this; exact List.eq_nil_of_length_eq_zero this)
    · refine .inr ⟨b, off, ha, fun i h => ?_⟩
      have hi : i < (insRows C).length := by rw [length_insRows]; exact h
      have k := fun j hj => hc i hi j hj
      have e : (insRows C)[i] = insRow C[i] := by simp [insRows]
      rw [e] at k
      exact ⟨(k 0 (by omega)).trans rfl, (k 1 (by omega)).trans rfl, (k 2 (by omega)).trans rfl, (k 3 (by omega)).trans rfl, (k 4 (by omega)).trans rfl⟩
  · rcases hn with h0 | ⟨b, off, ha, _, hc⟩
    · exact .inl (by rw [h0]; rfl)
    · refine .inr ⟨b, off, ha, fun i h => ?_⟩
      have h3 : i < s.length := by simpa using h
      rw [hc i h3, List.getElem_map]
  · rcases hdc.2 with h0 | ⟨b, off, ha, _, _, hc⟩
    · exact .inl h0
    · refine .inr ⟨b, off, ha, fun i h => ?_⟩
      obtain ⟨a, c, q1, q2⟩ := hc i h
      refine ⟨a, c, q1, ?_⟩
      rcases q2 with q | ⟨b2, o2, e, _, _, k⟩
      · exact .inl q
      · exact .inr ⟨b2, o2, e, k⟩
theorem prog_in (D : Nat) (w : World) (hd : Deck w D) :
    Calls Try.prog 12 #[.pointer (some ⟨D, 0, none⟩)] w fun e w' => ∃ ac a2 ad cc c2 cd C s L, e = .returned (.agg #[.slice ac C.length cc, .slice a2 s.length c2, .slice ad L.length cd]) ∧ GoodU C s L ∧ PgAt w' ac a2 ad C s L ∧ w.grownBy w' (some D) := by
  refine (prog_in2 D w hd).mono ?_
  rintro e w' ⟨ac, a2, ad, cc, c2, cd, C, s, L, h1, h2, h3, h4, _⟩
  exact ⟨ac, a2, ad, cc, c2, cd, C, s, L, h1, h2, h3, h4⟩
end Go.Proofs.Ythajndgljfbifaa
