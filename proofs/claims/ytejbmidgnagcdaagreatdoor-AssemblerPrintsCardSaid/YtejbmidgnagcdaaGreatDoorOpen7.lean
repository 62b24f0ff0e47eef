/-
  A program that came in by value, opened.
-/
import Derived.Test.YtejbmidgnagcdaaGreatDoorPg7
import Derived.Test.YtejbmidgnagcdaaGreatDoorOpen2
namespace Go.Proofs.YtejbmidgnagcdaaGreatDoor
open Go.RowKit Go.ChangeShapes Go.WideShapes Go.ChangeAt Go.Deep
set_option maxRecDepth 100000

theorem list_any {α : Type} (n : Nat) (P : Nat → α → Prop) (h : ∀ i, i < n → ∃ x, P i x) : ∃ xs : List α, xs.length = n ∧ ∀ i (hi : i < xs.length), P i xs[i] := by
  induction n with
  | zero => exact ⟨[], rfl, fun i hi => by simp at hi⟩
  | succ n ih =>
    obtain ⟨xs, hl, hx⟩ := ih (fun i hi => h i (by omega))
    obtain ⟨x, hxn⟩ := h n (by omega)
    refine ⟨xs ++ [x], by simp [hl], fun i hi => ?_⟩
    by_cases e : i < xs.length
    · rw [List.getElem_append_left e]; exact hx i e
    · have e2 : i = n := by simp at hi; omega
      subst e2
      rw [List.getElem_append_right (by omega)]
      simpa using hxn

theorem trod_five {H : Type} {enc : TypeId × Value → H} {P : Program} {w : World} {base : Nat} {spare : Nat → Bool} {held : Bool} {t : TypeId} {f0 f1 f2 f3 f4 : Field} {fuel : Nat} {cs : List Value} {x : DataW H × List MemPlace}
    (ht : P.underlying t = some (.struct #[f0, f1, f2, f3, f4])) (h : DataW.trod enc P w base spare held fuel t cs = some x) :
    ∃ y0 y1 y2 y3 y4 n, cs.length = P.cellsOf t ∧ DataW.trod enc P w base spare held n f0.type ((cs.drop f0.offset).take (P.cellsOf f0.type)) = some y0 ∧
      DataW.trod enc P w base spare held n f1.type ((cs.drop f1.offset).take (P.cellsOf f1.type)) = some y1 ∧ DataW.trod enc P w base spare held n f2.type ((cs.drop f2.offset).take (P.cellsOf f2.type)) = some y2 ∧
      DataW.trod enc P w base spare held n f3.type ((cs.drop f3.offset).take (P.cellsOf f3.type)) = some y3 ∧ DataW.trod enc P w base spare held n f4.type ((cs.drop f4.offset).take (P.cellsOf f4.type)) = some y4 := by
  obtain ⟨xs, n, _, rfl, hl, hlen, hf⟩ := DataW.trod_struct ht h
  match xs, hlen with
  | [y0, y1, y2, y3, y4], _ => exact ⟨y0, y1, y2, y3, y4, n, by simpa using hl, by simpa using hf 0 f0 rfl, by simpa using hf 1 f1 rfl, by simpa using hf 2 f2 rfl, by simpa using hf 3 f3 rfl, by simpa using hf 4 f4 rfl⟩

theorem trod_three {H : Type} {enc : TypeId × Value → H} {P : Program} {w : World} {base : Nat} {spare : Nat → Bool} {held : Bool} {t : TypeId} {f0 f1 f2 : Field} {fuel : Nat} {cs : List Value} {x : DataW H × List MemPlace}
    (ht : P.underlying t = some (.struct #[f0, f1, f2])) (h : DataW.trod enc P w base spare held fuel t cs = some x) :
    ∃ y0 y1 y2 n, DataW.trod enc P w base spare held n f0.type ((cs.drop f0.offset).take (P.cellsOf f0.type)) = some y0 ∧
      DataW.trod enc P w base spare held n f1.type ((cs.drop f1.offset).take (P.cellsOf f1.type)) = some y1 ∧ DataW.trod enc P w base spare held n f2.type ((cs.drop f2.offset).take (P.cellsOf f2.type)) = some y2 := by
  obtain ⟨xs, n, _, rfl, hl, hlen, hf⟩ := DataW.trod_struct ht h
  match xs, hlen with
  | [y0, y1, y2], _ => exact ⟨y0, y1, y2, n, by simpa using hf 0 f0 rfl, by simpa using hf 1 f1 rfl, by simpa using hf 2 f2 rfl⟩

theorem cellsOf_int7 : Tryz.prog.cellsOf 3 = 1 := by kernel_rfl
theorem cellsOf_ins7 : Tryz.prog.cellsOf 56 = 5 := by kernel_rfl
theorem cellsOf_words7 : Tryz.prog.cellsOf 48 = 1 := by kernel_rfl
theorem cellsOf_ints7 : Tryz.prog.cellsOf 23 = 1 := by kernel_rfl
theorem cellsOf_code7 : Tryz.prog.cellsOf 22 = 1 := by kernel_rfl
theorem cellsOf_data7 : Tryz.prog.cellsOf 24 = 1 := by kernel_rfl

theorem open_cellints {H : Type} {enc : TypeId × Value → H} {W : World} {n : Nat} {c : Value} {x : DataW H × List MemPlace} {T E : TypeId} {k : IntKind}
    (hT : Tryz.prog.underlying T = some (.slice E)) (hE : Tryz.prog.underlying E = some (.int k)) (hC : Tryz.prog.cellsOf E = 1) (h : DataW.trod enc Tryz.prog W 0 (fun _ => true) true n T [c] = some x) :
    ∃ a xs cap, c = .slice a xs.length cap ∧ IntsAt k W a xs ∧ (∀ x ∈ xs, (Lit.int k x).wf = true) := by
  rcases open_ints hT hE hC h with ⟨hcs, _⟩ | ⟨x, l, c, zs, hcs, _, hl, hm, hz, _, hcell, hwz⟩
  · simp at hcs
    subst hcs
    exact ⟨none, [], 0, rfl, .inl rfl, (by intro x hx; simp at hx)⟩
  · simp at hcs
    subst hcs
    have hz2 : zs.length = c := by simpa using hz
    have hlen : (zs.take l).length = l := by rw [List.length_take]; omega
    refine ⟨some x, zs.take l, c, by rw [hlen], ?_, fun y hy => hwz y (List.mem_of_mem_take hy)⟩
    by_cases h0 : l = 0
    · subst h0
      exact .inl (by simp)
    · obtain ⟨b, off, spot⟩ := x
      have hc := hcell 0 (by omega)
      have hspot : spot = none := by simpa [Addr.add] using World.cell?_spot hc
      subst hspot
      refine .inr ⟨b, off, rfl, fun i hi => ?_⟩
      have hi2 : i < zs.length := by omega
      have := hcell i hi2
      rw [List.getElem_take]
      have e : (⟨b, off, none⟩ : Addr).add i = ⟨b, off + i, none⟩ := by unfold Addr.add; split <;> simp_all
      rw [e, List.getD_eq_getElem?_getD, List.getElem?_eq_getElem hi2] at this
      exact this

theorem open_cellwords {H : Type} {enc : TypeId × Value → H} {W : World} {n : Nat} {c : Value} {x : DataW H × List MemPlace} (h : DataW.trod enc Tryz.prog W 0 (fun _ => true) true n 48 [c] = some x) :
    ∃ a xs cap, c = .slice a xs.length cap ∧ NatsAt .u16 W a xs ∧ ∀ x ∈ xs, x < 65536 := by
  obtain ⟨a, xs, cap, hv, hi, hw⟩ := open_cellints Tryz.underlying48 Tryz.underlying71 (by kernel_rfl) h
  have hb : ∀ x ∈ xs, 0 ≤ x ∧ x ≤ 65535 := fun x hx => by simpa [Lit.wf, IntKind.min, IntKind.max, IntKind.signed, IntKind.bits] using hw x hx
  refine ⟨a, xs.map Int.toNat, cap, by rw [List.length_map]; exact hv, nats_of hi (fun x hx => (hb x hx).1), ?_⟩
  intro y hy
  obtain ⟨x, hx, rfl⟩ := List.mem_map.1 hy
  have := hb x hx
  omega

theorem open_insC {H : Type} {enc : TypeId × Value → H} {W : World} {n : Nat} {cs : List Value} {x : DataW H × List MemPlace} (h : DataW.trod enc Tryz.prog W 0 (fun _ => true) true n 56 cs = some x) : ∃ y : Ins, cs = insRow y := by
  obtain ⟨y0, y1, y2, y3, y4, m, hl, h0, h1, h2, h3, h4⟩ := trod_five Tryz.underlying56 h
  rw [cellsOf_ins7] at hl
  match cs, hl with
  | [c0, c1, c2, c3, c4], _ =>
    simp [cellsOf_int7] at h0 h1 h2 h3 h4
    obtain ⟨b0, e0, _, _⟩ := DataW.trod_int Tryz.underlying3 h0
    obtain ⟨b1, e1, _, _⟩ := DataW.trod_int Tryz.underlying3 h1
    obtain ⟨b2, e2, _, _⟩ := DataW.trod_int Tryz.underlying3 h2
    obtain ⟨b3, e3, _, _⟩ := DataW.trod_int Tryz.underlying3 h3
    obtain ⟨b4, e4, _, _⟩ := DataW.trod_int Tryz.underlying3 h4
    simp at e0 e1 e2 e3 e4
    subst e0 e1 e2 e3 e4
    exact ⟨⟨b0, b1, b2, b3, b4⟩, rfl⟩

theorem open_code {H : Type} {enc : TypeId × Value → H} {W : World} {n : Nat} {c : Value} {x : DataW H × List MemPlace} (h : DataW.trod enc Tryz.prog W 0 (fun _ => true) true n 22 [c] = some x) :
    ∃ a C cap, c = .slice a (List.length C) cap ∧ CodeAt W a C := by
  rcases open_slice Tryz.underlying22 h with ⟨hcs, _⟩ | ⟨x, l, c, m, n, D, Pl, hcs, _, hl, hm, hmm, _, hc⟩
  · simp at hcs
    subst hcs
    exact ⟨none, [], 0, rfl, .inl rfl⟩
  · simp at hcs
    subst hcs
    have hmc : m = c := by simpa using hmm
    obtain ⟨C, hlen, hxs⟩ := list_any l (fun i (y : Ins) => ∀ j (hj : j < 5), W.cell? ((x.add (i * 5)).add j) = some ((insRow y)[j]'(by rw [length_insRow]; exact hj))) (fun i hi => by
      obtain ⟨cs', h1, h2⟩ := hc i (by omega)
      obtain ⟨y, rfl⟩ := open_insC h2
      rw [cellsOf_ins7] at h1
      obtain ⟨_, _, h3⟩ := World.cells?_some h1
      exact ⟨y, fun j hj => (h3 j (by omega)).trans (List.getElem?_eq_getElem (by rw [length_insRow]; exact hj))⟩)
    refine ⟨some x, C, c, by rw [hlen], ?_⟩
    by_cases h0 : C = []
    · exact .inl h0
    · have hpos : 0 < C.length := by cases C with | nil => exact absurd rfl h0 | cons y r => simp
      obtain ⟨b, off, spot⟩ := x
      have hspot : spot = none := by
        have := hxs 0 hpos 0 (by omega)
        simpa [Addr.add] using World.cell?_spot this
      subst hspot
      refine .inr ⟨b, off, rfl, fun i hi => ?_⟩
      have k := fun j hj => hxs i hi j hj
      simp only [add_plain] at k
      exact ⟨(k 0 (by omega)).trans rfl, (k 1 (by omega)).trans rfl, (k 2 (by omega)).trans rfl, (k 3 (by omega)).trans rfl, (k 4 (by omega)).trans rfl⟩

theorem open_data {H : Type} {enc : TypeId × Value → H} {W : World} {n : Nat} {c : Value} {x : DataW H × List MemPlace} (h : DataW.trod enc Tryz.prog W 0 (fun _ => true) true n 24 [c] = some x) :
    ∃ a L cap, c = .slice a (List.length L) cap ∧ DatAt W a L ∧ (∀ l ∈ L, ∀ v ∈ l, v < 65536) ∧ L.length ≤ maxLen := by
  rcases open_slice Tryz.underlying24 h with ⟨hcs, _⟩ | ⟨x, l, c, m, n, D, Pl, hcs, _, hl, hm, hmm, _, hc⟩
  · simp at hcs
    subst hcs
    exact ⟨none, [], 0, rfl, .inl rfl, (by intro x hx; simp at hx), (by unfold maxLen; simp)⟩
  · simp at hcs
    subst hcs
    have hmc : m = c := by simpa using hmm
    obtain ⟨L, hlen, hxs⟩ := list_any l (fun i (ys : List Nat) => ∃ a cp, W.cell? (x.add i) = some (.slice a ys.length cp) ∧ NatsAt .u16 W a ys ∧ ∀ v ∈ ys, v < 65536) (fun i hi => by
      obtain ⟨cs', h1, h2⟩ := hc i (by omega)
      rw [cellsOf_words7] at h1
      obtain ⟨hl1, _, h3⟩ := World.cells?_some h1
      match cs', hl1 with
      | [c0], _ =>
        obtain ⟨a, ys, cp, rfl, hn, hw⟩ := open_cellwords h2
        exact ⟨ys, a, cp, by simpa [Addr.add] using h3 0 (by omega), hn, hw⟩)
    refine ⟨some x, L, c, by rw [hlen], ?_, fun y hy => ?_, by omega⟩
    · by_cases h0 : L = []
      · exact .inl h0
      · have hpos : 0 < L.length := by cases L with | nil => exact absurd rfl h0 | cons y r => simp
        obtain ⟨b, off, spot⟩ := x
        have hspot : spot = none := by
          obtain ⟨a, cp, this, _⟩ := hxs 0 hpos
          simpa [Addr.add] using World.cell?_spot this
        subst hspot
        refine .inr ⟨b, off, rfl, fun i hi => ?_⟩
        obtain ⟨a, cp, k1, k2, _⟩ := hxs i hi
        rw [add_plain] at k1
        exact ⟨a, cp, k1, k2⟩
    · obtain ⟨i, hi, rfl⟩ := List.getElem_of_mem hy
      obtain ⟨a, cp, _, _, k3⟩ := hxs i hi
      exact k3

theorem array3 {α : Type} {cs : Array α} (h : cs.size = 3) : ∃ c0 c1 c2, cs = #[c0, c1, c2] := by
  obtain ⟨l⟩ := cs
  match l, h with
  | [c0, c1, c2], _ => exact ⟨c0, c1, c2, rfl⟩

theorem open_prog {H : Type} {enc : TypeId × Value → H} {W : World} {base : Nat} {v : Value} {d : DataW H} {p : List MemPlace}
    (o : Value.okWide Tryz.prog W .any base 26 v) (h : DataW.Trod enc Tryz.prog W 0 (fun _ => true) true 26 v d p) :
    ∃ ac C cc a2 s c2 ad L cd, v = .agg #[.slice ac (List.length C) cc, .slice a2 (List.length s) c2, .slice ad (List.length L) cd] ∧ PgAt W ac a2 ad C s L ∧ (∀ l ∈ L, ∀ v ∈ l, v < 65536) ∧ L.length ≤ maxLen := by
  obtain ⟨cs, rfl, hsz⟩ := okWide_struct Tryz.underlying26 o
  obtain ⟨c0, c1, c2, rfl⟩ := array3 (hsz.trans (by kernel_rfl))
  obtain ⟨fuel, hf⟩ := h
  obtain ⟨y0, y1, y2, n, h0, h1, h2⟩ := trod_three Tryz.underlying26 hf
  simp [Value.cells, cellsOf_ints7, cellsOf_code7, cellsOf_data7] at h0 h1 h2
  obtain ⟨ac, C, cc, rfl, hc⟩ := open_code h0
  obtain ⟨a2, s, k2, rfl, hs, _⟩ := open_cellints Tryz.underlying23 Tryz.underlying3 (by kernel_rfl) h1
  obtain ⟨ad, L, cd, rfl, hd, hu, hl⟩ := open_data h2
  exact ⟨ac, C, cc, a2, s, k2, ad, L, cd, rfl, ⟨hc, hs, hd⟩, hu, hl⟩
end Go.Proofs.YtejbmidgnagcdaaGreatDoor
