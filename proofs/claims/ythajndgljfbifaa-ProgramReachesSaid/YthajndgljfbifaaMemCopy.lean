/-
  A law for copy into a row that the call has made, its elements of more than one cell; and the words that Load lays, region by region.
-/
import Derived.Test.YthajndgljfbifaaRM1
import Derived.Test.YthajndgljfbifaaCells2
import Derived.Laws.CopyOwn
import Derived.Laws.OwnMore
namespace Go.Proofs.Ythajndgljfbifaa
open Go.RowKit

theorem run_copy_wide {P : Program} (w : World) (dT sT ty elem : TypeId) (k g o dLen dCap : Nat) (sp : Option Addr) (sLen sCap n : Nat) (cur : Array Value) (t : TypeId) (cs : List Value)
    (hu : P.underlying dT = some (.slice elem)) (hs : (P.info? elem).map (·.size) = some k)
    (hg : w.heap[g]? = some (.cells cur t (0, 0))) (hn : n = Nat.min sLen dLen) (hl : cs.length = n * k)
    (hsrc : cs = [] ∨ ∃ ad, sp = some ad ∧ ∀ j v, cs[j]? = some v → w.cell? (ad.add j) = some v) (hfit : o + cs.length ≤ cur.size) (h1 : ∀ v ∈ cs, v.oneCell' = true) :
    (Builtin.copy_ #[dT, sT] ty #[.slice (some ⟨g, o, none⟩) dLen dCap, .slice sp sLen sCap]).run P w =
      .ok (goInt n) (w.setRow g (cur.toList.take o ++ cs ++ cur.toList.drop (o + cs.length)).toArray) := by
  have hst := run_storeCells_at P g o t cs 0 cur w hg (by simpa using hfit) h1
  cases hq : P.info? elem with
  | none => simp [hq] at hs
  | some i =>
    have hi : i.size = k := by simpa [hq] using hs
    cases sp with
    | none =>
      obtain rfl : cs = [] := by
        rcases hsrc with h | ⟨ad, h, _⟩
        · exact h
        · cases h
      simp at hst
      simp [Builtin.copy_, run_underlying hu, Builtin.lenOf, Builtin.firstCells, sizeOf, typeInfo, hq, ← hn, hst]
    | some a =>
      have hsrc' : ∀ j v, cs[j]? = some v → w.cell? (a.add j) = some v := by
        rcases hsrc with rfl | ⟨ad, h, h'⟩
        · simp
        · cases h; exact h'
      have hld := run_loadCells_list (P := P) w a cs hsrc'
      rw [hl] at hld
      simp [Builtin.copy_, run_underlying hu, Builtin.lenOf, Builtin.firstCells, sizeOf, typeInfo, hq, hi, ← hn, hld, hst]

/-- The row behind the copy. -/
theorem own_splice {w : World} {base : Nat} {e : TypeId} {k g N : Nat} {xs : List Value} (h : w.ownsRow base e k (.slice (some ⟨g, 0, none⟩) N N) N xs) (o : Nat) (cs : List Value) (hfit : o + cs.length ≤ N * k) :
    ∃ cur, w.heap[g]? = some (.cells cur e (0, 0)) ∧ cur.size = N * k ∧ (w.setRow g (cur.toList.take o ++ cs ++ cur.toList.drop (o + cs.length)).toArray).ownsRow base e k (.slice (some ⟨g, 0, none⟩) N N) N (splice xs o cs) ∧
      w.grownBy (w.setRow g (cur.toList.take o ++ cs ++ cur.toList.drop (o + cs.length)).toArray) (some g) := by
  obtain ⟨hl, h⟩ := h
  rcases h with ⟨h', _⟩ | ⟨g', cap', cur, h', hb, hg, hnc, hcm, hcs, htake⟩
  · simp at h'
  · simp only [Value.slice.injEq, Option.some.injEq, Addr.mk.injEq, and_true, true_and] at h'
    obtain ⟨rfl, rfl⟩ := h'
    have hx : cur.toList = xs := by
      rw [← htake, List.take_of_length_le (by rw [Array.length_toList, hcs]; exact Nat.le_refl _)]
    have hlen : (splice xs o cs).length = N * k := by rw [length_splice _ _ _ (by omega), hl]
    refine ⟨cur, hg, hcs, ⟨hlen, .inr ⟨g, N, _, rfl, hb, setRow_heap w g _ _ e _ hg, Nat.le_refl _, hcm, ?_, ?_⟩⟩, ⟨rfl, rfl, rfl, by simp [World.setRow], fun j _ hj => setRow_other w g j _ (fun e => hj (by rw [e]))⟩⟩
    · rw [hx]
      have := hlen
      unfold splice at this
      simpa using this
    · rw [hx]
      have e1 : (xs.take o ++ cs ++ xs.drop (o + cs.length)) = splice xs o cs := by simp [splice]
      rw [e1, List.take_of_length_le (by simp [hlen])]

/-- copy into a row of the call's own, as one step of a region that draws its order. -/
theorem step_copy_wide {P : Program} {ops : Array Oper} {o : Oper} {a : Act} {w : World} {K : Act → World → Prop} {Q : Exit → Act → World → Prop} {E : Prop} (hgd : o.guard = none) (d s : Operand) (dT sT : TypeId)
    (ho : o.op = .call { callee := .builtin .copy, args := #[d, s], argTypes := #[dT, sT] }) (elem : TypeId) (k : Nat) (hu : P.underlying dT = some (.slice elem)) (hsz : (P.info? elem).map (·.size) = some k)
    (g off dLen dCap : Nat) (sp : Option Addr) (sLen sCap : Nat) (hd : a.eval d = .slice (some ⟨g, off, none⟩) dLen dCap) (hs : a.eval s = .slice sp sLen sCap)
    (base N : Nat) (xs : List Value) (hown : w.ownsRow base elem k (.slice (some ⟨g, 0, none⟩) N N) N xs) (n : Nat) (hn : n = Nat.min sLen dLen) (cs : List Value) (hl : cs.length = n * k)
    (hsrc : cs = [] ∨ ∃ ad, sp = some ad ∧ ∀ j v, cs[j]? = some v → w.cell? (ad.add j) = some v) (hfit : off + cs.length ≤ N * k) (h1 : ∀ v ∈ cs, v.oneCell' = true)
    (h : ∀ w', Hid (w'.ownsRow base elem k (.slice (some ⟨g, 0, none⟩) N N) N (splice xs off cs)) → w.grownBy w' (some g) → K (a.put o.dst (goInt n)) w') :
    if Region.wanted o (yielded ops a.tmps) = true then Oper.wp P o a w K Q else E := by
  have hw : Region.wanted o (yielded ops a.tmps) = true := by simp [Region.wanted, hgd]
  rw [if_pos hw]
  obtain ⟨cur, hg, hsize, ho1, ho2⟩ := own_splice hown off cs hfit
  have hrun := run_copy_wide (P := P) w dT sT o.type elem k g off dLen dCap sp sLen sCap n cur elem cs hu hsz hg hn hl hsrc (by omega) h1
  unfold Oper.wp
  simp [execOp, ho, resolve, invoke, builtin, hd, hs, hrun, Result.andThen]
  have h9 := h _ ho1 ho2
  simp only [List.append_assoc] at h9
  exact h9

/-- What one list of words turns. -/
theorem load_same {bs : List Int} {s : List Nat} {L : List (List Nat)} (hv : LV bs s) {r b c : Nat} (hr : r < L.length) (hb : bs.getD r 0 = (b : Int)) (hn : ¬ (b ≤ c ∧ c < b + L[r].length)) : loadAt bs s L r 0 c = loadAt bs s L (r + 1) 0 c := by
  unfold loadAt
  split
  · rename_i q o hq
    obtain ⟨_, h5⟩ := res_holds hv.1 hq
    by_cases h6 : q < r
    · rw [if_pos (.inl h6), if_pos (.inl (by omega))]
    · by_cases h7 : q = r
      · subst h7
        rw [if_neg (by omega), if_pos (.inl (by omega)), getD_at L [] hr, List.getD_eq_getElem?_getD, List.getElem?_eq_none (by rw [hb] at h5; omega)]
        rfl
      · rw [if_neg (by omega), if_neg (by omega)]
  · rfl

theorem load_here {bs : List Int} {s : List Nat} {L : List (List Nat)} (hv : LV bs s) {r b i : Nat} (hr : r < L.length) (hs : r < s.length) (hb : bs.getD r 0 = (b : Int)) (hi : i < L[r].length) (hf : L[r].length ≤ s[r]) : loadAt bs s L (r + 1) 0 (b + i) = L[r][i] ∧ b + i < 512 := by
  have hH := ins_holds hv.1 (bs := bs) (k := r) (j := i) hs (by omega)
  obtain ⟨h0, h1⟩ := holds_range hv hH
  rw [hb] at hH h0 h1
  have hR := res_at hv hH
  rw [show ((b : Int) + (i : Int) - bs.getD r 0).toNat = i by rw [hb]; omega] at hR
  refine ⟨?_, by omega⟩
  unfold loadAt
  rw [show (((b + i : Nat)) : Int) = (b : Int) + (i : Int) by omega, hR]
  show (if r < r + 1 ∨ (r = r + 1 ∧ i < 0) then (L.getD r []).getD i 0 else 0) = _
  rw [if_pos (.inl (by omega)), getD_at L [] hr, getD_at L[r] 0 hi]

theorem loadTo_get (bs : List Int) (s : List Nat) (L : List (List Nat)) (r i c : Nat) : (loadTo bs s L r i)[c]? = if c < 512 then some (0, loadAt bs s L r i c) else none := by
  by_cases h : c < 512
  · rw [if_pos h, List.getElem?_eq_getElem (by rw [length_loadTo]; exact h), loadTo_at _ _ _ _ _ _ h]
  · rw [if_neg h, List.getElem?_eq_none (by rw [length_loadTo]; omega)]

theorem loadTo_splice {bs : List Int} {s : List Nat} {L : List (List Nat)} (hv : LV bs s) {r b : Nat} (hr : r < L.length) (hs : r < s.length) (hb : bs.getD r 0 = (b : Int)) (hf : L[r].length ≤ s[r]) (hfit : b + L[r].length ≤ 512) :
    splice (loadTo bs s L r 0) b (numsOf L[r]) = loadTo bs s L (r + 1) 0 := by
  have hnl : (numsOf L[r]).length = L[r].length := by simp [numsOf]
  have hll := length_loadTo bs s L r 0
  apply List.ext_getElem?
  intro c
  rw [loadTo_get]
  unfold splice
  rw [hnl]
  by_cases h1 : c < b
  · rw [List.getElem?_append_left (by rw [List.length_take, hll]; omega), List.getElem?_take, if_pos h1, loadTo_get, load_same hv hr hb (by omega)]
  · rw [List.getElem?_append_right (by rw [List.length_take, hll]; omega), List.length_take, hll, show c - min b 512 = c - b by omega]
    by_cases h2 : c < b + L[r].length
    · rw [List.getElem?_append_left (by rw [hnl]; omega)]
      obtain ⟨i, rfl⟩ : ∃ i, c = b + i := ⟨c - b, by omega⟩
      obtain ⟨h3, h4⟩ := load_here hv hr hs hb (i := i) (by omega) hf
      rw [if_pos h4, h3, show b + i - b = i by omega]
      simp only [numsOf, List.getElem?_map]
      rw [List.getElem?_eq_getElem (by omega)]
      rfl
    · rw [List.getElem?_append_right (by rw [hnl]; omega), hnl, List.getElem?_drop, show b + L[r].length + (c - b - L[r].length) = c by omega, loadTo_get, load_same hv hr hb (by omega)]

theorem flat_take {k : Nat} : ∀ {rows : List (List Value)}, Wide k rows → ∀ n, rows.flatten.take (n * k) = (rows.take n).flatten
  | [], _, n => by simp
  | r :: rows, h, 0 => by simp
  | r :: rows, h, n + 1 => by
    obtain ⟨h1, h2⟩ := h.cons
    rw [List.flatten_cons, List.take_append, h1, List.take_of_length_le (by rw [h1, Nat.add_mul]; omega), show (n + 1) * k - k = n * k by rw [Nat.add_mul]; omega, flat_take h2 n, List.take_succ_cons, List.flatten_cons]

theorem flat_drop {k : Nat} : ∀ {rows : List (List Value)}, Wide k rows → ∀ n, rows.flatten.drop (n * k) = (rows.drop n).flatten
  | [], _, n => by simp
  | r :: rows, h, 0 => by simp
  | r :: rows, h, n + 1 => by
    obtain ⟨h1, h2⟩ := h.cons
    rw [List.flatten_cons, List.drop_append, h1, List.drop_eq_nil_of_le (by rw [h1, Nat.add_mul]; omega), show (n + 1) * k - k = n * k by rw [Nat.add_mul]; omega, flat_drop h2 n, List.drop_succ_cons]
    simp

theorem cellRows_splice (xs ys : List (Nat × Nat)) (b : Nat) : splice (cellRows xs).flatten (b * 2) (cellRows ys).flatten = (cellRows (splice xs b ys)).flatten := by
  have hl : (cellRows ys).flatten.length = ys.length * 2 := by rw [length_flatten (wide_cells ys), length_cellRows]
  unfold splice
  rw [hl, show b * 2 + ys.length * 2 = (b + ys.length) * 2 by omega, flat_take (wide_cells xs), flat_drop (wide_cells xs)]
  simp [cellRows]

theorem cells_one (xs : List (Nat × Nat)) : ∀ v ∈ (cellRows xs).flatten, v.oneCell' = true := by
  intro v hv
  obtain ⟨r, hr, hv⟩ := List.mem_flatten.1 hv
  obtain ⟨x, _, rfl⟩ := List.mem_map.1 hr
  simp [cellRow] at hv
  rcases hv with rfl | rfl <;> rfl

/-- The cells that lie in memory, as what a copy reads. -/
theorem cells_src {w : World} {a : Option Addr} {xs : List (Nat × Nat)} (h : CellsAt w a xs) : (cellRows xs).flatten = [] ∨ ∃ ad, a = some ad ∧ ∀ j v, (cellRows xs).flatten[j]? = some v → w.cell? (ad.add j) = some v := by
  rcases h with rfl | ⟨b, off, rfl, h⟩
  · exact .inl rfl
  · refine .inr ⟨_, rfl, fun j u hj => ?_⟩
    have hr : RowsAt 0 w (some ⟨b, off, none⟩) 2 (cellRows xs) := .inr ⟨b, off, rfl, Nat.zero_le _, fun i hi q hq => by
      rw [length_cellRows] at hi
      obtain ⟨h0, h1⟩ := h i hi
      have hq2 : q = 0 ∨ q = 1 := by omega
      rcases hq2 with rfl | rfl
      · rw [Nat.add_zero, h0]; simp [cellRows, cellRow]
      · rw [h1]; simp [cellRows, cellRow]⟩
    obtain ⟨h1, _⟩ := List.getElem?_eq_some_iff.1 hj
    rw [length_flatten (wide_cells xs)] at h1
    have hd : j / 2 < (cellRows xs).length := by omega
    have hm : j % 2 < 2 := by omega
    have e : j / 2 * 2 + j % 2 = j := by omega
    have ea : (⟨b, off, none⟩ : Addr).add j = ⟨b, off + j, none⟩ := by unfold Addr.add; split <;> simp_all
    rw [ea]
    rcases hr with h9 | ⟨b', off', ha, _, h⟩
    · rw [h9] at hd; simp at hd
    · cases ha
      have h2 := h (j / 2) hd (j % 2) hm
      rw [Nat.add_assoc, e] at h2
      rw [h2, ← flatten_at (wide_cells xs) (j / 2) (j % 2) hd hm, e, hj]
end Go.Proofs.Ythajndgljfbifaa
