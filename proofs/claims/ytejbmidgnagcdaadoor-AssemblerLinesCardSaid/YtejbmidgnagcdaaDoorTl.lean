/-
  How many lines and how many labels a program's text has; a map of the call's own from targets.
-/
import Derived.Test.YtejbmidgnagcdaaDoorTx
import Derived.Maps.Own
import Derived.Maps.Views
import Derived.Maps.OwnSet
namespace Go.Proofs.YtejbmidgnagcdaaDoor
open Go.RowKit Go.PlainAid Go.Maps
set_option maxRecDepth 100000

theorem count_np {sub : List UInt8} (hsub : sub ≠ []) (b : UInt8) (l : List UInt8) (hp : sub.isPrefixOf (b :: l) = false) : Lib.count (b :: l) sub = Lib.count l sub := by
  have hix : Lib.index (b :: l) sub = if Lib.index l sub == -1 then -1 else Lib.index l sub + 1 := by rw [Lib.index, hp]; simp
  by_cases hm : Lib.index l sub = -1
  · rw [Lib.count_miss hm, Lib.count_miss (by rw [hix, if_pos (beq_iff_eq.2 hm)])]
  · have hge := Lib.index_ge l sub
    obtain ⟨j, hj⟩ : ∃ j : Nat, Lib.index l sub = j := ⟨(Lib.index l sub).toNat, by omega⟩
    have hix' : Lib.index (b :: l) sub = ((j + 1 : Nat) : Int) := by rw [hix, if_neg (fun e => hm (beq_iff_eq.1 e)), hj]; omega
    rw [Lib.count_hit hsub hj, Lib.count_hit hsub hix', show j + 1 + sub.length = (j + sub.length) + 1 by omega, List.drop_succ_cons]

theorem count_skip (l r : List UInt8) (h : (58 : UInt8) ∉ l) : Lib.count (l ++ r) [58, 10] = Lib.count r [58, 10] := by
  induction l with
  | nil => rfl
  | cons b l ih =>
    have hb : b ≠ 58 := fun e => h (by simp [e])
    have hp : ([58, 10] : List UInt8).isPrefixOf (b :: (l ++ r)) = false := by simp [List.isPrefixOf, Ne.symm hb]
    rw [List.cons_append, count_np (by simp) b (l ++ r) hp, ih (fun e => h (List.mem_cons_of_mem _ e))]

theorem count_end (r : List UInt8) : Lib.count (10 :: r) [58, 10] = Lib.count r [58, 10] :=
  count_np (by simp) 10 r (by simp [List.isPrefixOf])

theorem count_colon (r : List UInt8) : Lib.count (58 :: 10 :: r) [58, 10] = 1 + Lib.count r [58, 10] := by
  have hix : Lib.index (58 :: 10 :: r) [58, 10] = ((0 : Nat) : Int) := by rw [Lib.index]; simp [List.isPrefixOf]
  rw [Lib.count_hit (by simp) hix]
  rfl

theorem count_line (l : List UInt8) (r : List UInt8) (h : (58 : UInt8) ∉ l) : Lib.count (l ++ [10] ++ r) [58, 10] = Lib.count r [58, 10] := by
  rw [List.append_assoc, count_skip _ _ h, List.singleton_append, count_end]

theorem count_lab (l : List UInt8) (r : List UInt8) (h : (58 : UInt8) ∉ l) : Lib.count (l ++ [58] ++ [10] ++ r) [58, 10] = 1 + Lib.count r [58, 10] := by
  rw [List.append_assoc, List.append_assoc, count_skip _ _ h, List.singleton_append, List.singleton_append, count_colon]

/-- How many of the first n instructions are targets of the first j. -/
def cntT (C : List Ins) (j n : Nat) : Nat := (List.range n).countP fun k => tgtB C j k

theorem cntT_succ (C : List Ins) (j n : Nat) : cntT C j (n + 1) = cntT C j n + if tgtB C j n then 1 else 0 := by
  unfold cntT
  rw [List.range_succ, List.countP_append]
  simp [List.countP_cons]

theorem codeLs_length (lab : Nat → ByteArray) (C : List Ins) : ∀ m, (codeLs lab C m).length = m + cntT C C.length m
  | 0 => rfl
  | m + 1 => by
    rw [codeLs_next, List.length_append, codeLs_length lab C m, cntT_succ]
    unfold codeX
    split <;> simp <;> omega

theorem linesX_length (lab : Nat → ByteArray) (C : List Ins) (s : List Int) (L : List (List Nat)) : (linesX lab C s L).length = s.length + (C.length + cntT C C.length C.length) := by
  unfold linesX
  rw [List.length_append, codeLs_length]
  simp [regLs]

theorem count_regs (s : List Int) (L : List (List Nat)) (r : List UInt8) : ∀ m, Lib.count (((regLs s L m).flatMap fun l => l.data.toList ++ [10]) ++ r) [58, 10] = Lib.count r [58, 10] := by
  intro m
  induction m generalizing r with
  | zero => rfl
  | succ m ih =>
    have e : regLs s L (m + 1) = regLs s L m ++ [regLine (s.getD m 0).toNat (L.getD m [])] := by
      unfold regLs
      rw [List.range_succ, List.map_append]
      rfl
    rw [e, List.flatMap_append, List.append_assoc, ih]
    rw [List.flatMap_cons, List.flatMap_nil, List.append_nil]
    exact count_line _ _ (fun e => (join_bytes _ _ (regW_clean _ _) 58 e).2 rfl)

theorem count_code (lab : Nat → ByteArray) (hlab : LabsOk lab) (C : List Ins) (n : Nat) (hC : CodePg n C) (r : List UInt8) : ∀ m, m ≤ C.length → Lib.count (((codeLs lab C m).flatMap fun l => l.data.toList ++ [10]) ++ r) [58, 10] = cntT C C.length m + Lib.count r [58, 10] := by
  intro m
  induction m generalizing r with
  | zero => intro _; show Lib.count r [58, 10] = 0 + _; omega
  | succ m ih =>
    intro hm
    have hm2 : m < C.length := by omega
    have hgd : C.getD m insNil = C[m] := by rw [List.getD_eq_getElem?_getD, List.getElem?_eq_getElem hm2]; rfl
    obtain ⟨gv, gj, _⟩ := hC.2.2 m hm2
    have hln : (58 : UInt8) ∉ (lineX lab C[m]).data.toList := fun e => (join_bytes _ _ (insX_clean lab hlab C[m] gv (fun hj => by have := gj hj; have := hC.2.1; omega)) 58 e).2 rfl
    have hlb : (58 : UInt8) ∉ (lab m).data.toList := fun e => ((lab_clean (hlab.ok m (by have := hC.2.1; omega))).1 58 e).2.2 rfl
    rw [codeLs_next, List.flatMap_append, List.append_assoc, ih _ (by omega), cntT_succ]
    unfold codeX
    rw [hgd]
    cases tgtB C C.length m with
    | true =>
      rw [if_pos rfl, if_pos rfl, List.flatMap_append, List.flatMap_cons, List.flatMap_nil, List.append_nil, List.flatMap_cons, List.flatMap_nil, List.append_nil, bytes_add]
      have e58 : (⟨#[58]⟩ : ByteArray).data.toList = [58] := rfl
      rw [e58, List.append_assoc ((lab m).data.toList ++ [58] ++ [10]), count_lab _ _ hlb, count_line _ _ hln]
      omega
    | false =>
      rw [if_neg (by simp), if_neg (by simp), List.nil_append, List.flatMap_cons, List.flatMap_nil, List.append_nil, count_line _ _ hln]
      omega

theorem count_labels (C : List Ins) (s : List Int) (L : List (List Nat)) (hg : GoodPg C s L) : Lib.countB (printB C s L) ⟨#[58, 10]⟩ = cntT C C.length C.length := by
  rw [print_text]
  show Lib.count (textFrom ⟨#[]⟩ (linesX labl C s L)).data.toList [58, 10] = _
  rw [textFrom_data]
  show Lib.count ([] ++ _) [58, 10] = _
  rw [List.nil_append]
  unfold linesX
  have h := count_code labl labl_ok C s.length ((good_split C s L).1 hg).2 [] C.length (Nat.le_refl _)
  have h2 := count_regs s L ((codeLs labl C C.length).flatMap fun l => l.data.toList ++ [10]) s.length
  rw [List.append_nil] at h
  rw [List.flatMap_append, h2, h]
  show _ + Lib.count [] [58, 10] = _
  have : Lib.count [] [58, 10] = 0 := by decide
  omega

theorem text_ends (C : List Ins) (s : List Int) (L : List (List Nat)) (hg : GoodPg C s L) : Lib.hasSuffix (printB C s L).data.toList [10] = true := by
  have h1 : 1 ≤ C.length := hg.2.2.1
  obtain ⟨j, hj⟩ : ∃ j, C.length = j + 1 := ⟨C.length - 1, by omega⟩
  rw [print_text]
  unfold linesX
  rw [hj, codeLs_next]
  unfold codeX
  rw [← List.append_assoc, ← List.append_assoc, textFrom_app]
  generalize textFrom ⟨#[]⟩ _ = t
  show Lib.hasSuffix (t ++ lineX labl (C.getD j insNil) ++ ⟨#[10]⟩ : ByteArray).data.toList [10] = true
  rw [bytes_add]
  unfold Lib.hasSuffix
  exact List.isSuffixOf_iff_suffix.2 (List.suffix_append _ _)

/-! ### the map of targets -/
theorem cnt_more (p : Nat → Bool) (m : Nat) : ∀ n, m < n → (List.range n).countP (fun k => p k || decide (k = m)) = (List.range n).countP p + if p m then 0 else 1
  | 0, h => by omega
  | n + 1, h => by
    rw [List.range_succ, List.countP_append, List.countP_append]
    by_cases e : m = n
    · subst e
      have : (List.range m).countP (fun k => p k || decide (k = m)) = (List.range m).countP p := by
        apply List.countP_congr
        intro k hk
        have : k < m := by simpa using hk
        simp [show ¬ k = m by omega]
      rw [this]
      cases hp : p m <;> simp [hp]
    · have ih := cnt_more p m n (by omega)
      rw [ih]
      have : ¬ n = m := fun h => e h.symm
      simp [List.countP_cons, this]
      omega

/-- The map has these targets and no other ones. -/
def TgtM (w : World) (b n : Nat) (p : Nat → Bool) (c : Nat) : Prop :=
  ∃ D : DataW Unit, w.ownsMap Tryd.prog 3 (plainElem Tryd.prog 4) b n D ∧ Maps.size D = c ∧ ∀ k : Nat, Maps.has D (.int .i64 (k : Int)) = p k

theorem TgtM.made (w : World) : TgtM (w.alloc (.map #[] 0)) w.heap.size 0 (fun _ => false) 0 :=
  ⟨_, World.ownsMap_made w Tryd.prog 3 (plainElem Tryd.prog 4), rfl, fun _ => rfl⟩

theorem TgtM.later {w w' : World} {b n c : Nat} {p : Nat → Bool} (h : TgtM w b n p c) (hb : Below w.heap.size w w') : TgtM w' b n p c := by
  obtain ⟨D, h1, h2, h3⟩ := h
  exact ⟨D, h1.kept (grownBy_below hb rfl none) (by simp), h2, h3⟩

theorem TgtM.put {w : World} {b n c : Nat} {p : Nat → Bool} (h : TgtM w b n p c) (hn : n < 100000) (k : Nat) (hk : k < 100000) :
    ∃ w', (Instr.mapUpdate 45 (.map (some b)) (.int .i64 (k : Int)) (.bool true)).run Tryd.prog w = .ok () w' ∧ TgtM w' b (n + 1) (fun q => p q || decide (q = k)) (c + if p k then 0 else 1) ∧ w.grownBy w' (some b) := by
  obtain ⟨D, h1, h2, h3⟩ := h
  have hkey : Go.keyOf Tryd.prog 3 (.int .i64 (k : Int)) = some (.int .i64 (k : Int)) := Maps.keyOf_int_mk Tryd.underlying3 (by simp [Lit.wf, IntKind.min, IntKind.max, IntKind.signed, IntKind.bits]; omega)
  obtain ⟨w', hrun, h4, hg⟩ := h1.update (Maps.int_keyed Tryd.underlying3) Tryd.underlying45 (by unfold maxLen; omega) hkey (plainElem_bool Tryd.underlying4 true)
  refine ⟨w', hrun, ⟨_, h4, ?_, fun q => ?_⟩, hg⟩
  · rw [Maps.size_put (h1.tidy (Maps.int_keyed Tryd.underlying3)), h3 k, h2]
    split <;> simp
  · by_cases e : q = k
    · subst e
      rw [Maps.has_put_same h1.isMap (by trivial)]
      simp
    · rw [Maps.has_put_other (by simp; omega), h3 q]
      simp [e]

theorem TgtM.len {w : World} {b n c : Nat} {p : Nat → Bool} (h : TgtM w b n p c) (ty : TypeId) : (Builtin.len_ #[45] ty #[.map (some b)]).run Tryd.prog w = .ok (.int .i64 (c : Int)) w := by
  obtain ⟨D, h1, h2, _⟩ := h
  have h3 := h1.len Tryd.underlying45 ty
  rw [h2] at h3
  exact h3
end Go.Proofs.YtejbmidgnagcdaaDoor
