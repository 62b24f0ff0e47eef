/-
  Which instructions can be reached: the least set; leadsAnywhere.
  A queue and a stack: a slice of one-cell elements of the call's own that may begin anywhere in its block: cut in front, cut behind, appended to.
  The program's Reach, given the library's Repeat.
  The document's Reach.
  The document's Reach: the walk.
  The library's Repeat of one bool.
-/
import Derived.Test.YthajndgljfbifaaTgt
import Derived.Test.YthajndgljfbifaaIc7
import Derived.Test.YthajndgljfbifaaPgm
import Derived.ArgAppend
import Derived.Test.YthajndgljfbifaaDeck
import Derived.Test.YthajndgljfbifaaDeckNext
import Derived.Test.YthajndgljfbifaaEnc8
import Derived.Test.YthajndgljfbifaaPrgS
import Derived.Laws.CopyOwn
import Derived.Deep.RegionLaw
import Derived.Test.YthajndgljfbifaaShelf
namespace Go.Proofs.Ythajndgljfbifaa
open Go.RowKit
set_option maxRecDepth 100000

/-- An instruction that may go on anywhere. -/
def anyB (x : Ins) : Bool := decide (x.op = 22 ∨ (x.op = 23 ∧ (x.imm = 10 ∨ x.imm = 12)))

/-- j may follow k. -/
def Leads (C : List Ins) (k j : Nat) : Prop := ∃ h : k < C.length, (j : Int) ∈ tgtV C[k] ((k : Int) + 1) ∨ anyB C[k] = true

/-- The least set with the first instruction and all that may follow one of it. -/
inductive Rch (C : List Ins) : Nat → Prop where
  | zero : Rch C 0
  | step {k j : Nat} : Rch C k → k < C.length → j < C.length → Leads C k j → Rch C j

/-- A set that has the first and is closed has all. -/
theorem rch_least {C : List Ins} {p : Nat → Prop} (h0 : p 0) (hs : ∀ k j, p k → k < C.length → j < C.length → Leads C k j → p j) : ∀ j, Rch C j → p j := by
  intro j h
  induction h with
  | zero => exact h0
  | step _ hk hj hl ih => exact hs _ _ ih hk hj hl

/-- Where one that may go on anywhere is reached, all are. -/
theorem rch_any {C : List Ins} {k : Nat} (hr : Rch C k) (hk : k < C.length) (ha : anyB C[k] = true) : ∀ j, j < C.length → Rch C j := fun _ hj => .step hr hk hj ⟨hk, .inr ha⟩

open Classical in
/-- What Reach answers. -/
noncomputable def rchL (C : List Ins) : List Bool := (List.range C.length).map fun j => decide (Rch C j)

theorem rchL_length (C : List Ins) : (rchL C).length = C.length := by simp [rchL]

open Classical in
theorem rchL_at (C : List Ins) (j : Nat) (h : j < (rchL C).length) : (rchL C)[j] = decide (Rch C j) := by simp [rchL]

open Classical in
/-- A list that says of each whether it is reached. -/
theorem rchL_eq {C : List Ins} {M : List Bool} (hl : M.length = C.length) (h : ∀ j (h : j < M.length), M[j] = true ↔ Rch C j) : M = rchL C := by
  apply List.ext_getElem
  · rw [rchL_length, hl]
  · intro j h1 h2
    rw [rchL_at]
    cases hm : M[j] with
    | true => exact (decide_eq_true ((h j h1).1 hm)).symm
    | false => exact (decide_eq_false (fun hr => by rw [(h j h1).2 hr] at hm; cases hm)).symm

theorem rchL_all {C : List Ins} (h : ∀ j, j < C.length → Rch C j) : rchL C = List.replicate C.length true := by
  symm
  refine rchL_eq (by simp) (fun j hj => ?_)
  rw [List.length_replicate] at hj
  simp [h j hj]

/-- While the search goes on: what is marked is reached; what is to be done is marked; what is marked is to be done or closed. -/
structure Srch (C : List Ins) (M : List Bool) (Q : List Nat) : Prop where
  len : M.length = C.length
  sound : ∀ j (h : j < M.length), M[j] = true → Rch C j
  first : ∃ h : 0 < M.length, M[0] = true
  todo : ∀ q ∈ Q, ∃ h : q < M.length, M[q] = true
  closed : ∀ k (h : k < M.length), M[k] = true → k ∈ Q ∨ ∀ j (h2 : j < M.length), Leads C k j → M[j] = true

theorem Srch.done {C : List Ins} {M : List Bool} (h : Srch C M []) : M = rchL C := by
  refine rchL_eq h.len (fun j hj => ⟨h.sound j hj, fun hr => ?_⟩)
  have := rch_least (C := C) (p := fun j => ∃ hj : j < M.length, M[j] = true) h.first (fun k j ⟨hk, hm⟩ _ hj hl => by
    have hj' : j < M.length := by rw [h.len]; exact hj
    rcases h.closed k hk hm with h1 | h1
    · cases h1
    · exact ⟨hj', h1 j hj' hl⟩) j hr
  exact this.2

theorem Srch.start {C : List Ins} {m : Nat} (h1 : C.length = m + 1) : Srch C (true :: List.replicate m false) [0] := by
  have hl : (true :: List.replicate m false).length = C.length := by simp [h1]
  have hn : ∀ j (h : j < (true :: List.replicate m false).length), (true :: List.replicate m false)[j] = true → j = 0 := by
    intro j h hm
    cases j with
    | zero => rfl
    | succ j => simp at hm
  refine ⟨hl, fun j h hm => ?_, ⟨by simp, rfl⟩, fun q hq => ?_, fun k h hm => ?_⟩
  · rw [hn j h hm]; exact .zero
  · rw [List.mem_singleton] at hq; subst hq; exact ⟨by simp, rfl⟩
  · rw [hn k h hm]; exact .inl (by simp)

/-- .. while the targets T of k are gone through: j are done. -/
structure SrchM (C : List Ins) (k : Nat) (T : List Int) (j : Nat) (M : List Bool) (Q : List Nat) : Prop where
  len : M.length = C.length
  sound : ∀ j (h : j < M.length), M[j] = true → Rch C j
  first : ∃ h : 0 < M.length, M[0] = true
  self : ∃ h : k < M.length, M[k] = true
  todo : ∀ q ∈ Q, ∃ h : q < M.length, M[q] = true
  closed : ∀ i (h : i < M.length), M[i] = true → i = k ∨ i ∈ Q ∨ ∀ j (h2 : j < M.length), Leads C i j → M[j] = true
  part : ∀ i (h : i < T.length), i < j → ∀ t : Nat, T[i] = (t : Int) → ∀ h : t < M.length, M[t] = true

theorem Srch.pop {C : List Ins} {M : List Bool} {Q : List Nat} {k : Nat} {T : List Int} (h : Srch C M (k :: Q)) : SrchM C k T 0 M Q :=
  ⟨h.len, h.sound, h.first, h.todo k (by simp), fun q hq => h.todo q (by simp [hq]), fun i hi hm => by
    rcases h.closed i hi hm with h1 | h1
    · rcases List.mem_cons.1 h1 with h1 | h1
      · exact .inl h1
      · exact .inr (.inl h1)
    · exact .inr (.inr h1), fun _ _ hj => by omega⟩

theorem SrchM.skip {C : List Ins} {M : List Bool} {Q : List Nat} {k j : Nat} {T : List Int} (h : SrchM C k T j M Q) (hj : j < T.length) (ht : ∀ t : Nat, T[j] = (t : Int) → ∀ h : t < M.length, M[t] = true) : SrchM C k T (j + 1) M Q :=
  ⟨h.len, h.sound, h.first, h.self, h.todo, h.closed, fun i hi hij t e hl => by
    by_cases e2 : i = j
    · subst e2; exact ht t e hl
    · exact h.part i hi (by omega) t e hl⟩

theorem SrchM.mark {C : List Ins} {M : List Bool} {Q : List Nat} {k j t : Nat} {T : List Int} (h : SrchM C k T j M Q) (hj : j < T.length) (ht : T[j] = (t : Int)) (hl : t < M.length) (hle : Leads C k t) : SrchM C k T (j + 1) (M.set t true) (Q ++ [t]) := by
  have hup : ∀ i (h1 : i < M.length) (h2 : i < (M.set t true).length), M[i] = true → (M.set t true)[i] = true := by
    intro i h1 h2 hm
    rw [List.getElem_set]
    split
    · rfl
    · exact hm
  have hls : (M.set t true).length = M.length := List.length_set
  have hrk : Rch C k := by obtain ⟨h1, h2⟩ := h.self; exact h.sound k h1 h2
  have hkl : k < C.length := by obtain ⟨h1, _⟩ := h.self; rw [← h.len]; exact h1
  refine ⟨hls.trans h.len, fun i hi hm => ?_, ?_, ?_, fun q hq => ?_, fun i hi hm => ?_, fun i hi hij t' e hl' => ?_⟩
  · rw [List.getElem_set] at hm
    split at hm
    · next e => subst e; exact .step hrk hkl (by rw [← h.len]; exact hl) hle
    · exact h.sound i (by omega) hm
  · obtain ⟨h1, h2⟩ := h.first; exact ⟨by omega, hup 0 h1 _ h2⟩
  · obtain ⟨h1, h2⟩ := h.self; exact ⟨by omega, hup k h1 _ h2⟩
  · rcases List.mem_append.1 hq with hq | hq
    · obtain ⟨h1, h2⟩ := h.todo q hq; exact ⟨by omega, hup q h1 _ h2⟩
    · rw [List.mem_singleton] at hq; subst hq; exact ⟨by omega, by rw [List.getElem_set_self]⟩
  · by_cases e : i = t
    · exact .inr (.inl (by rw [e]; simp))
    · rw [List.getElem_set_ne (fun e2 => e e2.symm)] at hm
      rcases h.closed i (by omega) hm with h1 | h1 | h1
      · exact .inl h1
      · exact .inr (.inl (by simp [h1]))
      · exact .inr (.inr (fun j h2 hle2 => hup j (by omega) h2 (h1 j (by omega) hle2)))
  · by_cases e2 : i = j
    · subst e2
      obtain rfl : t = t' := by have := ht.symm.trans e; omega
      rw [List.getElem_set_self]
    · exact hup t' (by omega) hl' (h.part i hi (by omega) t' e (by omega))

theorem SrchM.finish {C : List Ins} {M : List Bool} {Q : List Nat} {k : Nat} (hk : k < C.length) (h : SrchM C k (tgtV C[k] ((k : Int) + 1)) (tgtV C[k] ((k : Int) + 1)).length M Q) (ha : anyB C[k] = false) : Srch C M Q :=
  ⟨h.len, h.sound, h.first, h.todo, fun i hi hm => by
    rcases h.closed i hi hm with h1 | h1 | h1
    · subst h1
      refine .inr (fun j h2 ⟨_, hle⟩ => ?_)
      rcases hle with hle | hle
      · obtain ⟨p, hp, e⟩ := List.mem_iff_getElem.1 hle
        exact h.part p hp hp j e h2
      · rw [ha] at hle; cases hle
    · exact .inl h1
    · exact .inr h1⟩

/-- The number of those that are not marked. -/
def unM (M : List Bool) : Nat := M.count false

theorem unM_set {M : List Bool} {j : Nat} (h : j < M.length) (hf : M[j] = false) : unM (M.set j true) + 1 = unM M := by
  unfold unM
  rw [List.count_set h, hf]
  have : 0 < M.count false := by
    rw [List.count_pos_iff, ← hf]
    exact List.getElem_mem h
  simp
  omega

theorem unM_start (m : Nat) : unM (true :: List.replicate m false) = m := by simp [unM]

/-- Read off the world. -/
def toB : Option Value → Bool
  | some (.bool b) => b
  | _ => false
def bitsW (w : World) (g n : Nat) : List Bool := (List.range n).map fun j => toB (w.cell? ⟨g, j, none⟩)
theorem bitsW_eq {w : World} {g n : Nat} {M : List Bool} (hl : M.length = n) (h : ∀ j (h : j < M.length), w.cell? ⟨g, j, none⟩ = some (.bool M[j])) : bitsW w g n = M := by
  apply List.ext_getElem
  · simp [bitsW, hl]
  · intro j h1 h2
    simp [bitsW, h j h2, toB]
def lenV : Value → Nat
  | .slice _ l _ => l
  | _ => 0

set_option maxHeartbeats 1000000 in
theorem program_leadsAnywhere (x : Ins) (w : World) :
    Calls Try.prog 69 #[insV x] w fun e w' => e = .returned (.bool (anyB x)) ∧ Below w.heap.size w w' := by
  have hA1 := Below.alloc (Below.refl w.heap.size w) (Nat.le_refl _) (.cells #[.int .i64 x.op, .int .i64 x.a, .int .i64 x.b, .int .i64 x.c, .int .i64 x.imm] 66)
  have X1 := InsBox.new w x
  unfold insV
  go_enter Try.func69, Try.ntmps69
  go_upto_region 1 with fail
  generalize w.alloc (.cells #[.int .i64 x.op, .int .i64 x.a, .int .i64 x.b, .int .i64 x.c, .int .i64 x.imm] 66) = W1 at *
  obtain ⟨e0, e1, e2, e3, e4, _⟩ := ins_cells X1
  clear X1
  by_cases h1 : x.op = 22
  · have HV : Hid (anyB x = true) := Lib.hid (decide_eq_true (.inl h1))
    rw [h1] at e0
    clear h1
    go_wp2_with fail
    go_ret
    exact ⟨by rw [HV.out]; rfl, hA1⟩
  · have g1 : (x.op == 22) = false := by rw [beq_eq_false_iff_ne]; exact h1
    by_cases h2 : x.op = 23
    · have HV : Hid (anyB x = (decide (x.imm = 10) || decide (x.imm = 12))) := Lib.hid (by unfold anyB; simp [h2])
      rw [h2] at e0 g1
      by_cases h3 : x.imm = 10
      · rw [h3] at e4 HV
        clear h1 h2 h3
        go_wp2_with fail
        go_ret
        exact ⟨by rw [HV.out]; rfl, hA1⟩
      · have g3 : (x.imm == 10) = false := by rw [beq_eq_false_iff_ne]; exact h3
        have g4 : (x.imm == 12) = (decide (x.imm = 10) || decide (x.imm = 12)) := by
          rw [decide_eq_false h3, Bool.false_or]
          by_cases h4 : x.imm = 12
          · simp [h4]
          · simp [h4]
        clear h1 h2 h3
        go_wp2_with fail
        go_ret
        exact ⟨by rw [HV.out, ← g4]; rfl, hA1⟩
    · have g2 : (x.op == 23) = false := by rw [beq_eq_false_iff_ne]; exact h2
      have HV : Hid (anyB x = false) := Lib.hid (decide_eq_false (fun h => h.elim h1 (fun h => h2 h.1)))
      clear h1 h2
      go_wp2_with fail
      go_ret
      exact ⟨by rw [HV.out]; rfl, hA1⟩
end Go.Proofs.Ythajndgljfbifaa
namespace Go.Proofs.Ythajndgljfbifaa
open Go.RowKit
set_option maxRecDepth 100000

/-- The value is a slice that holds xs, in a block from base on that is no other's. -/
def OwnQ (w : World) (base : Nat) (e : TypeId) (v : Value) (xs : List Value) : Prop :=
  ∃ g off cap cur, v = .slice (some ⟨g, off, none⟩) xs.length cap ∧ base ≤ g ∧ w.heap[g]? = some (.cells cur e (0, 0)) ∧ xs.length ≤ cap ∧ cap ≤ maxLen ∧ off + cap ≤ cur.size ∧ ∀ j (h : j < xs.length), w.cell? ⟨g, off + j, none⟩ = some xs[j]

theorem OwnQ.lt {w : World} {base : Nat} {e : TypeId} {v : Value} {xs : List Value} (h : OwnQ w base e v xs) : ∀ b, v.ownBlock = some b → base ≤ b ∧ b < w.heap.size := by
  obtain ⟨g, off, cap, cur, rfl, hb, hg, _⟩ := h
  intro b e
  cases e
  exact ⟨hb, (Array.getElem?_eq_some_iff.1 hg).1⟩

theorem OwnQ.kept {w w' : World} {base : Nat} {e : TypeId} {v : Value} {xs : List Value} {r : Option Nat} (h : OwnQ w base e v xs) (hg : w.grownBy w' r) (hr : ∀ b, r = some b → v.ownBlock ≠ some b) : OwnQ w' base e v xs := by
  obtain ⟨g, off, cap, cur, rfl, hb, hh, h1, h2, h3, h4⟩ := h
  have hne : some g ≠ r := fun e => hr g e.symm rfl
  exact ⟨g, off, cap, cur, rfl, hb, (hg.block g (Array.getElem?_eq_some_iff.1 hh).1 hne).trans hh, h1, h2, h3, fun j hj => hg.cell (h4 j hj) hne⟩

theorem OwnQ.later {w w' : World} {base : Nat} {e : TypeId} {v : Value} {xs : List Value} (h : OwnQ w base e v xs) (hb : Below w.heap.size w w') : OwnQ w' base e v xs := h.kept (grownBy_below hb rfl none) (fun b hb => by cases hb)

/-- Out of an own row. -/
theorem OwnQ.of_own {w : World} {base n : Nat} {e : TypeId} {v : Value} {xs : List Value} (h : w.ownsRow base e 1 v n xs) (h0 : 0 < n) : OwnQ w base e v xs := by
  have hl : xs.length = n := by rw [h.1]; omega
  rcases h.2 with ⟨_, hn⟩ | ⟨g, cap, cur, rfl, hb, hg, hnc, hcm, hcs, _⟩
  · omega
  · refine ⟨g, 0, cap, cur, by rw [hl], hb, hg, by omega, hcm, by omega, fun j hj => ?_⟩
    rw [Nat.zero_add, h.cellAt j (by omega), List.getElem?_eq_getElem hj]

/-- The front is cut off. -/
theorem OwnQ.tail {w : World} {base g off n cap : Nat} {e : TypeId} {x : Value} {xs : List Value} (hn : n = xs.length + 1) (h : OwnQ w base e (.slice (some ⟨g, off, none⟩) n cap) (x :: xs)) : OwnQ w base e (.slice (some ⟨g, off + 1, none⟩) xs.length (cap - 1)) xs := by
  obtain ⟨g', off', cap', cur, hv, hb, hh, h1, h2, h3, h4⟩ := h
  cases hv
  simp only [List.length_cons] at h1
  refine ⟨g, off + 1, cap - 1, cur, rfl, hb, hh, by omega, by omega, by omega, fun j hj => ?_⟩
  have := h4 (j + 1) (by simpa using hj)
  rw [show off + 1 + j = off + (j + 1) by omega]
  exact this

/-- .. where nothing is left, wherever the slice is. -/
theorem OwnQ.tail0 {w : World} {base g off n cap o' : Nat} {e : TypeId} {x : Value} (h : OwnQ w base e (.slice (some ⟨g, off, none⟩) n cap) [x]) (ho : o' = off ∨ o' = off + 1) : OwnQ w base e (.slice (some ⟨g, o', none⟩) 0 (cap - 1)) [] := by
  obtain ⟨g', off', cap', cur, hv, hb, hh, h1, h2, h3, h4⟩ := h
  cases hv
  simp only [List.length_cons, List.length_nil] at h1
  exact ⟨g, o', cap - 1, cur, rfl, hb, hh, by simp, by omega, by omega, fun j hj => by simp at hj⟩

/-- The last ones are cut off. -/
theorem OwnQ.init {w : World} {base g off n cap : Nat} {e : TypeId} {xs ys : List Value} (h : OwnQ w base e (.slice (some ⟨g, off, none⟩) n cap) (xs ++ ys)) : OwnQ w base e (.slice (some ⟨g, off, none⟩) xs.length cap) xs := by
  obtain ⟨g', off', cap', cur, hv, hb, hh, h1, h2, h3, h4⟩ := h
  cases hv
  rw [List.length_append] at h1
  refine ⟨g, off, cap, cur, rfl, hb, hh, by omega, h2, h3, fun j hj => ?_⟩
  have := h4 j (by rw [List.length_append]; omega)
  rw [List.getElem_append_left hj] at this
  exact this

theorem setCells_block (g : Nat) (e : TypeId) : ∀ (vs : List Value) (o : Nat) (w : World) (cur : Array Value), w.heap[g]? = some (.cells cur e (0, 0)) → (∃ cur', (w.setCells g o vs).heap[g]? = some (.cells cur' e (0, 0)) ∧ cur'.size = cur.size) ∧ w.grownBy (w.setCells g o vs) (some g)
  | [], _, w, cur, h => ⟨⟨cur, h, rfl⟩, World.grownBy.refl _ _⟩
  | v :: r, o, w, cur, h => by
    obtain ⟨hlt, hk⟩ := Array.getElem?_eq_some_iff.1 h
    have h1 : ∃ cur1, (w.setCell ⟨g, o, none⟩ v).heap[g]? = some (.cells cur1 e (0, 0)) ∧ cur1.size = cur.size := by
      refine ⟨cur.setIfInBounds o v, ?_, by simp⟩
      show (w.heap.modify g _)[g]? = _
      rw [Array.getElem?_eq_getElem (by rw [Array.size_modify]; exact hlt), Array.getElem_modify_self, hk]
      rfl
    obtain ⟨cur1, h1, hs1⟩ := h1
    obtain ⟨⟨cur2, h2, hs2⟩, hg⟩ := setCells_block g e r (o + 1) _ cur1 h1
    exact ⟨⟨cur2, h2, hs2.trans hs1⟩, grownBy_trans (grownBy_cell w g o v) hg⟩

section
variable {P : Program} (w : World)

theorem run_append_q (base : Nat) (t ty e : TypeId) (i : TypeInfo) (z : Value) (bytes : Nat) (ht : P.underlying t = some (.slice e)) (hi : P.info? e = some i) (hz : i.zero = some z)
    (hsize : i.size = 1) (hby : i.bytes = bytes) (hzs : z.cells.size = 1) (v : Value) (xs : List Value) (hown : OwnQ w base e v xs) (hbase : base ≤ w.heap.size)
    (a : Addr) (c : Nat) (news : List Value) (hnews : ∀ j u, news[j]? = some u → w.cell? (a.add j) = some u) (h1 : ∀ u ∈ news, u.oneCell' = true)
    (h63 : xs.length + news.length ≤ maxLen) (hbytes : (xs.length + news.length) * bytes ≤ 140737488355328) :
    ∃ v' w', (Builtin.append_ #[t, t] ty #[v, .slice (some a) news.length c]).run P w = .ok v' w' ∧ OwnQ w' base e v' (xs ++ news) ∧ w.grownBy w' v.ownBlock ∧ (v'.ownBlock = v.ownBlock ∨ ∀ b, v'.ownBlock = some b → w.heap.size ≤ b) := by
  obtain ⟨g, off, cap, cur, rfl, hb, hh, hnc, hcm, hcs, hcell⟩ := hown
  by_cases hr : xs.length + news.length ≤ cap
  · have hone : ∀ j, j < cur.size → (w.cell? ⟨g, j, none⟩).isSome = true := fun j hj => by simp [World.cell?, hh, hj]
    have hrun := run_append_room_cells (P := P) w t ty e i ht hi g off xs.length cap a news.length c news (by rw [hsize]; omega) hnews h1 hr
      (fun j hj => hone _ (by rw [hsize]; omega)) (fun j hj => by simp [World.frozen?, hh])
    rw [hsize, Nat.mul_one] at hrun
    obtain ⟨⟨cur', h2, hs2⟩, hg⟩ := setCells_block g e news (off + xs.length) w cur hh
    refine ⟨_, _, hrun, ⟨g, off, cap, cur', by rw [List.length_append], hb, h2, by rw [List.length_append]; exact hr, hcm, by omega, fun j hj => ?_⟩, hg, .inl rfl⟩
    by_cases hj2 : j < xs.length
    · rw [List.getElem_append_left hj2, World.cell?_setCells_out g news _ w _ (fun _ _ => .inl (by show off + j < off + xs.length; omega))]
      exact hcell j hj2
    · rw [List.length_append] at hj
      rw [List.getElem_append_right (by omega)]
      have := World.cell?_setCells_in g news (off + xs.length) w (fun k hk => hone _ (by omega)) (j - xs.length) (by omega)
      rw [show off + xs.length + (j - xs.length) = off + j by omega] at this
      exact this
  · obtain ⟨v', w', hrun, r1, r2⟩ := run_append_arg_grows (P := P) w t ty e i z 1 bytes ht hi hz hsize hby hzs (by omega) ⟨g, off, none⟩ xs.length cap xs (by omega) (fun j u hj => by
      obtain ⟨h1, rfl⟩ := List.getElem?_eq_some_iff.1 hj
      rw [Addr.add_lit]
      exact hcell j h1) a news.length c news (by omega) hnews (by omega) h63 hbytes
    have hq := OwnQ.of_own r1 (by omega)
    obtain ⟨g2, off2, cap2, cur2, rfl, hb2, hh2, q⟩ := hq
    have hlt : g2 < w'.heap.size := (Array.getElem?_eq_some_iff.1 hh2).1
    refine ⟨_, w', hrun, ⟨g2, off2, cap2, cur2, rfl, Nat.le_trans hbase hb2, hh2, q⟩, ⟨r2.os, r2.tape, r2.output, r2.size, fun k hk _ => r2.block k hk (by simp)⟩, .inr (fun b hb => by cases hb; exact hb2)⟩

/-- Nothing is appended. -/
theorem run_append_q_nil (base : Nat) (t ty e : TypeId) (i : TypeInfo) (ht : P.underlying t = some (.slice e)) (hi : P.info? e = some i)
    (v : Value) (xs : List Value) (hown : OwnQ w base e v xs) (c : Nat) : (Builtin.append_ #[t, t] ty #[v, .slice none 0 c]).run P w = .ok v w := by
  obtain ⟨g, off, cap, cur, rfl, _, _, hnc, _⟩ := hown
  simp [Builtin.append_, run_underlying ht, sizeOf, typeInfo, hi, Builtin.lenOf, Builtin.firstCells, hnc, storeCells]

/-- AT THE OPERATION: the source is a slice or nil. -/
theorem wpList_append_q {ops : Array Oper} {rest : List Oper} {o : Oper} {a : Act} {Q : Exit → Act → World → Prop} (hgd : o.guard = none) (s x : Operand) (t : TypeId)
    (ho : o.op = .call { callee := .builtin .append, args := #[s, x], argTypes := #[t, t] })
    (base : Nat) (e : TypeId) (i : TypeInfo) (z : Value) (bytes : Nat) (ht : P.underlying t = some (.slice e)) (hi : P.info? e = some i) (hz : i.zero = some z)
    (hsize : i.size = 1) (hby : i.bytes = bytes) (hzs : z.cells.size = 1) (v : Value) (xs : List Value) (hs : a.eval s = v) (hown : OwnQ w base e v xs) (hbase : base ≤ w.heap.size)
    (A : Option Addr) (m c : Nat) (news : List Value) (hm : m = news.length) (hx : a.eval x = .slice A m c) (hA : A = none → news = []) (hnews : ∀ ad, A = some ad → ∀ j u, news[j]? = some u → w.cell? (ad.add j) = some u) (h1 : ∀ u ∈ news, u.oneCell' = true)
    (h63 : xs.length + news.length ≤ maxLen) (hbytes : (xs.length + news.length) * bytes ≤ 140737488355328)
    (h : ∀ v' w', OwnQ w' base e v' (xs ++ news) → w.grownBy w' v.ownBlock → (v'.ownBlock = v.ownBlock ∨ ∀ b, v'.ownBlock = some b → w.heap.size ≤ b) → wpList P ops Q rest (a.put o.dst v') w') :
    wpList P ops Q (o :: rest) a w := by
  subst hm
  refine wpList_plain hgd fun K hK => ?_
  cases A with
  | none =>
    have h0 := hA rfl
    subst h0
    have hrun := run_append_q_nil (P := P) w base t o.type e i ht hi v xs hown c
    unfold Oper.wp
    simp [execOp, ho, resolve, invoke, builtin, hs, hx, hrun, Result.andThen]
    exact hK _ _ (h _ _ (by simpa using hown) (World.grownBy.refl w _) (.inl rfl))
  | some ad =>
    obtain ⟨v', w', hrun, r1, r2, r3⟩ := run_append_q (P := P) w base t o.type e i z bytes ht hi hz hsize hby hzs v xs hown hbase ad c news (hnews ad rfl) h1 h63 hbytes
    unfold Oper.wp
    simp [execOp, ho, resolve, invoke, builtin, hs, hx, hrun, Result.andThen]
    exact hK _ _ (h _ _ r1 r2 r3)
end
end Go.Proofs.Ythajndgljfbifaa
namespace Go.Proofs.Ythajndgljfbifaa
open Go.RowKit
set_option maxRecDepth 100000

/-- Bools in memory. -/
def BoolsAt (w : World) (a : Option Addr) (l : List Bool) : Prop := l = [] ∨ ∃ b off, a = some ⟨b, off, none⟩ ∧ ∀ i (h : i < l.length), w.cell? ⟨b, off + i, none⟩ = some (.bool l[i])

def GivesBools (l : List Bool) (w : World) (e : Ending) (w' : World) : Prop := ∃ a cap, e = .returned (.slice a l.length cap) ∧ BoolsAt w' a l ∧ Below w.heap.size w w'

/-- What the library's Repeat gives for one bool. -/
def RepOk : Prop := ∀ (W : World) (g n cap : Nat), 1 ≤ n → n ≤ 64 → W.cell? ⟨g, 0, none⟩ = some (.bool true) →
  Calls Try.prog 70 #[.slice (some ⟨g, 0, none⟩) 1 cap, .int .i64 (n : Int)] W (GivesBools (List.replicate n true) W)

theorem info_bool8 : (Try.prog.info? 4).map (fun i => (i.zero, i.size, i.bytes)) = some (some (.bool false), 1, 1) := by kernel_rfl

def boolV (M : List Bool) : List Value := M.map Value.bool
def natI (Q : List Nat) : List Value := Q.map fun q : Nat => Value.int .i64 (q : Int)

/-- What lies in memory while the search goes on. -/
structure RstQ (C : List Ins) (W0 : World) (g : Nat) (M : List Bool) (Q : List Nat) (v : Value) (W : World) : Prop where
  own : W.ownsRow W0.heap.size 4 1 (.slice (some ⟨g, 0, none⟩) C.length C.length) C.length (boolV M)
  que : OwnQ W W0.heap.size 3 v (natI Q)
  off : v.ownBlock ≠ some g
  bel : Below W0.heap.size W0 W

theorem RstQ.cells {C : List Ins} {W0 : World} {g : Nat} {M : List Bool} {Q : List Nat} {v : Value} {W : World} (h : RstQ C W0 g M Q v W) (hl : M.length = C.length) : ∀ j (h : j < M.length), W.cell? ⟨g, j, none⟩ = some (.bool M[j]) := fun j hj => by
  rw [h.own.cellAt j (by omega)]
  simp [boolV, hj]

theorem RstQ.lenV {C : List Ins} {W0 : World} {g : Nat} {M : List Bool} {Q : List Nat} {v : Value} {W : World} (h : RstQ C W0 g M Q v W) : lenV v = Q.length := by
  obtain ⟨_, _, _, _, rfl, _⟩ := h.que
  simp [Go.Proofs.Ythajndgljfbifaa.lenV, natI]

theorem RstQ.later {C : List Ins} {W0 : World} {g : Nat} {M : List Bool} {Q : List Nat} {v : Value} {W W' : World} (h : RstQ C W0 g M Q v W) (hb : Below W.heap.size W W') : RstQ C W0 g M Q v W' :=
  ⟨own_later8 h.own hb, h.que.later hb, h.off, h.bel.trans (hb.mono h.bel.size)⟩

/-- The targets in memory, off the search's own blocks. -/
def RtT (aT : Option Addr) (T : List Int) (g : Nat) (v : Value) (W : World) : Prop :=
  T = [] ∨ ∃ b off, aT = some ⟨b, off, none⟩ ∧ b ≠ g ∧ v.ownBlock ≠ some b ∧ b < W.heap.size ∧ ∀ i (h : i < T.length), W.cell? ⟨b, off + i, none⟩ = some (.int .i64 T[i])

theorem RtT.kept {aT : Option Addr} {T : List Int} {g : Nat} {v v' : Value} {W W' : World} {r : Option Nat} (h : RtT aT T g v W) (hg : W.grownBy W' r) (hr : r = none ∨ r = some g ∨ r = v.ownBlock) (hv : v'.ownBlock = v.ownBlock ∨ ∀ b, v'.ownBlock = some b → W.heap.size ≤ b) : RtT aT T g v' W' := by
  rcases h with h | ⟨b, off, ha, hb, hn, hlt, hc⟩
  · exact .inl h
  · have hne : some b ≠ r := by
      rcases hr with rfl | rfl | rfl
      · simp
      · simpa using hb
      · exact fun e => hn e.symm
    refine .inr ⟨b, off, ha, hb, ?_, Nat.lt_of_lt_of_le hlt hg.size, fun i hi => hg.cell (hc i hi) hne⟩
    rcases hv with hv | hv
    · rw [hv]; exact hn
    · intro e; have := hv b e; omega

theorem tgtV_nonneg {x : Ins} {p : Int} (hv : vinB x = true) (hp : 0 ≤ p) : ∀ t ∈ tgtV x p, 0 ≤ t := by
  have hi : 0 ≤ x.imm := ((vinB_iff x).1 hv).2.2.2.2.2.2.2.2.1
  intro t ht
  unfold tgtV at ht
  split at ht
  · simp at ht; omega
  · split at ht
    · simp at ht
    · split at ht
      · split at ht
        · simp at ht; omega
        · split at ht <;> simp at ht <;> omega
      · simp at ht; omega

theorem tgtV_len (x : Ins) (p : Int) : (tgtV x p).length ≤ 2 := by
  unfold tgtV
  split
  · simp
  · split
    · simp
    · split
      · split
        · simp
        · split <;> simp
      · simp

theorem info_int9 : (Try.prog.info? 3).map (fun i => (i.zero, i.size, i.bytes)) = some (some (.int .i64 0), 1, 8) := by kernel_rfl

/-- One more is marked and put behind the queue. -/
theorem RstQ.push {C : List Ins} {W0 : World} {g t : Nat} {M : List Bool} {Q : List Nat} {v v' : Value} {W W' : World} {aT : Option Addr} {T : List Int} (h : RstQ C W0 g M Q v W) (hT : RtT aT T g v W) (o : Obj)
    (hq : OwnQ W' W0.heap.size 3 v' (natI Q ++ [.int .i64 (t : Int)])) (hg : ((W.setCell ⟨g, t, none⟩ (.bool true)).alloc o).grownBy W' v.ownBlock) (hv : v'.ownBlock = v.ownBlock ∨ ∀ b, v'.ownBlock = some b → W.heap.size + 1 ≤ b) :
    RstQ C W0 g (M.set t true) (Q ++ [t]) v' W' ∧ RtT aT T g v' W' := by
  have hst := h.own.stored t (.bool true)
  have hgl := (h.own.lt g rfl)
  have e1 : (boolV M).set t (.bool true) = boolV (M.set t true) := by simp [boolV, List.map_set]
  rw [e1] at hst
  have gA := World.grownBy_alloc (W.setCell ⟨g, t, none⟩ (.bool true)) o
  have hsz : ((W.setCell ⟨g, t, none⟩ (.bool true)).alloc o).heap.size = W.heap.size + 1 := by simp
  have b1 := (h.bel.grown hst.2 h.bel.size (fun k hk => by cases hk; exact hgl.1)).grown (gA none) (by simp; exact h.bel.size) (fun k hk => by cases hk)
  refine ⟨⟨(hst.1.kept (gA none) (.inr (by simp [Value.ownBlock]))).kept hg (.inr (fun e => h.off e.symm)), by simpa [natI] using hq, fun e => ?_, b1.grown hg b1.size (fun k hk => (h.que.lt k hk).1)⟩,
    ((hT.kept hst.2 (.inr (.inl rfl)) (.inl rfl)).kept (gA none) (.inl rfl) (.inl rfl)).kept hg (.inr (.inr rfl)) (by rw [hsz]; exact hv)⟩
  rcases hv with hv | hv
  · exact h.off (hv ▸ e)
  · have := hv g e
    omega

theorem made_bools (n : Nat) : (madeCells #[Value.bool false] (n * 1)).toList = boolV (List.replicate n false) := by
  rw [Nat.mul_one, boolV, List.map_replicate]
  apply List.ext_getElem
  · simp [madeCells]
  · intro i h1 h2
    simp [madeCells, Nat.mod_one]

set_option maxHeartbeats 4000000 in
theorem program_Reach (HRep : RepOk) (ac a2 ad : Option Addr) (C : List Ins) (s : List Int) (L : List (List Nat)) (cc c2 cd : Nat) (w : World) (hc : CodeAt w ac C) (hs : IntsAt .i64 w a2 s) (hd : DatAt w ad L) (hg : GoodPg C s L) :
    Calls Try.prog 26 #[.agg #[.slice ac C.length cc, .slice a2 s.length c2, .slice ad L.length cd]] w (GivesBools (rchL C) w) := by
  have hB := Below.alloc (Below.refl w.heap.size w) (Nat.le_refl _) (.cells #[.slice ac C.length cc, .slice a2 s.length c2, .slice ad L.length cd] 26)
  have b0 := Blk.new (W := w) #[.slice ac C.length cc, .slice a2 s.length c2, .slice ad L.length cd] 26
  have hc0 := hc.later hB
  have hs0 := ints_later7 hs hB
  have hd0 := hd.later hB
  obtain ⟨l64, s1, s4, hln, hsz, hdl⟩ := good_lens hg
  have l1 : 1 ≤ C.length := hg.2.2.1
  have hk0 := chk_good.2 hg
  have HCk := Lib.hid (program_Check ac a2 ad C s L cc c2 cd _ hc0 hs0 hd0 (by omega) (by omega) (by omega) (fun l hl => by obtain ⟨i, hi, rfl⟩ := List.mem_iff_getElem.1 hl; have := hdl i hi; omega))
  rw [hk0] at HCk
  clear hc hs hd hs0 hd0 hk0 s1 s4 hln hsz hdl
  go_enter Try.func26, Try.ntmps26
  go_upto_region 1 with fail
  generalize w.alloc (.cells #[.slice ac C.length cc, .slice a2 s.length c2, .slice ad L.length cd] 26) = W0 at *
  have p0 := (b0 0 (by simp)).1
  have p1 := (b0 1 (by simp)).1
  have p2 := (b0 2 (by simp)).1
  obtain ⟨i0, hi, hz0, hz1, hz2⟩ := info_parts info_bool8
  obtain ⟨m, hm⟩ : ∃ m, C.length = m + 1 := ⟨C.length - 1, by omega⟩
  have HM := Lib.hid hm
  clear hm
  go_upto_region 3 with (go_at_call 15; (with_reducible refine HCk.out.mono ?_); rintro e w1 ⟨rfl, hb1⟩)
  have p0 := (b0.later hb1 0 (by simp)).1
  clear HCk
  go_upto_region 4 with (at_make; refine wpList_make_full _ rfl _ _ 62 rfl W0.heap.size 4 i0 (.bool false) 1 Try.underlying62 hi hz0 hz1 .i64 .i64 _ _ C.length rfl rfl rfl rfl ?c1 ?c2 ?c3 ?_)
  case c1 => rw [hz2]; omega
  case c2 => unfold maxLen; omega
  case c3 => exact hb1.size
  intro w2 hown hg2
  rw [show (madeCells #[Value.bool false] C.length).toList = boolV (List.replicate C.length false) by have := made_bools C.length; rwa [Nat.mul_one] at this] at hown
  have hb2 : Below W0.heap.size W0 w2 := hb1.grown hg2 hb1.size (fun k hk => by cases hk)
  obtain ⟨g, hgv⟩ : ∃ g, g = w1.heap.size := ⟨_, rfl⟩
  rw [← hgv] at hown
  rw [← hgv]
  have hst := Lib.hid (hown.stored 0 (.bool true))
  have hcell : w2.cell? ⟨g, 0, none⟩ = some (.bool false) := by rw [hown.cellAt 0 (by omega)]; simp [boolV, HM.out]
  have hfr := hown.frozenAt 0
  have p0 := (b0.later hb2 0 (by simp)).1
  have i0' : (0 : Int) < (C.length : Int) := by omega
  have hg0 : W0.heap.size ≤ g := by rw [hgv]; exact hb1.size
  have hg1 : g < w2.heap.size := World.block_lt_of_cell? _ _ hcell
  clear hgv hown hg2 hb1
  go_upto_region 6 with fail
  have hst := hst.out
  have hb3 : Below W0.heap.size W0 (w2.setCell ⟨g, 0, none⟩ (.bool true)) := hb2.grown hst.2 hb2.size (fun k hk => by cases hk; exact hg0)
  have hM0 : (boolV (List.replicate C.length false)).set 0 (.bool true) = boolV (true :: List.replicate m false) := by rw [HM.out]; simp [boolV, List.replicate_succ]
  have hown3 : (w2.setCell ⟨g, 0, none⟩ (.bool true)).ownsRow W0.heap.size 4 1 (.slice (some ⟨g, 0, none⟩) C.length C.length) C.length (boolV (true :: List.replicate m false)) := by rw [← hM0]; exact hst.1
  have hsz3 : (w2.setCell ⟨g, 0, none⟩ (.bool true)).heap.size = w2.heap.size := by simp
  clear hst hcell hfr hM0 hb2
  generalize w2.setCell ⟨g, 0, none⟩ (.bool true) = w3 at *
  have hA4 := Below.alloc (Below.refl w3.heap.size w3) (Nat.le_refl _) (.cells #[.int .i64 0] 3)
  have hR0 : RstQ C W0 g (true :: List.replicate m false) [0] (.slice (some ⟨w2.heap.size, 0, none⟩) 1 1) (w3.alloc (.cells #[.int .i64 0] 3)) := by
    refine ⟨own_later8 hown3 hA4, ⟨w2.heap.size, 0, 1, #[.int .i64 0], rfl, by rw [← hsz3]; exact hb3.size, by rw [← hsz3]; exact heap_alloc_new w3 _, by simp [natI], by unfold maxLen; omega, by simp, fun j hj => ?_⟩, fun e => absurd (Option.some.inj e : w2.heap.size = g) (by omega), hb3.trans (hA4.mono hb3.size)⟩
    obtain rfl : j = 0 := by simpa [natI] using hj
    have h := (Blk.new (W := w3) #[.int .i64 0] 3 0 (by simp)).1
    rw [hsz3] at h
    exact h
  have HCode := Lib.hid (fun W (h : Below W0.heap.size W0 W) => And.intro (hc0.later h) (b0.later h))
  have HWB := Lib.hid hB
  clear hA4 hown3 hb3 hB b0 hc0 p0
  have hs3 : g < w2.heap.size := hg1
  clear hsz3
  generalize w3.alloc (.cells #[.int .i64 0] 3) = w4 at *
  generalize w2.heap.size = h4 at *
  go_loopw [4] (fun v4 wr => ∃ M Q, RstQ C W0 g M Q v4 wr ∧ Srch C M Q ∧ unM M + Q.length ≤ C.length) (fun v4 wr => unM (bitsW wr g C.length) + lenV v4)
  case atStart => exact ⟨_, _, hR0, .start HM.out, by rw [unM_start, HM.out]; simp⟩
  clear hR0 hs3 hg1
  obtain ⟨M, Q, hR, hS, hcn⟩ := hrel
  have hml := hS.len
  have hcells := hR.cells hml
  obtain ⟨gq, off, cap, cur, rfl, hbq, hhq, hcapq, hmax, hin, hqc⟩ := hR.que
  cases Q with
  | nil =>
    have HF : Hid (GivesBools (rchL C) w (.returned (.slice (some ⟨g, 0, none⟩) C.length C.length)) wr) := Lib.hid (by
      have e := hS.done
      subst e
      refine ⟨_, _, by rw [rchL_length], .inr ⟨g, 0, rfl, fun i hi => by rw [Nat.zero_add]; exact hcells i hi⟩, HWB.out.trans (hR.bel.mono HWB.out.size)⟩)
    have e0 : (natI []).length = 0 := rfl
    rw [e0]
    clear hcells hqc hR hS
    go_wp2_with fail
    go_ret
    exact HF.out
  | cons k Q =>
    have hlq : (natI (k :: Q)).length = Q.length + 1 := by simp [natI]
    have hque := hR.que
    have hoff := hR.off
    rw [hlq] at hcapq hque hoff ⊢
    have q0 : wr.cell? ⟨gq, off, none⟩ = some (.int .i64 (k : Int)) := hqc 0 (by rw [hlq]; omega)
    obtain ⟨hk, hmk⟩ := hS.todo k (by simp)
    have hkC : k < C.length := by omega
    obtain ⟨hcode, hbox⟩ := HCode.out wr hR.bel
    obtain ⟨bc, oc, rfl, hcc⟩ := hcode.some hkC
    obtain ⟨x0, x1, x2, x3, x4⟩ := hcc k hkC
    have p0 : wr.cell? ⟨w.heap.size, 0, none⟩ = some (.slice (some ⟨bc, oc, none⟩) C.length cc) := (hbox 0 (by simp)).1
    have i1 : (0 : Int) < ((Q.length + 1 : Nat) : Int) := by omega
    have i2 : (k : Int) < (C.length : Int) := by omega
    have i3 : 0 ≤ (k : Int) := by omega
    have HMS : Hid (unM (bitsW wr g C.length) = unM M) := Lib.hid (by rw [bitsW_eq hml hcells])
    have HL := Lib.hid (program_leadsAnywhere C[k])
    have HQ1 : Hid (∀ o', (Q = [] → o' = off ∨ o' = off + 1) → (Q ≠ [] → o' = off + 1) → OwnQ wr W0.heap.size 3 (.slice (some ⟨gq, o', none⟩) Q.length (cap - 1)) (natI Q)) := Lib.hid (by
      intro o' h1 h2
      cases hQ : Q with
      | nil => subst hQ; exact OwnQ.tail0 hque (h1 rfl)
      | cons y r =>
        rw [h2 (by rw [hQ]; simp), ← hQ]
        have := OwnQ.tail (xs := natI Q) (by simp [natI]) hque
        simpa [natI] using this)
    clear hque hcode hbox hcc hqc hcells hlq
    go_upto_region 9 with fail
    obtain ⟨o', ho', hque'⟩ : ∃ o', (if cap = 1 then (some ⟨gq, off, none⟩ : Option Addr) else some ⟨gq, off + 1, none⟩) = some ⟨gq, o', none⟩ ∧ OwnQ wr W0.heap.size 3 (.slice (some ⟨gq, o', none⟩) Q.length (cap - 1)) (natI Q) := by
      by_cases h1 : cap = 1
      · exact ⟨off, by rw [if_pos h1], HQ1.out off (fun _ => .inl rfl) (fun hne => by
          have : 0 < Q.length := List.length_pos_iff.2 hne
          omega)⟩
      · exact ⟨off + 1, by rw [if_neg h1], HQ1.out (off + 1) (fun _ => .inr rfl) (fun _ => rfl)⟩
    rw [ho']
    have hR5 : RstQ C W0 g M Q (.slice (some ⟨gq, o', none⟩) Q.length (cap - 1)) wr := ⟨hR.own, hque', fun e => hoff e, hR.bel⟩
    have HVin := Lib.hid (hg.2.2.2.2.2 k hkC).1
    have HTg := Lib.hid (fun W => instr_Targets C[k] k W (by omega) HVin.out)
    have HPop := Lib.hid (Srch.pop (T := tgtV C[k] ((k : Int) + 1)) hS)
    have HRk : Hid (Rch C k) := Lib.hid (hS.sound k hk hmk)
    unfold insV at HL HTg
    clear HQ1 hque' hR hoff ho' hhq hin hmax hcapq hbq i1 q0
    have hgg := Lib.hid hg
    clear hg
    obtain ⟨x, hx⟩ : ∃ x, x = C[k] := ⟨_, rfl⟩
    have HXE := Lib.hid hx
    rw [← hx] at HL HTg HPop HVin x0 x1 x2 x3 x4
    clear hx
    cases hany : anyB x with
    | true =>
      rw [hany] at HL
      have HAll : Hid (rchL C = List.replicate C.length true) := Lib.hid (rchL_all (rch_any HRk.out hkC (by rw [← HXE.out]; exact hany)))
      clear hany HPop HTg HVin hcn
      go_upto_region 10 with (go_at_call 69; (with_reducible refine (HL.out _).mono ?_); rintro e w5 ⟨rfl, hb5⟩)
      have p0 := cell_later hb5 p0
      have hA6 := Below.alloc (Below.refl w5.heap.size w5) (Nat.le_refl _) (.cells #[.bool true] 4)
      have HR := Lib.hid (HRep (w5.alloc (.cells #[.bool true] 4)) w5.heap.size C.length 1 l1 l64 (Blk.new (W := w5) #[.bool true] 4 0 (by simp)).1)
      have HB6 := Lib.hid ((HWB.out.trans (hR5.bel.mono HWB.out.size)).trans ((hb5.trans (hA6.mono hb5.size)).mono (Nat.le_trans HWB.out.size hR5.bel.size)))
      have p0 := cell_later hA6 p0
      clear hA6 hR5 hb5
      go_wp2_with (go_at_call 70; (with_reducible refine HR.out.mono ?_); rintro e w7 ⟨a7, c7, rfl, hb7, hbel7⟩)
      go_ret
      refine ⟨a7, c7, ?_, by rw [HAll.out]; exact hb7, HB6.out.trans (hbel7.mono HB6.out.size)⟩
      rw [HAll.out, List.length_replicate]
      rfl
    | false =>
      rw [hany] at HL
      have HAF := Lib.hid hany
      clear hany HRep
      go_upto_region 11 with (go_at_call 69; (with_reducible refine (HL.out _).mono ?_); rintro e w5 ⟨rfl, hb5⟩)
      have p0 := cell_later hb5 p0
      have x0 := cell_later hb5 x0
      have x1 := cell_later hb5 x1
      have x2 := cell_later hb5 x2
      have x3 := cell_later hb5 x3
      have x4 := cell_later hb5 x4
      have hR6 := hR5.later hb5
      clear hR5 hb5 HL
      go_upto_region 12 with (go_at_call 71; (with_reducible refine (HTg.out _).mono ?_); rintro e w7 ⟨aT, cT, rfl, hT, hb7⟩)
      have hgw : g < w5.heap.size := (hR6.own.lt g rfl).2
      have hqw : gq < w5.heap.size := (hR6.que.lt gq rfl).2
      have hR7 := hR6.later hb7
      have HT0 : Hid (∀ i (h : i < (tgtV x ((k : Int) + 1)).length), 0 ≤ (tgtV x ((k : Int) + 1))[i]) := Lib.hid (fun i h => tgtV_nonneg HVin.out (by omega) _ (List.getElem_mem h))
      have hRT : RtT aT (tgtV x ((k : Int) + 1)) g (.slice (some ⟨gq, o', none⟩) Q.length (cap - 1)) w7 := by
        rcases hT with h | ⟨b, off, ha, hb, hc⟩
        · exact .inl h
        · by_cases h0 : tgtV x ((k : Int) + 1) = []
          · exact .inl h0
          · have hp : 0 < (tgtV x ((k : Int) + 1)).length := List.length_pos_iff.2 h0
            exact .inr ⟨b, off, ha, by omega, fun e => absurd (Option.some.inj e : gq = b) (by omega), World.block_lt_of_cell? _ _ (hc 0 hp), hc⟩
      have HFn : Hid (∀ M' Q', SrchM C k (tgtV x ((k : Int) + 1)) (tgtV x ((k : Int) + 1)).length M' Q' → Srch C M' Q') := Lib.hid (fun M' Q' h => SrchM.finish hkC (by rw [← HXE.out]; exact h) (by rw [← HXE.out]; exact HAF.out))
      have HLd : Hid (∀ j (h : j < (tgtV x ((k : Int) + 1)).length) (t : Nat), (tgtV x ((k : Int) + 1))[j] = (t : Int) → Leads C k t) := Lib.hid (fun j h t e => ⟨hkC, .inl (by rw [← HXE.out, ← e]; exact List.getElem_mem h)⟩)
      have hPop := HPop.out
      have hTl := tgtV_len x ((k : Int) + 1)
      obtain ⟨N0, hN0⟩ : ∃ N0, N0 = unM M + Q.length := ⟨_, rfl⟩
      have hcn' : N0 + 1 ≤ C.length := by simp only [List.length_cons] at hcn; omega
      have hN1 : unM M + Q.length ≤ N0 := by omega
      have HMS2 : Hid (unM (bitsW wr g C.length) + (Q.length + 1) = N0 + 1) := Lib.hid (by rw [HMS.out, hN0]; omega)
      clear hN0 hcn hR6 hb7 hT HTg HVin HXE HAF HPop HMS hgw hqw
      generalize tgtV x ((k : Int) + 1) = T at *
      generalize Value.slice (some ⟨gq, o', none⟩) Q.length (cap - 1) = v4 at *
      go_loopw [4, 45] (fun v4 c wr => ∃ (j : Nat) (M' : List Bool) (Q' : List Nat), j ≤ T.length ∧ c = .int .i64 j ∧ RstQ C W0 g M' Q' v4 wr ∧ RtT aT T g v4 wr ∧ SrchM C k T j M' Q' ∧ unM M' + Q'.length ≤ N0) (fun _ c _ => T.length - (intOf c).toNat)
      case atStart => exact ⟨0, M, Q, by omega, rfl, hR7, hRT, hPop, hN1⟩
      clear hR7 hRT hPop hN1
      obtain ⟨j, M', Q', hj, rfl, hR, hRT, hSM, hN⟩ := hrel
      by_cases hlt : j < T.length
      · obtain ⟨bT, oT, rfl, hbg, hTc⟩ : ∃ b off, aT = some ⟨b, off, none⟩ ∧ b ≠ g ∧ ∀ i (h : i < T.length), wr.cell? ⟨b, off + i, none⟩ = some (.int .i64 T[i]) := by
          rcases hRT with h | ⟨b, off, ha, hb, _, _, hc⟩
          · subst h; simp at hlt
          · exact ⟨b, off, ha, hb, hc⟩
        have t0 := hTc j hlt
        obtain ⟨t, ht⟩ : ∃ t : Nat, T[j] = (t : Int) := ⟨T[j].toNat, by have := HT0.out j hlt; omega⟩
        rw [ht] at t0
        have HLT := Lib.hid hlt
        have i4 : (j : Int) < (T.length : Int) := by omega
        have i5 : 0 ≤ (j : Int) := by omega
        have i6 : 0 ≤ (t : Int) := by omega
        have p0 : wr.cell? ⟨w.heap.size, 0, none⟩ = some (.slice (some ⟨bc, oc, none⟩) C.length cc) := ((HCode.out wr hR.bel).2 0 (by simp)).1
        clear hTc hbg
        by_cases htl : t < C.length
        · have i7 : (t : Int) < (C.length : Int) := by omega
          have hmt := hR.cells hSM.len t (by rw [hSM.len]; exact htl)
          cases hM : M'[t]'(by rw [hSM.len]; exact htl) with
          | true =>
            rw [hM] at hmt
            have HNx : Hid (SrchM C k T (j + 1) M' Q') := Lib.hid (hSM.skip hlt (fun t' e h => by
              obtain rfl : t' = t := by have := ht.symm.trans e; omega
              exact hM))
            clear hM hSM
            go_wp2_with fail
            refine ⟨⟨j + 1, M', Q', HLT.out, by go_num, hR, hRT, HNx.out, hN⟩, ?_⟩
            have := HLT.out
            simp [intOf]
            omega
          | false =>
            rw [hM] at hmt
            have hfr := hR.own.frozenAt t
            have HNx : Hid (SrchM C k T (j + 1) (M'.set t true) (Q' ++ [t])) := Lib.hid (hSM.mark hlt ht (by rw [hSM.len]; exact htl) (HLd.out j hlt t ht))
            have HUn : Hid (unM (M'.set t true) + 1 = unM M') := Lib.hid (unM_set (M := M') (by rw [hSM.len]; exact htl) hM)
            have HPush := Lib.hid (fun v' W' (hq : OwnQ W' W0.heap.size 3 v' (natI Q' ++ [.int .i64 (t : Int)])) hg hv => hR.push (t := t) (v' := v') (W' := W') hRT (.cells #[.int .i64 (t : Int)] 3) hq hg hv)
            have hst := (hR.own.stored t (.bool true)).2
            have hQs := (hR.que.kept hst (fun b hb => by cases hb; exact hR.off)).kept (World.grownBy_alloc _ (.cells #[.int .i64 (t : Int)] 3) none) (fun b hb => by cases hb)
            have hNw := Blk.new (W := wr.setCell ⟨g, t, none⟩ (.bool true)) #[.int .i64 (t : Int)] 3
            have hss : (wr.setCell ⟨g, t, none⟩ (.bool true)).heap.size = wr.heap.size := by simp
            rw [hss] at hNw
            obtain ⟨y0, hy, hy0, hy1, hy2⟩ := info_parts info_int9
            have hbw := hR.bel.size
            have hql : (natI Q').length = Q'.length := by simp [natI]
            have hlV := hR.lenV
            have HNC := Lib.hid hN
            clear hM hSM hst hR hRT
            go_wp2_with (at_builtin; refine wpList_append_q _ rfl (.tmp 64) (.tmp 66) 23 rfl W0.heap.size 3 y0 (.int .i64 0) 8 Try.underlying23 hy hy0 hy1 hy2 rfl _ (natI Q') rfl hQs (Nat.le_trans hbw (by simp)) (some ⟨wr.heap.size, 0, none⟩) 1 1 [.int .i64 (t : Int)] rfl rfl (fun e => by cases e) (fun ad had => by cases had; exact blk_news8 hNw) ?u3 ?u4 ?u5 ?_)
            case u3 => rfl
            case u4 => unfold maxLen; omega
            case u5 => omega
            intro v' w9 hq9 hg9 hv9
            obtain ⟨hR9, hRT9⟩ := HPush.out v' w9 hq9 hg9 hv9
            clear hq9 hg9 hv9 HPush hNw hQs
            go_wp2_with fail
            refine ⟨⟨j + 1, M'.set t true, Q' ++ [t], HLT.out, by go_num, hR9, hRT9, HNx.out, ?_⟩, ?_⟩
            · have h1 := HUn.out
              have h2 := HNC.out
              rw [List.length_append]
              simp only [List.length_cons, List.length_nil]
              omega
            · have := HLT.out
              simp [intOf]
              omega
        · have i7 : ¬ (t : Int) < (C.length : Int) := by omega
          have HNx : Hid (SrchM C k T (j + 1) M' Q') := Lib.hid (hSM.skip hlt (fun t' e h => by
            obtain rfl : t' = t := by have := ht.symm.trans e; omega
            rw [hSM.len] at h
            exact absurd h htl))
          clear hSM
          go_wp2_with fail
          refine ⟨⟨j + 1, M', Q', HLT.out, by go_num, hR, hRT, HNx.out, hN⟩, ?_⟩
          have := HLT.out
          simp [intOf]
          omega
      · obtain rfl : j = T.length := by omega
        have HEnd := Lib.hid (HFn.out _ _ hSM)
        have hBW := bitsW_eq hSM.len (hR.cells hSM.len)
        have hLV := hR.lenV
        clear hSM
        go_wp2_with fail
        refine ⟨⟨M', Q', hR, HEnd.out, by omega⟩, ?_⟩
        rw [hBW, hLV]
        have := HMS2.out
        simp only [lenV]
        omega
end Go.Proofs.Ythajndgljfbifaa
namespace Go.Proofs.Ythajndgljfbifaa
open Go.RowKit
set_option maxRecDepth 100000

/-- The stack's state. -/
structure SrchS (C : List Ins) (M : List Bool) (Q : List Nat) : Prop where
  len : M.length = C.length
  sound : ∀ j (h : j < M.length), M[j] = true → Rch C j
  todo : ∀ q ∈ Q, q < M.length → Rch C q
  first : (∃ h : 0 < M.length, M[0] = true) ∨ 0 ∈ Q
  closed : ∀ k (h : k < M.length), M[k] = true → ∀ j (h2 : j < M.length), Leads C k j → M[j] = true ∨ j ∈ Q

theorem SrchS.start {C : List Ins} : SrchS C (List.replicate C.length false) [0] := by
  refine ⟨by simp, fun j h hm => by simp at hm, fun q hq _ => ?_, .inr (by simp), fun k h hm => by simp at hm⟩
  rw [List.mem_singleton] at hq; subst hq; exact .zero

theorem SrchS.done {C : List Ins} {M : List Bool} (h : SrchS C M []) : M = rchL C := by
  refine rchL_eq h.len (fun j hj => ⟨h.sound j hj, fun hr => ?_⟩)
  have := rch_least (C := C) (p := fun j => ∃ hj : j < M.length, M[j] = true) (h.first.resolve_right (by simp)) (fun k j ⟨hk, hm⟩ _ hj hl => by
    have hj' : j < M.length := by rw [h.len]; exact hj
    exact ⟨hj', (h.closed k hk hm j hj' hl).resolve_right (by simp)⟩) j hr
  exact this.2

theorem SrchS.skip {C : List Ins} {M : List Bool} {Q : List Nat} {t : Nat} (h : SrchS C M (Q ++ [t])) (ht : ∀ h : t < M.length, M[t] = true) (h0 : 0 < M.length) : SrchS C M Q := by
  refine ⟨h.len, h.sound, fun q hq => h.todo q (by simp [hq]), ?_, fun k hk hm j hj hl => ?_⟩
  · rcases h.first with h1 | h1
    · exact .inl h1
    · rcases List.mem_append.1 h1 with h1 | h1
      · exact .inr h1
      · rw [List.mem_singleton] at h1
        subst h1
        exact .inl ⟨h0, ht h0⟩
  · rcases h.closed k hk hm j hj hl with h1 | h1
    · exact .inl h1
    · rcases List.mem_append.1 h1 with h1 | h1
      · exact .inr h1
      · rw [List.mem_singleton] at h1
        subst h1
        exact .inl (ht hj)

/-- t is marked; what may follow it goes on the stack. -/
theorem SrchS.mark {C : List Ins} {M : List Bool} {Q N : List Nat} {t : Nat} (h : SrchS C M (Q ++ [t])) (ht : t < M.length) (hN : ∀ q ∈ N, q < C.length → Leads C t q) (hN2 : ∀ j, j < C.length → Leads C t j → j ∈ N) : SrchS C (M.set t true) (Q ++ N) := by
  have hls : (M.set t true).length = M.length := List.length_set
  have hrt : Rch C t := h.todo t (by simp) ht
  have htC : t < C.length := by rw [← h.len]; exact ht
  have hup : ∀ i (h1 : i < M.length) (h2 : i < (M.set t true).length), M[i] = true → (M.set t true)[i] = true := by
    intro i h1 h2 hm
    rw [List.getElem_set]
    split
    · rfl
    · exact hm
  refine ⟨hls.trans h.len, fun i hi hm => ?_, fun q hq hl => ?_, ?_, fun k hk hm j hj hl => ?_⟩
  · rw [List.getElem_set] at hm
    split at hm
    · next e => subst e; exact hrt
    · exact h.sound i (by omega) hm
  · rcases List.mem_append.1 hq with hq | hq
    · exact h.todo q (by simp [hq]) (by omega)
    · have hqC : q < C.length := by rw [← h.len]; omega
      exact .step hrt htC hqC (hN q hq hqC)
  · rcases h.first with ⟨h1, h2⟩ | h1
    · exact .inl ⟨by omega, hup 0 h1 _ h2⟩
    · rcases List.mem_append.1 h1 with h1 | h1
      · exact .inr (by simp [h1])
      · rw [List.mem_singleton] at h1
        subst h1
        exact .inl ⟨by omega, by rw [List.getElem_set_self]⟩
  · by_cases e : k = t
    · subst e
      exact .inr (List.mem_append_right _ (hN2 j (by rw [← h.len]; omega) hl))
    · rw [List.getElem_set_ne (fun e2 => e e2.symm)] at hm
      rcases h.closed k (by omega) hm j (by omega) hl with h1 | h1
      · exact .inl (hup j (by omega) hj h1)
      · rcases List.mem_append.1 h1 with h1 | h1
        · exact .inr (by simp [h1])
        · rw [List.mem_singleton] at h1
          subst h1
          exact .inl (by rw [List.getElem_set_self])

/-- The bools' row is written. -/
theorem RstQ.set {C : List Ins} {W0 : World} {g t : Nat} {M : List Bool} {Q : List Nat} {v : Value} {W : World} (h : RstQ C W0 g M Q v W) : RstQ C W0 g (M.set t true) Q v (W.setCell ⟨g, t, none⟩ (.bool true)) := by
  have hst := h.own.stored t (.bool true)
  have e1 : (boolV M).set t (.bool true) = boolV (M.set t true) := by simp [boolV, List.map_set]
  rw [e1] at hst
  exact ⟨hst.1, h.que.kept hst.2 (fun b hb => by cases hb; exact h.off), h.off, h.bel.grown hst.2 h.bel.size (fun k hk => by cases hk; exact (h.own.lt g rfl).1)⟩

/-- The stack is cut. -/
theorem RstQ.cut {C : List Ins} {W0 : World} {g gq off n cap : Nat} {M : List Bool} {Q R : List Nat} {W : World} (h : RstQ C W0 g M (Q ++ R) (.slice (some ⟨gq, off, none⟩) n cap) W) : RstQ C W0 g M Q (.slice (some ⟨gq, off, none⟩) Q.length cap) W := by
  have hq := h.que
  rw [show natI (Q ++ R) = natI Q ++ natI R by simp [natI]] at hq
  have := hq.init
  rw [show (natI Q).length = Q.length by simp [natI]] at this
  exact ⟨h.own, this, h.off, h.bel⟩

/-- The stack has grown. -/
theorem RstQ.app {C : List Ins} {W0 : World} {g : Nat} {M : List Bool} {Q Q2 : List Nat} {v v' : Value} {W W' : World} (h : RstQ C W0 g M Q v W) (hq : OwnQ W' W0.heap.size 3 v' (natI Q2)) (hg : W.grownBy W' v.ownBlock) (hv : v'.ownBlock = v.ownBlock ∨ ∀ b, v'.ownBlock = some b → W.heap.size ≤ b) : RstQ C W0 g M Q2 v' W' := by
  have hgl := (h.own.lt g rfl).2
  refine ⟨h.own.kept hg (.inr (fun e => h.off e.symm)), hq, fun e => ?_, h.bel.grown hg h.bel.size (fun k hk => (h.que.lt k hk).1)⟩
  rcases hv with hv | hv
  · exact h.off (hv ▸ e)
  · have := hv g e
    omega
end Go.Proofs.Ythajndgljfbifaa
namespace Go.Proofs.Ythajndgljfbifaa
open Go.RowKit
set_option maxRecDepth 100000

theorem ints_news8 {w : World} {b off : Nat} {l : List Int} (h : ∀ i (h : i < l.length), w.cell? ⟨b, off + i, none⟩ = some (.int .i64 l[i])) : ∀ j u, (i64s l)[j]? = some u → w.cell? ((⟨b, off, none⟩ : Addr).add j) = some u := fun j u hu => by
  obtain ⟨h1, rfl⟩ := List.getElem?_eq_some_iff.1 hu
  have h2 : j < l.length := by simpa [i64s] using h1
  have e : (⟨b, off, none⟩ : Addr).add j = ⟨b, off + j, none⟩ := by unfold Addr.add; split <;> simp_all
  rw [e, h j h2]
  simp [i64s]

theorem unM_all (n : Nat) : unM (List.replicate n false) = n := by simp [unM]

set_option maxHeartbeats 4000000 in
theorem ref08_Reach (ac a2 ad : Option Addr) (C : List Ins) (s : List Int) (L : List (List Nat)) (cc c2 cd : Nat) (w : World) (hc : CodeAt w ac C) (hg : GoodPg C s L) :
    Calls Try.prog 27 #[.agg #[.slice ac C.length cc, .slice a2 s.length c2, .slice ad L.length cd]] w (GivesBools (rchL C) w) := by
  have hB := Below.alloc (Below.refl w.heap.size w) (Nat.le_refl _) (.cells #[.slice ac C.length cc, .slice a2 s.length c2, .slice ad L.length cd] 26)
  have b0 := Blk.new (W := w) #[.slice ac C.length cc, .slice a2 s.length c2, .slice ad L.length cd] 26
  have hc0 := hc.later hB
  have l64 : C.length ≤ 64 := hg.2.2.2.1
  have l1 : 1 ≤ C.length := hg.2.2.1
  clear hc
  go_enter Try.func27, Try.ntmps27
  go_upto_region 1 with fail
  generalize w.alloc (.cells #[.slice ac C.length cc, .slice a2 s.length c2, .slice ad L.length cd] 26) = W0 at *
  have p0 := (b0 0 (by simp)).1
  obtain ⟨i0, hi, hz0, hz1, hz2⟩ := info_parts info_bool8
  go_upto_region 2 with (at_make; refine wpList_make_full _ rfl _ _ 62 rfl W0.heap.size 4 i0 (.bool false) 1 Try.underlying62 hi hz0 hz1 .i64 .i64 _ _ C.length rfl rfl rfl rfl ?c1 ?c2 (Nat.le_refl _) ?_)
  case c1 => omega
  case c2 => unfold maxLen; omega
  intro w3 hown3 hg2
  rw [show (madeCells #[Value.bool false] C.length).toList = boolV (List.replicate C.length false) by have := made_bools C.length; rwa [Nat.mul_one] at this] at hown3
  have hb3 : Below W0.heap.size W0 w3 := (Below.refl _ _).grown hg2 (Nat.le_refl _) (fun k hk => by cases hk)
  obtain ⟨g, hgv⟩ : ∃ g, g = W0.heap.size := ⟨_, rfl⟩
  rw [← hgv] at hown3
  have hgl : g < w3.heap.size := (hown3.lt g rfl).2
  have hA4 := Below.alloc (Below.refl w3.heap.size w3) (Nat.le_refl _) (.cells #[.int .i64 0] 3)
  have hR0 : RstQ C W0 g (List.replicate C.length false) [0] (.slice (some ⟨w3.heap.size, 0, none⟩) 1 1) (w3.alloc (.cells #[.int .i64 0] 3)) := by
    refine ⟨own_later8 (by rw [← hgv]; exact hown3) hA4, ⟨w3.heap.size, 0, 1, #[.int .i64 0], rfl, hb3.size, heap_alloc_new w3 _, by simp [natI], by unfold maxLen; omega, by simp, fun j hj => ?_⟩, fun e => absurd (Option.some.inj e : w3.heap.size = g) (by omega), hb3.trans (hA4.mono hb3.size)⟩
    obtain rfl : j = 0 := by simpa [natI] using hj
    exact (Blk.new (W := w3) #[.int .i64 0] 3 0 (by simp)).1
  have HCode := Lib.hid (fun W (h : Below W0.heap.size W0 W) => And.intro (hc0.later h) (b0.later h))
  have HWB := Lib.hid hB
  rw [show (Value.slice (some ⟨W0.heap.size, 0, none⟩) C.length C.length) = Value.slice (some ⟨g, 0, none⟩) C.length C.length by rw [hgv]]
  clear hA4 hown3 hb3 hB b0 hc0 p0 hg2 hgl
  go_upto_region 3 with fail
  generalize w3.alloc (.cells #[.int .i64 0] 3) = w4 at *
  generalize w3.heap.size = h4 at *
  obtain ⟨K, hK⟩ : ∃ K, K = C.length + 3 := ⟨_, rfl⟩
  obtain ⟨B, hBB⟩ : ∃ B, B = C.length * K + 1 := ⟨_, rfl⟩
  have hB2 : B ≤ 4289 := by
    have h1 : C.length * K ≤ 64 * 67 := Nat.mul_le_mul (by omega) (by omega)
    omega
  have HK := Lib.hid hK
  have HBB := Lib.hid hBB
  clear hK hBB
  have HG := Lib.hid hg
  have HGV := Lib.hid hgv
  clear hg hgv
  go_loopw [4] (fun v4 wr => ∃ M Q, RstQ C W0 g M Q v4 wr ∧ SrchS C M Q ∧ unM M * K + Q.length ≤ B) (fun v4 wr => unM (bitsW wr g C.length) * K + lenV v4)
  case atStart => exact ⟨_, _, hR0, .start, by rw [unM_all, HBB.out]; simp⟩
  clear hR0
  obtain ⟨M, Q, hR, hS, hcn⟩ := hrel
  have hml := Lib.hid hS.len
  have hcells := hR.cells hml.out
  have HMS : Hid (unM (bitsW wr g C.length) = unM M) := Lib.hid (by rw [bitsW_eq hml.out hcells])
  obtain ⟨gq, off, cap, cur, rfl, hbq, hhq, hcapq, hmax, hin, hqc⟩ := hR.que
  rcases List.eq_nil_or_concat Q with rfl | ⟨Q', t, hQe⟩
  · have HF : Hid (GivesBools (rchL C) w (.returned (.slice (some ⟨g, 0, none⟩) C.length C.length)) wr) := Lib.hid (by
      have e := hS.done
      subst e
      refine ⟨_, _, by rw [rchL_length], .inr ⟨g, 0, rfl, fun i hi => by rw [Nat.zero_add]; exact hcells i hi⟩, HWB.out.trans (hR.bel.mono HWB.out.size)⟩)
    have e0 : (natI []).length = 0 := rfl
    rw [e0]
    clear hcells hqc hR hS
    go_wp2_with fail
    go_ret
    exact HF.out
  · rw [List.concat_eq_append] at hQe
    subst hQe
    have hlq : (natI (Q' ++ [t])).length = Q'.length + 1 := by simp [natI]
    have hR1 : RstQ C W0 g M (Q' ++ [t]) (.slice (some ⟨gq, off, none⟩) (Q'.length + 1) cap) wr := by rw [← hlq]; exact hR
    have hR2 := hR1.cut
    rw [hlq] at hcapq ⊢
    have q0 : wr.cell? ⟨gq, off + Q'.length, none⟩ = some (.int .i64 (t : Int)) := by
      rw [hqc Q'.length (by rw [hlq]; omega)]
      simp [natI]
    have hcn' : unM M * K + Q'.length + 1 ≤ B := by rw [List.length_append] at hcn; simpa [Nat.add_assoc] using hcn
    have hql : Q'.length ≤ 4289 := by omega
    have p0 : wr.cell? ⟨w.heap.size, 0, none⟩ = some (.slice ac C.length cc) := ((HCode.out wr hR.bel).2 0 (by simp)).1
    have i1 : (0 : Int) < (Q'.length : Int) + 1 := by omega
    have i2 : IntKind.i64.wrap ((Q'.length : Int) + 1 - 1) = (Q'.length : Int) := by rw [IntWalk.i64_in _ (by omega)]; omega
    clear hR hR1 hqc hlq hhq hin hmax hbq hcn
    have i3 : 0 ≤ (t : Int) := by omega
    have HMS2 : Hid (∀ N : Nat, N ≤ unM M * K + Q'.length → N < unM (bitsW wr g C.length) * K + (Q'.length + 1)) := Lib.hid (fun N h => by rw [HMS.out]; omega)
    by_cases htl : t < C.length
    · have i4 : ¬ (t : Int) ≥ (C.length : Int) := by omega
      have i5 : (t : Int) < (C.length : Int) := by omega
      have hmt := hcells t (by rw [hml.out]; exact htl)
      cases hM : M[t]'(by rw [hml.out]; exact htl) with
      | true =>
        rw [hM] at hmt
        have HSk := Lib.hid (hS.skip (fun _ => hM) (by rw [hml.out]; omega))
        clear hM hS hcells
        go_wp2_with fail
        refine ⟨⟨M, Q', hR2, HSk.out, by omega⟩, ?_⟩
        exact HMS2.out _ (by rw [hR2.lenV, bitsW_eq hml.out (hR2.cells hml.out)]; exact Nat.le_refl _)
      | false =>
        rw [hM] at hmt
        have hfr := hR2.own.frozenAt t
        have hR5 := hR2.set (t := t)
        have hs5 : (wr.setCell ⟨g, t, none⟩ (.bool true)).heap.size = wr.heap.size := by simp
        obtain ⟨x, hx⟩ : ∃ x, x = C[t] := ⟨_, rfl⟩
        have HXE := Lib.hid hx
        have HV : Hid (vinB x = true) := Lib.hid (by rw [hx]; exact (HG.out.2.2.2.2.2 t htl).1)
        have HTg := Lib.hid (fun W => ref06_Targets x t W (by omega))
        unfold insV at HTg
        have HUn : Hid (unM (M.set t true) + 1 = unM M) := Lib.hid (unM_set (M := M) (by rw [hml.out]; exact htl) hM)
        have HMk := Lib.hid (fun N h1 h2 => SrchS.mark (N := N) hS (by rw [hml.out]; exact htl) h1 h2)
        have hml2 := Lib.hid (show (M.set t true).length = C.length by rw [List.length_set]; exact hml.out)
        obtain ⟨hcode, hbox⟩ := HCode.out _ hR5.bel
        obtain ⟨bc, oc, rfl, hcc⟩ := hcode.some htl
        obtain ⟨x0, x1, x2, x3, x4⟩ := hcc t htl
        rw [← hx] at x0 x1 x2 x3 x4
        have p0' := (hbox 0 (by simp)).1
        have hgq : gq < wr.heap.size := (hR2.que.lt gq rfl).2
        clear hM hS hcells hcode hbox hcc hx hR2
        go_upto_region 8 with fail
        generalize wr.setCell ⟨g, t, none⟩ (.bool true) = w5 at *
        clear hmt hfr p0 q0 i1 i2
        have X6 := InsBox.new w5 x
        have hA6 := Below.alloc (Below.refl w5.heap.size w5) (Nat.le_refl _) (.cells #[.int .i64 x.op, .int .i64 x.a, .int .i64 x.b, .int .i64 x.c, .int .i64 x.imm] 66)
        have hR6 := hR5.later hA6
        clear hR5 hA6
        go_upto_region 9 with fail
        generalize w5.alloc (.cells #[.int .i64 x.op, .int .i64 x.a, .int .i64 x.b, .int .i64 x.c, .int .i64 x.imm] 66) = w6 at *
        rw [hs5] at X6
        obtain ⟨Z, hZ⟩ : ∃ Z, Z = wr.heap.size := ⟨_, rfl⟩
        rw [← hZ] at X6 hgq ⊢
        have hgZ : gq < Z := hgq
        obtain ⟨e0, e1, e2, e3, e4, _⟩ := ins_cells X6
        have HT0 := Lib.hid (tgtV_nonneg (p := (t : Int) + 1) HV.out (by omega))
        have hTl := tgtV_len x ((t : Int) + 1)
        have HLd1 : Hid (∀ q ∈ (tgtV x ((t : Int) + 1)).map Int.toNat, q < C.length → Leads C t q) := Lib.hid (fun q hq _ => by
          obtain ⟨y, hy, rfl⟩ := List.mem_map.1 hq
          have := HT0.out y hy
          exact ⟨htl, .inl (by rw [← HXE.out, show ((y.toNat : Nat) : Int) = y by omega]; exact hy)⟩)
        have HLd2 : Hid (anyB x = false → ∀ q, q < C.length → Leads C t q → q ∈ (tgtV x ((t : Int) + 1)).map Int.toNat) := Lib.hid (fun ha q _ hl => by
          obtain ⟨_, hl | hl⟩ := hl
          · rw [← HXE.out] at hl
            exact List.mem_map.2 ⟨_, hl, by simp⟩
          · rw [← HXE.out, ha] at hl; cases hl)
        have HAny : Hid (anyB x = true → ∀ q, Leads C t q) := Lib.hid (fun ha q => ⟨htl, .inr (by rw [← HXE.out]; exact ha)⟩)
        have HTn : Hid ((natI ((tgtV x ((t : Int) + 1)).map Int.toNat)) = i64s (tgtV x ((t : Int) + 1))) := Lib.hid (by
          simp only [natI, i64s, List.map_map]
          apply List.map_congr_left
          intro y hy
          have := HT0.out y hy
          show Value.int .i64 ((y.toNat : Nat) : Int) = Value.int .i64 y
          rw [show ((y.toNat : Nat) : Int) = y by omega])
        generalize tgtV x ((t : Int) + 1) = T at *
        obtain ⟨y0, hy, hy0, hy1, hy2⟩ := info_parts info_int9
        clear x0 x1 x2 x3 x4 p0' HT0 hs5 hZ
        go_upto_region 10 with (first
          | (go_at_call 28; (with_reducible refine (HTg.out _).mono ?_); rintro e w7 ⟨aT, cT, rfl, hT, hb7⟩; have hR7 := hR6.later hb7; have hbw := hR7.bel.size)
          | (at_builtin; refine wpList_append_q _ rfl (.tmp 46) (.tmp 49) 23 rfl W0.heap.size 3 y0 (.int .i64 0) 8 Try.underlying23 hy hy0 hy1 hy2 rfl _ (natI Q') rfl hR7.que hbw aT T.length cT (i64s T) (by simp [i64s]) rfl (fun e => by subst e; rcases hT with h | ⟨_, _, h, _⟩; exact (by rw [h]; rfl); cases h) (fun ad had => by subst had; rcases hT with h | ⟨b, off, h, _, hc⟩; exact (by subst h; intro j u hu; simp [i64s] at hu); cases h; exact ints_news8 hc) ?u3 ?u4 ?u5 ?_))
        case u3 => intro u hu; obtain ⟨y, _, rfl⟩ := List.mem_map.1 hu; rfl
        case u4 => rw [show (natI Q').length = Q'.length by simp [natI], length_i64s]; unfold maxLen; omega
        case u5 => rw [show (natI Q').length = Q'.length by simp [natI], length_i64s]; omega
        intro v8 w8 hq8 hg8 hv8
        have hR8 : RstQ C W0 g (M.set t true) (Q' ++ T.map Int.toNat) v8 w8 := hR7.app (by rw [show natI (Q' ++ T.map Int.toNat) = natI Q' ++ natI (T.map Int.toNat) by simp [natI], HTn.out]; exact hq8) hg8 hv8
        have X8 := (X6.later hb7).kept hg8 (by simp [Value.ownBlock]; omega)
        have HEnd : Hid (∀ v wz N, RstQ C W0 g (M.set t true) (Q' ++ N) v wz → N.length ≤ C.length + 2 → (∀ q ∈ N, q < C.length → Leads C t q) → (∀ q, q < C.length → Leads C t q → q ∈ N) →
            (∃ M Q, RstQ C W0 g M Q v wz ∧ SrchS C M Q ∧ unM M * K + Q.length ≤ B) ∧ unM (bitsW wz g C.length) * K + lenV v < unM (bitsW wr g C.length) * K + (Q'.length + 1)) := Lib.hid (fun v wz N h1 h2 h3 h4 => by
          have hU : unM M * K = unM (M.set t true) * K + K := by rw [← HUn.out, Nat.add_mul, Nat.one_mul]
          have hKK := HK.out
          have hlen : (Q' ++ N).length = Q'.length + N.length := List.length_append
          refine ⟨⟨_, _, h1, HMk.out N h3 h4, by rw [hlen]; omega⟩, HMS2.out _ ?_⟩
          rw [h1.lenV, bitsW_eq hml2.out (h1.cells hml2.out), hlen]
          omega)
        clear hR7 hq8 hg8 hv8 hb7 X6 hT hR6
        obtain ⟨e0, e1, e2, e3, e4, _⟩ := ins_cells X8
        have HL8 := Lib.hid hR8
        have HTl := Lib.hid hTl
        obtain ⟨g8, o8, cap8, cur8, rfl, _⟩ := hR8.que
        clear X8 hR8
        have hcs : (x.op = 22) ∨ (x.op = 23 ∧ x.imm = 10) ∨ (x.op = 23 ∧ x.imm ≠ 10 ∧ x.imm = 12) ∨ (x.op = 23 ∧ x.imm ≠ 10 ∧ x.imm ≠ 12) ∨ (x.op ≠ 22 ∧ x.op ≠ 23) := by omega
        rcases hcs with h | ⟨h, h2⟩ | ⟨h, h2, h3⟩ | ⟨h, h2, h3⟩ | ⟨h, h2⟩
        · have HA : Hid (anyB x = true) := Lib.hid (decide_eq_true (.inl h))
          have g1 : (x.op == 22) = true := by rw [beq_iff_eq]; exact h
          clear h
          go_upto_region 12 with fail
          go_loopw [4, 71] (fun v4 c wz => ∃ j : Nat, j ≤ C.length ∧ c = .int .i64 j ∧ RstQ C W0 g (M.set t true) (Q' ++ (T.map Int.toNat ++ List.range j)) v4 wz) (fun _ c _ => C.length - (intOf c).toNat)
          case atStart => exact ⟨0, by omega, rfl, by simpa using HL8.out⟩
          obtain ⟨j, hj, rfl, hRj⟩ := hrel
          have HRj := Lib.hid hRj
          have hbw := hRj.bel.size
          have hql3 : (Q' ++ (T.map Int.toNat ++ List.range j)).length ≤ 5000 := by
            rw [List.length_append, List.length_append, List.length_map, List.length_range]
            have := HTl.out
            omega
          have HQL : Hid ((natI (Q' ++ (T.map Int.toNat ++ List.range j))).length ≤ 5000) := Lib.hid (by simpa [natI] using hql3)
          have HRA := Lib.hid (hRj.later (Below.alloc (Below.refl wr.heap.size wr) (Nat.le_refl _) (.cells #[.int .i64 (j : Int)] 3)))
          have hQs := hRj.que.kept (World.grownBy_alloc wr (.cells #[.int .i64 (j : Int)] 3) none) (fun b hb => by cases hb)
          have hNw := Blk.new (W := wr) #[.int .i64 (j : Int)] 3
          have HNI : Hid (natI (Q' ++ (T.map Int.toNat ++ List.range (j + 1))) = natI (Q' ++ (T.map Int.toNat ++ List.range j)) ++ [.int .i64 (j : Int)]) := Lib.hid (by simp [natI, List.range_succ])
          have HLN : Hid ((T.map Int.toNat ++ List.range j).length ≤ C.length + 2) := Lib.hid (by
            rw [List.length_append, List.length_map, List.length_range]
            have := HTl.out
            omega)
          clear hql3
          by_cases hlt : j < C.length
          · have i6 : (j : Int) < (C.length : Int) := by omega
            have i7 : 0 ≤ (j : Int) := by omega
            have HLT := Lib.hid hlt
            clear hRj
            generalize hnq : natI (Q' ++ (T.map Int.toNat ++ List.range j)) = nq at *
            go_wp2_with (at_builtin; refine wpList_append_q _ rfl (.tmp 74) (.tmp 76) 23 rfl W0.heap.size 3 y0 (.int .i64 0) 8 Try.underlying23 hy hy0 hy1 hy2 rfl _ nq rfl hQs (Nat.le_trans hbw (by simp)) (some ⟨wr.heap.size, 0, none⟩) 1 1 [.int .i64 (j : Int)] rfl rfl (fun e => by cases e) (fun ad had => by cases had; exact blk_news8 hNw) ?v3 ?v4 ?v5 ?_)
            case v3 => rfl
            case v4 => have := HQL.out; unfold maxLen; omega
            case v5 => have := HQL.out; omega
            intro v' w9 hq9 hg9 hv9
            have hR9 : RstQ C W0 g (M.set t true) (Q' ++ (T.map Int.toNat ++ List.range (j + 1))) v' w9 := HRA.out.app (by rw [HNI.out]; exact hq9) hg9 (by simpa using hv9)
            clear hq9 hg9 hv9 hQs hNw
            go_wp2_with fail
            refine ⟨⟨j + 1, HLT.out, by go_num, hR9⟩, ?_⟩
            have := HLT.out
            simp [intOf]
            omega
          · obtain rfl : j = C.length := by omega
            clear hRj hQs hNw HRA HNI
            go_wp2_with fail
            exact HEnd.out _ _ _ HRj.out HLN.out (fun q _ _ => HAny.out HA.out q) (fun q hq _ => List.mem_append_right _ (List.mem_range.2 hq))
        · have HA : Hid (anyB x = true) := Lib.hid (decide_eq_true (.inr ⟨h, .inl h2⟩))
          have g1 : (x.op == 22) = false := by rw [beq_eq_false_iff_ne]; omega
          have g2 : (x.op == 23) = true := by rw [beq_iff_eq]; exact h
          have g3 : (x.imm == 10) = true := by rw [beq_iff_eq]; exact h2
          clear h h2
          go_upto_region 12 with fail
          go_loopw [4, 71] (fun v4 c wz => ∃ j : Nat, j ≤ C.length ∧ c = .int .i64 j ∧ RstQ C W0 g (M.set t true) (Q' ++ (T.map Int.toNat ++ List.range j)) v4 wz) (fun _ c _ => C.length - (intOf c).toNat)
          case atStart => exact ⟨0, by omega, rfl, by simpa using HL8.out⟩
          obtain ⟨j, hj, rfl, hRj⟩ := hrel
          have HRj := Lib.hid hRj
          have hbw := hRj.bel.size
          have hql3 : (Q' ++ (T.map Int.toNat ++ List.range j)).length ≤ 5000 := by
            rw [List.length_append, List.length_append, List.length_map, List.length_range]
            have := HTl.out
            omega
          have HQL : Hid ((natI (Q' ++ (T.map Int.toNat ++ List.range j))).length ≤ 5000) := Lib.hid (by simpa [natI] using hql3)
          have HRA := Lib.hid (hRj.later (Below.alloc (Below.refl wr.heap.size wr) (Nat.le_refl _) (.cells #[.int .i64 (j : Int)] 3)))
          have hQs := hRj.que.kept (World.grownBy_alloc wr (.cells #[.int .i64 (j : Int)] 3) none) (fun b hb => by cases hb)
          have hNw := Blk.new (W := wr) #[.int .i64 (j : Int)] 3
          have HNI : Hid (natI (Q' ++ (T.map Int.toNat ++ List.range (j + 1))) = natI (Q' ++ (T.map Int.toNat ++ List.range j)) ++ [.int .i64 (j : Int)]) := Lib.hid (by simp [natI, List.range_succ])
          have HLN : Hid ((T.map Int.toNat ++ List.range j).length ≤ C.length + 2) := Lib.hid (by
            rw [List.length_append, List.length_map, List.length_range]
            have := HTl.out
            omega)
          clear hql3
          by_cases hlt : j < C.length
          · have i6 : (j : Int) < (C.length : Int) := by omega
            have i7 : 0 ≤ (j : Int) := by omega
            have HLT := Lib.hid hlt
            clear hRj
            generalize hnq : natI (Q' ++ (T.map Int.toNat ++ List.range j)) = nq at *
            go_wp2_with (at_builtin; refine wpList_append_q _ rfl (.tmp 74) (.tmp 76) 23 rfl W0.heap.size 3 y0 (.int .i64 0) 8 Try.underlying23 hy hy0 hy1 hy2 rfl _ nq rfl hQs (Nat.le_trans hbw (by simp)) (some ⟨wr.heap.size, 0, none⟩) 1 1 [.int .i64 (j : Int)] rfl rfl (fun e => by cases e) (fun ad had => by cases had; exact blk_news8 hNw) ?v3 ?v4 ?v5 ?_)
            case v3 => rfl
            case v4 => have := HQL.out; unfold maxLen; omega
            case v5 => have := HQL.out; omega
            intro v' w9 hq9 hg9 hv9
            have hR9 : RstQ C W0 g (M.set t true) (Q' ++ (T.map Int.toNat ++ List.range (j + 1))) v' w9 := HRA.out.app (by rw [HNI.out]; exact hq9) hg9 (by simpa using hv9)
            clear hq9 hg9 hv9 hQs hNw
            go_wp2_with fail
            refine ⟨⟨j + 1, HLT.out, by go_num, hR9⟩, ?_⟩
            have := HLT.out
            simp [intOf]
            omega
          · obtain rfl : j = C.length := by omega
            clear hRj hQs hNw HRA HNI
            go_wp2_with fail
            exact HEnd.out _ _ _ HRj.out HLN.out (fun q _ _ => HAny.out HA.out q) (fun q hq _ => List.mem_append_right _ (List.mem_range.2 hq))
        · have HA : Hid (anyB x = true) := Lib.hid (decide_eq_true (.inr ⟨h, .inr h3⟩))
          have g1 : (x.op == 22) = false := by rw [beq_eq_false_iff_ne]; omega
          have g2 : (x.op == 23) = true := by rw [beq_iff_eq]; exact h
          have g3 : (x.imm == 10) = false := by rw [beq_eq_false_iff_ne]; exact h2
          have g4 : (x.imm == 12) = true := by rw [beq_iff_eq]; exact h3
          clear h h2 h3
          go_upto_region 12 with fail
          go_loopw [4, 71] (fun v4 c wz => ∃ j : Nat, j ≤ C.length ∧ c = .int .i64 j ∧ RstQ C W0 g (M.set t true) (Q' ++ (T.map Int.toNat ++ List.range j)) v4 wz) (fun _ c _ => C.length - (intOf c).toNat)
          case atStart => exact ⟨0, by omega, rfl, by simpa using HL8.out⟩
          obtain ⟨j, hj, rfl, hRj⟩ := hrel
          have HRj := Lib.hid hRj
          have hbw := hRj.bel.size
          have hql3 : (Q' ++ (T.map Int.toNat ++ List.range j)).length ≤ 5000 := by
            rw [List.length_append, List.length_append, List.length_map, List.length_range]
            have := HTl.out
            omega
          have HQL : Hid ((natI (Q' ++ (T.map Int.toNat ++ List.range j))).length ≤ 5000) := Lib.hid (by simpa [natI] using hql3)
          have HRA := Lib.hid (hRj.later (Below.alloc (Below.refl wr.heap.size wr) (Nat.le_refl _) (.cells #[.int .i64 (j : Int)] 3)))
          have hQs := hRj.que.kept (World.grownBy_alloc wr (.cells #[.int .i64 (j : Int)] 3) none) (fun b hb => by cases hb)
          have hNw := Blk.new (W := wr) #[.int .i64 (j : Int)] 3
          have HNI : Hid (natI (Q' ++ (T.map Int.toNat ++ List.range (j + 1))) = natI (Q' ++ (T.map Int.toNat ++ List.range j)) ++ [.int .i64 (j : Int)]) := Lib.hid (by simp [natI, List.range_succ])
          have HLN : Hid ((T.map Int.toNat ++ List.range j).length ≤ C.length + 2) := Lib.hid (by
            rw [List.length_append, List.length_map, List.length_range]
            have := HTl.out
            omega)
          clear hql3
          by_cases hlt : j < C.length
          · have i6 : (j : Int) < (C.length : Int) := by omega
            have i7 : 0 ≤ (j : Int) := by omega
            have HLT := Lib.hid hlt
            clear hRj
            generalize hnq : natI (Q' ++ (T.map Int.toNat ++ List.range j)) = nq at *
            go_wp2_with (at_builtin; refine wpList_append_q _ rfl (.tmp 74) (.tmp 76) 23 rfl W0.heap.size 3 y0 (.int .i64 0) 8 Try.underlying23 hy hy0 hy1 hy2 rfl _ nq rfl hQs (Nat.le_trans hbw (by simp)) (some ⟨wr.heap.size, 0, none⟩) 1 1 [.int .i64 (j : Int)] rfl rfl (fun e => by cases e) (fun ad had => by cases had; exact blk_news8 hNw) ?v3 ?v4 ?v5 ?_)
            case v3 => rfl
            case v4 => have := HQL.out; unfold maxLen; omega
            case v5 => have := HQL.out; omega
            intro v' w9 hq9 hg9 hv9
            have hR9 : RstQ C W0 g (M.set t true) (Q' ++ (T.map Int.toNat ++ List.range (j + 1))) v' w9 := HRA.out.app (by rw [HNI.out]; exact hq9) hg9 (by simpa using hv9)
            clear hq9 hg9 hv9 hQs hNw
            go_wp2_with fail
            refine ⟨⟨j + 1, HLT.out, by go_num, hR9⟩, ?_⟩
            have := HLT.out
            simp [intOf]
            omega
          · obtain rfl : j = C.length := by omega
            clear hRj hQs hNw HRA HNI
            go_wp2_with fail
            exact HEnd.out _ _ _ HRj.out HLN.out (fun q _ _ => HAny.out HA.out q) (fun q hq _ => List.mem_append_right _ (List.mem_range.2 hq))
        · have HA : Hid (anyB x = false) := Lib.hid (decide_eq_false (by omega))
          have g1 : (x.op == 22) = false := by rw [beq_eq_false_iff_ne]; omega
          have g2 : (x.op == 23) = true := by rw [beq_iff_eq]; exact h
          have g3 : (x.imm == 10) = false := by rw [beq_eq_false_iff_ne]; exact h2
          have g4 : (x.imm == 12) = false := by rw [beq_eq_false_iff_ne]; exact h3
          clear h h2 h3
          go_wp2_with fail
          exact HEnd.out _ _ _ HL8.out (by rw [List.length_map]; have := HTl.out; omega) HLd1.out (HLd2.out HA.out)
        · have HA : Hid (anyB x = false) := Lib.hid (decide_eq_false (by omega))
          have g1 : (x.op == 22) = false := by rw [beq_eq_false_iff_ne]; exact h
          have g2 : (x.op == 23) = false := by rw [beq_eq_false_iff_ne]; exact h2
          clear h h2
          go_wp2_with fail
          exact HEnd.out _ _ _ HL8.out (by rw [List.length_map]; have := HTl.out; omega) HLd1.out (HLd2.out HA.out)
    · have i4 : (t : Int) ≥ (C.length : Int) := by omega
      have HSk := Lib.hid (hS.skip (fun h => absurd (by rw [hml.out] at h; exact h) htl) (by rw [hml.out]; omega))
      clear hS hcells
      go_wp2_with fail
      refine ⟨⟨M, Q', hR2, HSk.out, by omega⟩, ?_⟩
      exact HMS2.out _ (by rw [hR2.lenV, bitsW_eq hml.out (hR2.cells hml.out)]; exact Nat.le_refl _)
end Go.Proofs.Ythajndgljfbifaa
namespace Go.Proofs.Ythajndgljfbifaa
open Go.RowKit
set_option maxRecDepth 100000

/-- A copy into a row, as one step of a region that draws. -/
theorem step_copy_row {P : Program} {ops : Array Oper} {o : Oper} {a : Act} {w : World} {K : Act → World → Prop} {Q : Exit → Act → World → Prop} {E : Prop}
    (hgd : o.guard = none) (d s : Operand) (dT sT : TypeId) (ho : o.op = .call { callee := .builtin .copy, args := #[d, s], argTypes := #[dT, sT] }) (elem : TypeId) (hu : P.underlying dT = some (.slice elem)) (hsz : (P.info? elem).map (·.size) = some 1)
    (g off dLen dCap : Nat) (ad : Addr) (sLen sCap : Nat) (hd : a.eval d = .slice (some ⟨g, off, none⟩) dLen dCap) (hs : a.eval s = .slice (some ad) sLen sCap)
    (cur : Array Value) (t : TypeId) (hg : w.heap[g]? = some (.cells cur t (0, 0))) (cs : List Value) (hn : cs.length = Nat.min sLen dLen)
    (hsrc : ∀ j v, cs[j]? = some v → w.cell? (ad.add j) = some v) (hfit : off + cs.length ≤ cur.size) (h1 : ∀ v ∈ cs, v.oneCell' = true)
    (hK : K (a.put o.dst (goInt cs.length)) (w.setRow g (cur.toList.take off ++ (cs ++ cur.toList.drop (off + cs.length))).toArray)) :
    if Region.wanted o (yielded ops a.tmps) = true then Oper.wp P o a w K Q else E := by
  have hw : Region.wanted o (yielded ops a.tmps) = true := by simp [Region.wanted, hgd]
  rw [if_pos hw]
  have hrun := run_copy_row (P := P) w dT sT o.type elem g off dLen dCap ad sLen sCap cur t cs hu hsz hg hn hsrc hfit h1
  unfold Oper.wp
  simp [execOp, ho, resolve, invoke, builtin, hd, hs, hrun, Result.andThen]
  exact hK

/-- The first c of the row are true. -/
def RowT (G n c : Nat) (wr : World) : Prop := ∃ cur, wr.heap[G]? = some (.cells cur 4 (0, 0)) ∧ cur.size = n ∧ ∀ i, i < c → cur.toList[i]? = some (.bool true)

theorem RowT.cell {G n c : Nat} {wr : World} (h : RowT G n c wr) : ∀ i, i < c → wr.cell? ⟨G, i, none⟩ = some (.bool true) := fun i hi => by
  obtain ⟨cur, hg, hs, ht⟩ := h
  have h1 := ht i hi
  rw [Array.getElem?_toList] at h1
  simp only [World.cell?, hg]
  exact h1

theorem RowT.step {G n c m : Nat} {wr : World} {cur : Array Value} (hg : wr.heap[G]? = some (.cells cur 4 (0, 0))) (hs : cur.size = n) (ht : ∀ i, i < c → cur.toList[i]? = some (.bool true)) (hm : c + m ≤ n) :
    RowT G n (c + m) (wr.setRow G (cur.toList.take c ++ (List.replicate m (Value.bool true) ++ cur.toList.drop (c + m))).toArray) := by
  refine ⟨_, setRow_heap wr G cur _ _ _ hg, ?_, fun i hi => ?_⟩
  · simp
    omega
  · have hl : (cur.toList.take c).length = c := by rw [List.length_take, Array.length_toList]; omega
    rw [← List.append_assoc, List.getElem?_append_left (by rw [List.length_append, hl, List.length_replicate]; exact hi)]
    by_cases h : i < c
    · rw [List.getElem?_append_left (by omega), List.getElem?_take_of_lt h]
      exact ht i h
    · rw [List.getElem?_append_right (by omega), hl, List.getElem?_replicate, if_pos (by omega)]

set_option maxHeartbeats 2000000 in
theorem rep_ok : RepOk := by
  intro W g n cap h1 h64 hc
  obtain ⟨i0, hi, hz0, hz1, hz2⟩ := info_parts info_bool8
  have hsz : (Try.prog.info? 4).map (·.size) = some 1 := by rw [hi]; simp [hz1]
  have hgl : g < W.heap.size := World.block_lt_of_cell? _ _ hc
  have e1 : 1 * n / 18446744073709551616 = 0 := by omega
  have e2 : 1 * n % 18446744073709551616 = n := by omega
  have HMul : Hid (∀ w, Calls Try.prog 95 #[.int .u64 1, .int .u64 (n : Int)] w fun e w' => e = .returned (.tuple #[.int .u64 0, .int .u64 (n : Int)]) ∧ w' = w) := Lib.hid (fun w => by
    have h := Try.bits_Mul 1 n (by omega) (by omega) w
    rw [e1, e2] at h
    exact h)
  have i1 : ¬ (n : Int) < 0 := by omega
  have i3 : IntKind.i64.wrap (n : Int) = (n : Int) := IntWalk.i64_in _ (by omega)
  clear e1 e2
  go_enter Try.func70, Try.ntmps70
  go_upto_region 6 with (go_at_call 95; (with_reducible refine (HMul.out _).mono ?_); rintro e w' ⟨rfl, hw⟩; subst hw)
  go_upto_region 7 with (at_make; refine wpList_make_full _ rfl _ _ 62 rfl w'.heap.size 4 i0 (.bool false) 1 Try.underlying62 hi hz0 hz1 .i64 .i64 _ _ n rfl rfl rfl rfl ?c1 ?c2 (Nat.le_refl _) ?_)
  case c1 => rw [hz2]; omega
  case c2 => unfold maxLen; omega
  intro w3 hown hg3
  have hb3 : Below w'.heap.size w' w3 := (Below.refl _ _).grown hg3 (Nat.le_refl _) (fun k hk => by cases hk)
  obtain ⟨G, hG⟩ : ∃ G, G = w'.heap.size := ⟨_, rfl⟩
  rw [← hG] at hown ⊢
  obtain ⟨cur, hcur, hcs⟩ : ∃ cur, w3.heap[G]? = some (.cells cur 4 (0, 0)) ∧ cur.size = n := by
    rcases hown.2 with ⟨h, _⟩ | ⟨g', cap', cur, hv, _, hcur, _, _, hcs, _⟩
    · cases h
    · cases hv; exact ⟨cur, hcur, by rw [hcs, Nat.mul_one]⟩
  have hc3 := cell_later hb3 hc
  have hbG : w'.heap.size ≤ G := by omega
  have hgG : g ≠ G := by omega
  clear hown hg3 hc HMul hG
  have hcp := run_copy_row (P := Try.prog) w3 62 62 3 4 G 0 n n ⟨g, 0, none⟩ 1 cap cur 4 [Value.bool true] Try.underlying62 hsz hcur (Nat.min_eq_left h1).symm (fun j v hj => by match j, hj with | 0, hj => simp at hj; subst hj; exact hc3) (by rw [hcs]; simpa using h1) (by simp [Value.oneCell'])
  have hR1 := RowT.step (G := G) (n := n) (c := 0) (m := 1) hcur hcs (fun i hi => by omega) (by omega)
  have hb4 := below_setRow hb3 hbG (cur.toList.take 0 ++ (List.replicate 1 (Value.bool true) ++ cur.toList.drop (0 + 1))).toArray
  have e1 : cur.toList.take 0 ++ [Value.bool true] ++ cur.toList.drop (0 + [Value.bool true].length) = cur.toList.take 0 ++ (List.replicate 1 (Value.bool true) ++ cur.toList.drop (0 + 1)) := by simp
  rw [e1] at hcp
  generalize w3.setRow G (cur.toList.take 0 ++ (List.replicate 1 (Value.bool true) ++ cur.toList.drop (0 + 1))).toArray = w4 at *
  rw [show goInt ((([Value.bool true] : List Value).length : Nat) : Int) = Value.int .i64 1 from rfl] at hcp
  clear e1 hcs hc3 hb3
  go_upto_region 8 with fail
  clear hcp hcur
  go_loopw [8] (fun v8 wr => ∃ c : Nat, 1 ≤ c ∧ c ≤ n ∧ v8 = .int .i64 c ∧ RowT G n c wr ∧ Below w'.heap.size w' wr) (fun v8 _ => n - (intOf v8).toNat)
  case atStart => exact ⟨1, by omega, h1, rfl, hR1, hb4⟩
  clear hR1 hb4
  obtain ⟨c, hc1, hcn, rfl, hRow, hb⟩ := hrel
  by_cases hlt : c < n
  · have i5 : (c : Int) < (n : Int) := by omega
    have i6 : 0 ≤ (c : Int) := by omega
    have i7 : (c : Int) ≤ (n : Int) := by omega
    have hcell := hRow.cell
    obtain ⟨cur, hcur, hcs, ht⟩ := hRow
    obtain ⟨m, hm, hmc, hmn, hm1⟩ : ∃ m, m = Nat.min c (n - c) ∧ m ≤ c ∧ c + m ≤ n ∧ 1 ≤ m := ⟨_, rfl, Nat.min_le_left _ _, by have := Nat.min_le_right c (n - c); show c + min c (n - c) ≤ n; omega, by show 1 ≤ min c (n - c); omega⟩
    have hcurd : wr.drew.heap[G]? = some (.cells cur 4 (0, 0)) := hcur
    have HSt := Lib.hid (RowT.step (m := m) hcurd hcs ht hmn)
    have HB5 := Lib.hid (below_setRow hb.drew hbG (cur.toList.take c ++ (List.replicate m (Value.bool true) ++ cur.toList.drop (c + m))).toArray)
    have hsrc : ∀ j v, (List.replicate m (Value.bool true))[j]? = some v → wr.drew.cell? ((⟨G, 0, none⟩ : Addr).add j) = some v := fun j v hj => by
      rw [List.getElem?_replicate] at hj
      split at hj
      · next h =>
        cases hj
        have e : (⟨G, 0, none⟩ : Addr).add j = ⟨G, j, none⟩ := by unfold Addr.add; split <;> simp_all
        rw [e]
        exact hcell j (by omega)
      · cases hj
    have hlr : (List.replicate m (Value.bool true)).length = m := List.length_replicate
    have hnn : (List.replicate m (Value.bool true)).length = Nat.min c (n - c) := by rw [hlr, hm]
    have hfit : c + (List.replicate m (Value.bool true)).length ≤ cur.size := by rw [hlr, hcs]; exact hmn
    have hone : ∀ v ∈ List.replicate m (Value.bool true), v.oneCell' = true := fun v hv => by rw [(List.mem_replicate.1 hv).2]; rfl
    have HMF := Lib.hid (And.intro hmn hm1)
    have i8 : IntKind.i64.wrap ((c : Int) + (m : Int)) = (c : Int) + (m : Int) := IntWalk.i64_in _ (by omega)
    have HLR := Lib.hid hlr
    have HHB := Lib.hid hb
    clear ht hb hcell hm hmc hmn hm1 hlr
    go_upto_region 9 with fail
    have i9 : ¬ c = n := by omega
    have i10 : ¬ n = c := by omega
    have i11 : ¬ n - c = 0 := by omega
    have hcp := run_copy_row (P := Try.prog) wr.drew 62 62 3 4 G c (n - c) (n - c) ⟨G, 0, none⟩ c n cur 4 (List.replicate m (Value.bool true)) Try.underlying62 hsz hcurd hnn hsrc hfit hone
    rw [List.append_assoc, HLR.out, show goInt ((m : Nat) : Int) = Value.int .i64 (m : Int) from rfl] at hcp
    generalize wr.drew.setRow G (cur.toList.take c ++ (List.replicate m (Value.bool true) ++ cur.toList.drop (c + m))).toArray = w5 at *
    clear hcurd hnn hsrc hfit hone hcur hcs
    go_region
    go_wp2_with fail
    have hmf := HMF.out
    refine ⟨⟨c + m, by omega, hmf.1, by simp, HSt.out, HB5.out⟩, ?_⟩
    simp [intOf]
    omega
  · obtain rfl : c = n := by omega
    go_wp2_with fail
    go_ret
    refine ⟨some ⟨G, 0, none⟩, c, by rw [List.length_replicate]; rfl, .inr ⟨G, 0, rfl, fun i hi => ?_⟩, hb⟩
    rw [List.length_replicate] at hi
    rw [Nat.zero_add, hRow.cell i hi, List.getElem_replicate]
end Go.Proofs.Ythajndgljfbifaa
