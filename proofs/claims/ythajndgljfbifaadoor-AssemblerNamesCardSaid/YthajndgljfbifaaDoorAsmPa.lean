/-
  Lines read: addLine.
  What is left behind the last line: resolveJumps, complete.
  The product's Parse: every text whose lines can be read.
-/
import Derived.Test.YthajndgljfbifaaDoorAsmO
import Derived.Lib.SplitLaws
namespace Go.Proofs.YthajndgljfbifaaDoor
open Go.RowKit
set_option maxRecDepth 100000

/-- What has been read, as values. -/
structure St where
  nl : Nat
  f : ByteArray → Option Nat
  C : List Ins
  S : List Nat
  L : List (List Nat)
  J : List (Nat × Nat × ByteArray)

def ReadsS (w : World) (B b mb : Nat) (s : St) : Prop := Reads w B b mb s.nl s.f s.C s.S s.L s.J

/-- A line's words. -/
def splitW (line : ByteArray) : List ByteArray := Lib.splitB ⟨#[32]⟩ 0 (Lib.countB line ⟨#[32]⟩) line

def regionB : ByteArray := ⟨#[114, 101, 103, 105, 111, 110]⟩

/-- A line that can be read. -/
inductive Step (n : Nat) (line : ByteArray) : St → St → Prop
  | label (s : St) (lab : ByteArray) : line = lab ++ ⟨#[58]⟩ → labB lab = true → s.f lab = none → s.nl < 1000 → s.C.length ≤ 64 → Step n line s { s with nl := s.nl + 1, f := addL s.f lab s.C.length }
  | region (s : St) (ws : List ByteArray) (k : Nat) (vs : List Nat) : Lib.hasSuffix line.data.toList [58] = false → splitW line = regionB :: ws → (∀ x ∈ ws, numOk x = true) → ws.map numV = (k :: vs).map (fun x : Nat => (x : Int)) → s.nl = 0 → s.C = [] → s.S.length < 4 → s.L.length ≤ 4 → 1 ≤ k → k ≤ 32 → vs.length ≤ k → (∀ v ∈ vs, v < 65536) →
      Step n line s { s with S := s.S ++ [k], L := s.L ++ [vs] }
  | instr (s : St) (o : Nat) (vs : List ByteArray) (x : Ins) (lab : ByteArray) : Lib.hasSuffix line.data.toList [58] = false → splitW line = nameB (o : Int) :: vs → o < 25 → vs.length = (opdL (o : Int)).length → (∀ k (h : k < vs.length) (h2 : k < (opdL (o : Int)).length), opdOk (opdL (o : Int))[k] vs[k] = true) →
      rdI (o : Int) vs vs.length = (x, lab) → x.op = (o : Int) → s.C.length < 64 → vinB x = true → (x.op = 15 → x.imm < (s.S.length : Int)) → s.J.length ≤ 64 → Step n line s { s with C := s.C ++ [x], J := moreJ s.J o n s.C.length lab }

theorem regionB_list : regionB.toList = [114, 101, 103, 105, 111, 110] := by
  rw [ByteArray.toList_eq]
  rfl

theorem name_region : ∀ o < 25, nameB ((o : Nat) : Int) ≠ regionB := by decide

theorem splitW_len (line : ByteArray) : (splitW line).length = Lib.countB line ⟨#[32]⟩ + 1 := Lib.splitB_all ⟨#[32]⟩ (by decide) 0 _ line rfl

theorem piece_size (sep : ByteArray) (save : Nat) : ∀ (k : Nat) (s : ByteArray), ∀ x ∈ Lib.splitB sep save k s, x.size ≤ s.size
  | 0, s => fun x hx => by
    have : x = s := by simpa [Lib.splitB] using hx
    rw [this]; exact Nat.le_refl _
  | k + 1, s => fun x hx => by
    unfold Lib.splitB at hx
    split at hx
    · have : x = s := by simpa using hx
      rw [this]; exact Nat.le_refl _
    · rcases List.mem_cons.1 hx with e | e
      · rw [e, ByteArray.size_extract]; omega
      · have h := piece_size sep save k _ x e
        rw [ByteArray.size_extract] at h
        omega

theorem strs_new (l : List ByteArray) (w : World) (t : TypeId) : StrsAt (w.alloc (.cells (l.map Value.string).toArray t)) w.heap.size 0 l := by
  intro k hk
  rw [Nat.zero_add, World.cell?_alloc_at _ _ _ _ rfl]
  simp [List.getElem?_eq_getElem hk]

theorem suffix_colon (lab : ByteArray) : Lib.hasSuffix (lab ++ ⟨#[58]⟩).data.toList [58] = true := by
  rw [bytes_add]
  unfold Lib.hasSuffix
  exact List.isSuffixOf_iff_suffix.2 (List.suffix_append _ _)

theorem trim_colon (lab : ByteArray) : (⟨(Lib.trimSuffix (lab ++ ⟨#[58]⟩).data.toList [58]).toArray⟩ : ByteArray) = lab := by
  apply bytes_ext
  unfold Lib.trimSuffix
  rw [if_pos (suffix_colon lab), bytes_add]
  show List.take ((lab.data.toList ++ [58]).length - 1) (lab.data.toList ++ [58]) = _
  rw [List.length_append, List.length_singleton, Nat.add_sub_cancel, List.take_left]

set_option maxHeartbeats 2000000 in
theorem asm_addLine (B b mb n : Nat) (line : ByteArray) (s s' : St) (w : World) (h : ReadsS w B b mb s) (hst : Step n line s s') (hBw : B ≤ w.heap.size) (ht : Tabs w) (ho : OpsTab w) (hs : line.size ≤ 100000) :
    Calls Tryd.prog 34 #[.pointer (some ⟨b, 0, none⟩), .int .i64 (n : Int), .string line] w fun e w' => e = .returned (.int .i64 0) ∧ ReadsS w' B b mb s' ∧ Below B w w' := by
  have HC := Lib.hid (Tryd.strings_CutSuffix line ⟨#[58]⟩ w (by omega))
  have e58 : (⟨#[58]⟩ : ByteArray).data.toList = [58] := rfl
  rw [e58] at HC
  cases hst with
  | label lab h1 h2 h3 h4 h5 =>
    subst h1
    rw [suffix_colon, trim_colon] at HC
    have hsz : lab.size ≤ 100000 := by rw [add_size] at hs; omega
    have HL := Lib.hid (asm_addLabel B b mb s.nl s.f s.C s.S s.L s.J lab w h hBw (by omega) h2 h3 (by omega) (by omega))
    clear h h2 h3
    go_enter Tryd.func34, Tryd.ntmps34
    go_wp2_with (first
      | (go_at_call 52; (with_reducible refine HC.out.mono ?_); rintro e w' ⟨rfl, rfl⟩)
      | (go_at_call 53; (with_reducible refine HL.out.mono ?_); rintro e w' ⟨rfl, h9, hb9⟩))
    go_ret
    exact ⟨rfl, h9, hb9⟩
  | region ws k vs h1 h2 h3 h4 h5 h6 h7 h8 h9 h10 h11 h12 =>
    rw [h1] at HC
    have HS0 := Lib.hid (lib_Split line ⟨#[32]⟩ w ht (by omega) (by decide) (splitW_len line))
    have HS1 : Hid (Calls Tryd.prog 8 #[.string line, .string ⟨#[32]⟩] w (GivesStrs (splitW line) w)) := HS0
    have hps := piece_size ⟨#[32]⟩ 0 (Lib.countB line ⟨#[32]⟩) line
    have hps : ∀ x ∈ splitW line, x.size ≤ line.size := hps
    rw [h2] at HS1 hps
    have hl := congrArg List.length h4
    rw [List.length_map, List.length_map, List.length_cons] at hl
    have hA := Below.alloc (Below.refl w.heap.size w) (Nat.le_refl _) (.cells ((regionB :: ws).map Value.string).toArray 9)
    have hAB := Below.alloc (Below.refl B w) hBw (.cells ((regionB :: ws).map Value.string).toArray 9)
    have hsa := strs_new (regionB :: ws) w 9
    have c0 : (w.alloc (.cells ((regionB :: ws).map Value.string).toArray 9)).cell? ⟨w.heap.size, 0, none⟩ = some (.string regionB) := hsa 0 (by simp)
    have hsb : StrsAt (w.alloc (.cells ((regionB :: ws).map Value.string).toArray 9)) w.heap.size 1 ws := fun k hk => by
      have h0 := hsa (k + 1) (by simpa using hk)
      rw [Nat.zero_add] at h0
      rw [show 1 + k = k + 1 by omega]
      exact h0
    have hh : ReadsS (w.alloc (.cells ((regionB :: ws).map Value.string).toArray 9)) B b mb s := by
      obtain ⟨vc, vss, vd, vj, hr⟩ := h
      exact ⟨vc, vss, vd, vj, hr.later hA⟩
    unfold ReadsS at hh
    rw [h5, h6] at hh
    have hBa := Nat.le_trans hBw hA.size
    have HR := Lib.hid (fun (cw : Nat) => asm_addRegion B b mb s.f s.S s.L s.J w.heap.size 1 ws k ws.length cw vs _ hh hBa hsb (fun x hx => by have := hps x (by simp [hx]); omega) h3 rfl hl (fun h0 => by
      have e1 : (ws.map numV)[0]? = ((k :: vs).map (fun x : Nat => (x : Int)))[0]? := by rw [h4]
      rw [List.getElem?_map, List.getElem?_eq_getElem h0] at e1
      simpa using e1) (fun j hj hj2 => by
      have e1 : (ws.map numV)[j + 1]? = ((k :: vs).map (fun x : Nat => (x : Int)))[j + 1]? := by rw [h4]
      rw [List.getElem?_map, List.getElem?_eq_getElem hj2, List.map_cons, List.getElem?_cons_succ, List.getElem?_map, List.getElem?_eq_getElem hj] at e1
      simpa using e1) h7 h9 h10 h11 h12 h8)
    have HAB := Lib.hid hAB
    have n1 : ¬ (ws.length + 1 = 1) := by omega
    have n2 : (1 : Int) ≤ ((ws.length : Int) + 1) := by omega
    have q0 : (regionB.toList == [114, 101, 103, 105, 111, 110]) = true := by rw [regionB_list]; exact beq_self_eq_true _
    have HS : Hid (Calls Tryd.prog 8 #[.string line, .string ⟨#[32]⟩] w fun e w' => e = .returned (.slice (some ⟨w.heap.size, 0, none⟩) (ws.length + 1) (ws.length + 1)) ∧ w' = w.alloc (.cells ((regionB :: ws).map Value.string).toArray 9)) := Lib.hid (HS1.out.mono fun _ _ hg => ⟨hg.1, hg.2⟩)
    clear HS1 HS0
    clear h hh hsa hsb hA hAB h3 h4 h1 h2 hps hl hBa
    generalize w.alloc (.cells ((regionB :: ws).map Value.string).toArray 9) = W1 at *
    go_enter Tryd.func34, Tryd.ntmps34
    go_upto_region 5 with (first
      | (go_at_call 52; (with_reducible refine HC.out.mono ?_); rintro e wa ⟨rfl, rfl⟩)
      | (go_at_call 8; (with_reducible refine HS.out.mono ?_); rintro e w' ⟨rfl, rfl⟩))
    clear HS HC
    go_wp2_with (go_at_call 54; (with_reducible refine (HR.out _).mono ?_); rintro e w2 ⟨rfl, hr2, hb2⟩)
    go_ret
    refine ⟨rfl, ?_, HAB.out.trans hb2⟩
    unfold ReadsS
    simp only
    rw [h5, h6]
    exact hr2
  | instr o vs x lab h1 h2 h3 h4 h5 h6 h7 h8 h9 h10 h11 =>
    rw [h1] at HC
    have HS0 := Lib.hid (lib_Split line ⟨#[32]⟩ w ht (by omega) (by decide) (splitW_len line))
    have HS1 : Hid (Calls Tryd.prog 8 #[.string line, .string ⟨#[32]⟩] w (GivesStrs (splitW line) w)) := HS0
    have hps := piece_size ⟨#[32]⟩ 0 (Lib.countB line ⟨#[32]⟩) line
    have hps : ∀ x ∈ splitW line, x.size ≤ line.size := hps
    rw [h2] at HS1 hps
    have hA := Below.alloc (Below.refl w.heap.size w) (Nat.le_refl _) (.cells ((nameB (o : Int) :: vs).map Value.string).toArray 9)
    have hAB := Below.alloc (Below.refl B w) hBw (.cells ((nameB (o : Int) :: vs).map Value.string).toArray 9)
    have hsa := strs_new (nameB (o : Int) :: vs) w 9
    have c0 : (w.alloc (.cells ((nameB (o : Int) :: vs).map Value.string).toArray 9)).cell? ⟨w.heap.size, 0, none⟩ = some (.string (nameB (o : Int))) := hsa 0 (by simp)
    have hh : ReadsS (w.alloc (.cells ((nameB (o : Int) :: vs).map Value.string).toArray 9)) B b mb s := by
      obtain ⟨vc, vss, vd, vj, hr⟩ := h
      exact ⟨vc, vss, vd, vj, hr.later hA⟩
    unfold ReadsS at hh
    have hBa := Nat.le_trans hBw hA.size
    have HR := Lib.hid (fun (cw : Nat) => asm_addInstruction B b mb s.nl s.f s.C s.S s.L s.J n w.heap.size 0 o vs (vs.length + 1) cw x lab _ hh hBa (ho.later hA) rfl hsa h3 h4 (fun y hy => by have := hps y (by simp [hy]); omega) h5 (by rw [h6]) (by rw [h6]) h7 h8 h9 h10 h11)
    have HAB := Lib.hid hAB
    have q0 : ((nameB (o : Int)).toList == [114, 101, 103, 105, 111, 110]) = false := by
      rw [beq_eq_false_iff_ne, ← regionB_list]
      exact fun e => name_region o h3 (toList_inj e)
    have HS : Hid (Calls Tryd.prog 8 #[.string line, .string ⟨#[32]⟩] w fun e w' => e = .returned (.slice (some ⟨w.heap.size, 0, none⟩) (vs.length + 1) (vs.length + 1)) ∧ w' = w.alloc (.cells ((nameB (o : Int) :: vs).map Value.string).toArray 9)) := Lib.hid (HS1.out.mono fun _ _ hg => ⟨hg.1, hg.2⟩)
    clear HS1 HS0
    clear h hh hsa hA hAB h3 h4 h1 h2 hps hBa h5 h6 h7 h8 h9 h10 h11
    generalize w.alloc (.cells ((nameB (o : Int) :: vs).map Value.string).toArray 9) = W1 at *
    generalize nameB (o : Int) = nb at *
    go_enter Tryd.func34, Tryd.ntmps34
    go_upto_region 5 with (first
      | (go_at_call 52; (with_reducible refine HC.out.mono ?_); rintro e wa ⟨rfl, rfl⟩)
      | (go_at_call 8; (with_reducible refine HS.out.mono ?_); rintro e w' ⟨rfl, rfl⟩))
    clear HS HC
    go_wp2_with (go_at_call 55; (with_reducible refine (HR.out _).mono ?_); rintro e w2 ⟨rfl, hr2, hb2⟩)
    go_ret
    exact ⟨rfl, hr2, HAB.out.trans hb2⟩
end Go.Proofs.YthajndgljfbifaaDoor
namespace Go.Proofs.YthajndgljfbifaaDoor
open Go.RowKit
set_option maxRecDepth 100000

/-- An instruction's target set. -/
def setImm (C : List Ins) (i : Nat) (t : Nat) : List Ins := C.modify i fun x => { x with imm := (t : Int) }

theorem setImm_length (C : List Ins) (i t : Nat) : (setImm C i t).length = C.length := by simp [setImm]

theorem setImm_cells : ∀ (C : List Ins) (i t : Nat), codeCells (setImm C i t) = (codeCells C).set (i * 5 + 4) (.int .i64 (t : Int))
  | [], i, t => by simp [setImm, codeCells]
  | x :: C, 0, t => by
    show codeCells ({ x with imm := (t : Int) } :: C) = _
    rfl
  | x :: C, i + 1, t => by
    have h := setImm_cells C i t
    have h1 : codeCells (setImm (x :: C) (i + 1) t) = (insCells x).toList ++ codeCells (setImm C i t) := rfl
    have h2 : codeCells (x :: C) = (insCells x).toList ++ codeCells C := rfl
    rw [h1, h2, h, List.set_append_right _ _ (by show 5 ≤ _; omega)]
    show _ ++ (codeCells C).set _ _ = _ ++ (codeCells C).set ((i + 1) * 5 + 4 - 5) _
    rw [show (i + 1) * 5 + 4 - 5 = i * 5 + 4 by omega]

/-- The code with the first k jumps resolved. -/
def rsl (f : ByteArray → Option Nat) (J : List (Nat × Nat × ByteArray)) (C : List Ins) (k : Nat) : List Ins := (J.take k).foldl (fun C j => setImm C j.2.1 ((f j.2.2).getD 0)) C

theorem rsl_next (f : ByteArray → Option Nat) (J : List (Nat × Nat × ByteArray)) (C : List Ins) {k : Nat} (h : k < J.length) : rsl f J C (k + 1) = setImm (rsl f J C k) J[k].2.1 ((f J[k].2.2).getD 0) := by
  unfold rsl
  rw [List.take_succ_eq_append_getElem h, List.foldl_append]
  rfl

theorem rsl_length (f : ByteArray → Option Nat) (J : List (Nat × Nat × ByteArray)) (C : List Ins) : ∀ k, k ≤ J.length → (rsl f J C k).length = C.length
  | 0, _ => rfl
  | k + 1, h => by rw [rsl_next f J C (by omega), setImm_length, rsl_length f J C k (by omega)]

theorem juCells_at : ∀ (J : List (Nat × Nat × ByteArray)) (k : Nat) (h : k < J.length), (juCells J)[k * 3]? = some (.int .i64 (J[k].1 : Int)) ∧ (juCells J)[k * 3 + 1]? = some (.int .i64 (J[k].2.1 : Int)) ∧ (juCells J)[k * 3 + 2]? = some (.string J[k].2.2)
  | [], k, h => by simp at h
  | j :: J, 0, _ => ⟨rfl, rfl, rfl⟩
  | j :: J, k + 1, h => by
    obtain ⟨h1, h2, h3⟩ := juCells_at J k (by simpa using h)
    have e : juCells (j :: J) = [.int .i64 (j.1 : Int), .int .i64 (j.2.1 : Int), .string j.2.2] ++ juCells J := rfl
    rw [e]
    refine ⟨?_, ?_, ?_⟩
    · rw [List.getElem?_append_right (by show 3 ≤ _; omega)]
      show (juCells J)[(k + 1) * 3 - 3]? = _
      rw [show (k + 1) * 3 - 3 = k * 3 by omega, h1]
      rfl
    · rw [List.getElem?_append_right (by show 3 ≤ _; omega)]
      show (juCells J)[(k + 1) * 3 + 1 - 3]? = _
      rw [show (k + 1) * 3 + 1 - 3 = k * 3 + 1 by omega, h2]
      rfl
    · rw [List.getElem?_append_right (by show 3 ≤ _; omega)]
      show (juCells J)[(k + 1) * 3 + 2 - 3]? = _
      rw [show (k + 1) * 3 + 2 - 3 = k * 3 + 2 by omega, h3]
      rfl

theorem RdAt.keep_code {w w' : World} {B b mb nl : Nat} {f : ByteArray → Option Nat} {C C' : List Ins} {S : List Nat} {L : List (List Nat)} {J : List (Nat × Nat × ByteArray)} {vc vs vd vj : Value} (h : RdAt w B b mb nl f C S L J vc vs vd vj) (hg : w.grownBy w' vc.ownBlock) (ho : w'.ownsRow B 51 5 vc C'.length (codeCells C')) : RdAt w' B b mb nl f C' S L J vc vs vd vj := by
  obtain ⟨cs, d1, d2⟩ := h.data
  obtain ⟨es, c, hmh⟩ := h.map.heap
  exact ⟨h.hb, h.hm, heap_grown h.code hg h.box (by decide), ho, h.sizes.kept hg (own_apart h.sizes h.code (by decide)), ⟨cs, d1.kept hg (own_apart d1 h.code (by decide)), d2.keep fun g cur hh => heap_grown h.code hg hh (by decide)⟩, h.jumps.kept hg (own_apart h.jumps h.code (by decide)), h.map.kept hg (fun e1 => own_notmap h.code hmh e1.symm)⟩

set_option maxHeartbeats 4000000 in
theorem asm_resolveJumps (B b mb nl : Nat) (f : ByteArray → Option Nat) (C : List Ins) (S : List Nat) (L : List (List Nat)) (J : List (Nat × Nat × ByteArray)) (w : World) (h : Reads w B b mb nl f C S L J) (hBw : B ≤ w.heap.size) (hC : C.length ≤ 64) (hJ : ∀ k (h : k < J.length), J[k].2.1 < C.length ∧ (f J[k].2.2).isSome = true ∧ J[k].2.2.size ≤ 1000000) (hJl : J.length ≤ 100) :
    Calls Tryd.prog 35 #[.pointer (some ⟨b, 0, none⟩)] w fun e w' => e = .returned (.tuple #[.int .i64 0, .int .i64 0]) ∧ Reads w' B b mb nl f (rsl f J C J.length) S L J ∧ Below B w w' := by
  obtain ⟨vc, vss, vd, vj, h⟩ := h
  obtain ⟨aj, cj, rfl⟩ := own_form0 h.jumps
  obtain ⟨ac, cc, rfl⟩ := own_form0 h.code
  obtain ⟨p0, p1, p2, p3, p4, _⟩ := h.cells
  have H0 : RdAt w B b mb nl f (rsl f J C 0) S L J (.slice ac C.length cc) vss vd (.slice aj J.length cj) := h
  clear h
  go_enter Tryd.func35, Tryd.ntmps35
  go_wp2_with fail
  clear p0 p1 p2 p3 p4
  go_loopw [13] (fun c wr => ∃ k : Nat, k ≤ J.length ∧ c = .int .i64 k ∧ RdAt wr B b mb nl f (rsl f J C k) S L J (.slice ac C.length cc) vss vd (.slice aj J.length cj) ∧ Below B w wr) (fun c _ => J.length - (intOf c).toNat)
  case atStart => exact ⟨0, by omega, rfl, H0, Below.refl _ _⟩
  clear H0
  obtain ⟨k, hk, rfl, h, hw⟩ := hrel
  by_cases hlt : k < J.length
  · obtain ⟨j1, j2, j3⟩ := hJ k hlt
    obtain ⟨t, ht⟩ := Option.isSome_iff_exists.1 j2
    have hown := h.jumps
    obtain ⟨gj, capj, e1, hgj, _⟩ := hown.form (by omega)
    simp only [Value.slice.injEq, true_and] at e1
    obtain ⟨rfl, rfl⟩ := e1
    obtain ⟨q1, q2, q3⟩ := juCells_at J k hlt
    have c0 := (hown.cellAt (k * 3) (by omega)).trans q1
    have c1 := (hown.cellAt (k * 3 + 1) (by omega)).trans q2
    have c2 := (hown.cellAt (k * 3 + 2) (by omega)).trans q3
    have HRN := Lib.hid (rsl_next f J C hlt)
    have hcl := rsl_length f J C k (by omega)
    rw [ht] at HRN
    generalize J[k] = j at *
    obtain ⟨jl, ji, js⟩ := j
    simp only at j1 j3 ht HRN q1 q2 q3 c0 c1 c2
    have i1 : (k : Int) < (J.length : Int) := by omega
    have i2 : 0 ≤ (k : Int) := by omega
    have HW := Lib.hid hw
    have hBr : B ≤ wr.heap.size := Nat.le_trans hBw hw.size
    clear q1 q2 q3 hown hJ j2 hw
    go_upto_region 4 with fail
    have hA := Below.alloc (Below.refl wr.heap.size wr) (Nat.le_refl _) (.cells #[.int .i64 (jl : Int), .int .i64 (ji : Int), .string js] 103)
    have hX : (wr.alloc (.cells #[.int .i64 (jl : Int), .int .i64 (ji : Int), .string js] 103)).heap[wr.heap.size]? = some (.cells #[.int .i64 (jl : Int), .int .i64 (ji : Int), .string js] 103 (0, 0)) := heap_alloc_new wr _
    have h4 := h.later hA
    have HW4 := Lib.hid (HW.out.trans (hA.mono hBr))
    clear hA h c0 c1 c2
    generalize wr.alloc (.cells #[.int .i64 (jl : Int), .int .i64 (ji : Int), .string js] 103) = W4 at *
    generalize wr.heap.size = Z at *
    go_cut [6, 7] (fun v6 v7 wx => v6 = .int .i64 (t : Int) ∧ v7 = .bool true ∧ Below W4.heap.size W4 wx)
    case first =>
      obtain ⟨p0, p1, p2, p3, p4, _⟩ := h4.cells
      have z2 : W4.cell? ⟨Z, 2, none⟩ = some (.string js) := (Lib.cell_of_heap hX 2).trans rfl
      have hlk := (h4.later (Below.drew (Below.refl _ _))).map.look js j3
      rw [ht] at hlk
      have hlk : (Instr.lookup 74 (.map (some mb)) (.string js) true).run Tryd.prog W4.drew = .ok (.tuple #[.int .i64 (t : Int), .bool true]) W4.drew := hlk
      clear h4 ht
      go_region
      all_goals (go_wp2_with fail; go_meet; exact ⟨rfl, rfl, Below.drew (Below.refl _ _)⟩)
    case rest =>
      obtain ⟨rfl, rfl, hwc⟩ := hcut
      have h5 := h4.later hwc
      have hX5 := heap_later hwc hX
      have hs4 : B ≤ W4.heap.size := Nat.le_trans hBw HW4.out.size
      have HW5 := Lib.hid (HW4.out.trans (hwc.mono hs4))
      clear h4 hX hwc HW4
      obtain ⟨p0, p1, p2, p3, p4, _⟩ := h5.cells
      have z1 : wc.cell? ⟨Z, 1, none⟩ = some (.int .i64 (ji : Int)) := (Lib.cell_of_heap hX5 1).trans rfl
      have hco := h5.code
      rw [hcl] at hco
      obtain ⟨gc, capc, e2, hgc, _⟩ := hco.form (by omega)
      simp only [Value.slice.injEq, true_and] at e2
      obtain ⟨rfl, rfl⟩ := e2
      have hcs := hco.1
      obtain ⟨u0, hu0⟩ : ∃ u, (codeCells (rsl f J C k))[ji * 5 + 4]? = some u := ⟨_, List.getElem?_eq_getElem (by omega)⟩
      have d0 := (hco.cellAt (ji * 5 + 4) (by omega)).trans hu0
      have fr := hco.frozenAt (ji * 5 + 4)
      have hst := (World.ownsRow.drew hco).stored (ji * 5 + 4) (.int .i64 (t : Int))
      rw [← setImm_cells] at hst
      have hRN : rsl f J C (k + 1) = setImm (rsl f J C k) ji t := HRN.out
      rw [← hRN] at hst
      have hcl2 := rsl_length f J C (k + 1) (by omega)
      have h6 := Lib.hid ((h5.later (Below.drew (Below.refl _ _))).keep_code (C' := rsl f J C (k + 1)) hst.2 (by rw [hcl2]; exact hst.1))
      have HW6 := Lib.hid ((Below.drew HW5.out).grown hst.2 (Nat.le_trans hBw HW5.out.size) (fun k hk => by cases hk; exact hgc))
      have m1 : (ji : Int) < (C.length : Int) := by omega
      have m2 : 0 ≤ (ji : Int) := by omega
      clear hst hco hcs hu0 h5 hX5 hRN hcl hcl2 HRN ht p1 p2 p3 p4 j1 j3 hgc
      go_upto_region 7 with fail
      go_region
      all_goals
        go_wp2_with fail
        refine ⟨⟨k + 1, by omega, by go_num, h6.out, HW6.out⟩, ?_⟩
        simp [intOf]
        omega
  · obtain rfl : k = J.length := by omega
    have H := Lib.hid h
    have HW := Lib.hid hw
    clear h hw hlt
    go_wp2
    refine bodyPost_ret (v := .tuple #[.int .i64 0, .int .i64 0]) (by simp [results, Tryd.results35, go_sem]) rfl ⟨rfl, ⟨_, _, _, _, H.out⟩, HW.out⟩

theorem key_inv7 {key : Value} {kl : Lit} (h : Go.keyOf Tryd.prog 9 key = some kl) : ∃ s : ByteArray, key = .string s ∧ kl = KL s := by
  have hk : Tryd.prog.underlying 9 = some .string := Tryd.underlying9
  cases key <;> simp [Go.keyOf, hk, mapKey] at h
  exact ⟨_, rfl, by rw [← h.2]; rfl⟩

set_option maxHeartbeats 2000000 in
theorem asm_complete (B b mb nl : Nat) (f : ByteArray → Option Nat) (C : List Ins) (S : List Nat) (L : List (List Nat)) (J : List (Nat × Nat × ByteArray)) (w : World) (h : Reads w B b mb nl f C S L J) (hf : ∀ s k, f s = some k → k < C.length) (hS : 0 < S.length) (hC : 0 < C.length) :
    Calls Tryd.prog 36 #[.pointer (some ⟨b, 0, none⟩)] w fun e w' => e = .returned (.bool true) ∧ Below w.heap.size w w' := by
  obtain ⟨vc, vss, vd, vj, h⟩ := h
  obtain ⟨ac, cc, rfl⟩ := own_form0 h.code
  obtain ⟨a2, c2, rfl⟩ := own_form0 h.sizes
  obtain ⟨D, hown, hD⟩ := h.map
  obtain ⟨w1, hrun, hr, hg1, hs1⟩ := hown.range (Maps.string_keyed Tryd.underlying9) Tryd.underlying74
  obtain ⟨p0, p1, p2, p3, p4, _⟩ := h.cells
  have hb1 : Below w.heap.size w w1 := (Below.refl _ _).grown hg1 (Nat.le_refl _) (fun k hk => by cases hk)
  have HD := Lib.hid hD
  have H := Lib.hid h
  have i1 : 0 < (S.length : Int) := by omega
  have i2 : 0 < (C.length : Int) := by omega
  clear hown hD h hg1 hs1
  go_enter Tryd.func36, Tryd.ntmps36
  go_wp2_with fail
  clear hrun
  go_loopw [2] (fun v wr => v = .bool false ∧ (∃ left cnt, wr.ranges Tryd.prog 9 (plainElem Tryd.prog 3) mb w.heap.size nl D left cnt ∧ ∀ kl, left kl = true → Maps.has D kl = true) ∧ Below w.heap.size w wr) (fun _ wx => wx.rangeLeft mb w.heap.size)
  case atStart => exact ⟨rfl, ⟨_, _, hr, fun kl hk => hk⟩, hb1⟩
  clear hr hb1 p0 p1 p2 p3 p4
  obtain ⟨rfl, ⟨left, cnt, hr, hleft⟩, hw⟩ := hrel
  obtain ⟨p0, p1, p2, p3, p4, _⟩ := (H.out.later hw).cells
  have hcnt := hr.left_eq
  rcases hr.next (Maps.string_keyed Tryd.underlying9) 0 with ⟨h0, hl, hrun⟩ | ⟨key, v, kl, y, w2, cnt', hkey, hlk, hv, hat, hrun, hr2, hlt, hg2, hs2, hent⟩
  · have HW := Lib.hid hw
    clear hr hleft hcnt hl h0 hw
    go_wp2
    go_ret
    exact ⟨rfl, HW.out⟩
  · obtain ⟨s, rfl, rfl⟩ := key_inv7 hkey
    obtain ⟨a, rfl, hya, _⟩ := plainElem_int_inv Tryd.underlying3 hv
    have hhas := hleft _ hlk
    have hne : (a == (C.length : Int)) = false := by
      cases hfs : f s with
      | none =>
        rw [(HD.out s).1 hfs] at hhas
        cases hhas
      | some k =>
        have h3 := ((HD.out s).2 k hfs).2 (.lit (.int .i64 0))
        rw [hat, hya] at h3
        simp only [DataW.lit.injEq, Lit.int.injEq, true_and] at h3
        have := hf s k hfs
        rw [beq_eq_false_iff_ne, h3]
        omega
    have hw2 := hw.grown hg2 hw.size (fun k hk => by cases hk; exact Nat.le_refl _)
    obtain ⟨p0, p1, p2, p3, p4, _⟩ := (H.out.later hw2).cells
    have HR2 := Lib.hid hr2
    have HW2 := Lib.hid hw2
    have HL2 : Hid (∀ kl, (left kl && !kl.sameKey (KL s)) = true → Maps.has D kl = true) := Lib.hid (fun kl hk => hleft kl (by simp at hk; exact hk.1))
    have HC := Lib.hid hcnt
    have HC2 := Lib.hid hr2.left_eq
    have HLT := Lib.hid hlt
    clear hr hr2 hw hw2 hleft hhas hat hya hlk hv hkey hg2 hs2 hcnt hlt
    go_wp2_with fail
    refine ⟨⟨rfl, ⟨_, _, HR2.out, HL2.out⟩, HW2.out⟩, ?_⟩
    rw [HC.out, HC2.out]
    exact HLT.out
end Go.Proofs.YthajndgljfbifaaDoor
namespace Go.Proofs.YthajndgljfbifaaDoor
open Go.RowKit
set_option maxRecDepth 100000

theorem code_at {w : World} {B : Nat} {v : Value} {C : List Ins} (h : w.ownsRow B 51 5 v C.length (codeCells C)) : ∃ ac cc, v = .slice ac C.length cc ∧ CodeAt w ac C := by
  obtain ⟨ac, cc, rfl⟩ := own_form0 h
  refine ⟨ac, cc, rfl, ?_⟩
  by_cases h0 : C.length = 0
  · exact .inl (List.eq_nil_of_length_eq_zero h0)
  · obtain ⟨g, cap, e, _, _⟩ := h.form (by omega)
    simp only [Value.slice.injEq, true_and] at e
    obtain ⟨rfl, rfl⟩ := e
    refine .inr ⟨g, 0, rfl, fun i hi => ?_⟩
    have key : ∀ (C : List Ins) (i : Nat) (hi : i < C.length) (j : Nat), j < 5 → (codeCells C)[i * 5 + j]? = (insCells C[i])[j]? := by
      intro C
      induction C with
      | nil => intro i hi; simp at hi
      | cons x r ih =>
        intro i hi j hj
        have e : codeCells (x :: r) = (insCells x).toList ++ codeCells r := rfl
        rw [e]
        cases i with
        | zero =>
          rw [List.getElem?_append_left (by show _ < 5; omega)]
          simp
        | succ i =>
          rw [List.getElem?_append_right (by show 5 ≤ _; omega)]
          show (codeCells r)[(i + 1) * 5 + j - 5]? = _
          rw [show (i + 1) * 5 + j - 5 = i * 5 + j by omega, ih i (by simpa using hi) j hj]
          rfl
    have k0 := key C i hi
    refine ⟨?_, ?_, ?_, ?_, ?_⟩
    · rw [Nat.zero_add, h.cellAt (i * 5) (by omega)]; exact (k0 0 (by omega)).trans rfl
    · rw [Nat.zero_add, h.cellAt (i * 5 + 1) (by omega)]; exact (k0 1 (by omega)).trans rfl
    · rw [Nat.zero_add, h.cellAt (i * 5 + 2) (by omega)]; exact (k0 2 (by omega)).trans rfl
    · rw [Nat.zero_add, h.cellAt (i * 5 + 3) (by omega)]; exact (k0 3 (by omega)).trans rfl
    · rw [Nat.zero_add, h.cellAt (i * 5 + 4) (by omega)]; exact (k0 4 (by omega)).trans rfl

def intsS (S : List Nat) : List Int := S.map fun n : Nat => (n : Int)

theorem sizes_at {w : World} {B : Nat} {v : Value} {S : List Nat} (h : w.ownsRow B 3 1 v S.length (szCells S)) : ∃ a c, v = .slice a S.length c ∧ IntsAt .i64 w a (intsS S) := by
  obtain ⟨a, c, rfl⟩ := own_form0 h
  refine ⟨a, c, rfl, ?_⟩
  by_cases h0 : S.length = 0
  · exact .inl (by rw [List.eq_nil_of_length_eq_zero h0]; rfl)
  · obtain ⟨g, cap, e, _, _⟩ := h.form (by omega)
    simp only [Value.slice.injEq, true_and] at e
    obtain ⟨rfl, rfl⟩ := e
    refine .inr ⟨g, 0, rfl, fun i hi => ?_⟩
    have hi' : i < S.length := by simpa [intsS] using hi
    rw [Nat.zero_add, h.cellAt i (by omega)]
    simp [szCells, intsS, List.getElem?_eq_getElem hi']

theorem data_at {w : World} {B : Nat} {v : Value} {L : List (List Nat)} {cs : List Value} (h : w.ownsRow B 46 1 v L.length cs) (hd : DatL w L cs) : ∃ a c, v = .slice a L.length c ∧ DatAt w a L := by
  obtain ⟨a, c, rfl⟩ := own_form0 h
  refine ⟨a, c, rfl, ?_⟩
  by_cases h0 : L.length = 0
  · exact .inl (List.eq_nil_of_length_eq_zero h0)
  · obtain ⟨g, cap, e, _, _⟩ := h.form (by omega)
    simp only [Value.slice.injEq, true_and] at e
    obtain ⟨rfl, rfl⟩ := e
    refine .inr ⟨g, 0, rfl, fun i hi => ?_⟩
    obtain ⟨g2, cur, h1, h2, h3⟩ := hd i hi
    refine ⟨_, _, by rw [Nat.zero_add, h.cellAt i (by omega)]; exact h1, ?_⟩
    refine .inr ⟨g2, 0, rfl, fun j hj => ?_⟩
    rw [Nat.zero_add, Lib.cell_of_heap h2]
    exact h3 j hj

/-- The call gives a program in memory, the number n, and OK. -/
def GivesPg (C : List Ins) (S : List Nat) (L : List (List Nat)) (n : Nat) (w : World) (e : Ending) (w' : World) : Prop :=
  ∃ ac a2 ad cc c2 cd, e = .returned (.tuple #[.agg #[.slice ac C.length cc, .slice a2 S.length c2, .slice ad L.length cd], .int .i64 (n : Int), .int .i64 0]) ∧ CodeAt w' ac C ∧ IntsAt .i64 w' a2 (intsS S) ∧ DatAt w' ad L ∧ Below w.heap.size w w'

def st0 : St := ⟨0, fun _ => none, [], [], [], []⟩

theorem split_len (s sep : ByteArray) (h1 : 1 ≤ sep.size) : (Lib.splitB sep 0 (Lib.countB s sep) s).length = Lib.countB s sep + 1 := Lib.splitB_all sep h1 0 _ s rfl

/-- The text's lines, and what is behind the last one. -/
def lsE (ls : List ByteArray) : List ByteArray := ls ++ [⟨#[]⟩]

theorem lsE_length (ls : List ByteArray) : (lsE ls).length = ls.length + 1 := by simp [lsE]

theorem reads_new (w : World) : ReadsS ((w.alloc (.map #[] 0)).alloc (.cells #[.slice none 0 0, .slice none 0 0, .slice none 0 0, .map (some w.heap.size), .slice none 0 0] 77)) w.heap.size (w.alloc (.map #[] 0)).heap.size w.heap.size st0 :=
  ⟨_, _, _, _, by simp, Nat.le_refl _, heap_alloc_new _ _, World.ownsRow_nil _ _ _ _, World.ownsRow_nil _ _ _ _, ⟨[], World.ownsRow_nil _ _ _ _, fun i h => by simp [st0] at h⟩, World.ownsRow_nil _ _ _ _, (LabM.made w).later (Below.alloc (Below.refl _ _) (Nat.le_refl _) _)⟩

set_option maxHeartbeats 4000000 in
theorem asm_Parse (s : ByteArray) (ls : List ByteArray) (st : Nat → St) (E : St) (w : World) (ht : Tabs w) (ho : OpsTab w) (hs : s.size ≤ 4096) (hsp : Lib.splitB ⟨#[10]⟩ 0 (Lib.countB s ⟨#[10]⟩) s = lsE ls) (h0 : st 0 = st0) (hst : ∀ i (h : i < ls.length), Step i ls[i] (st i) (st (i + 1))) (hE : st ls.length = E) (hl : ls.length ≤ 5000)
    (hJ : ∀ k (h : k < E.J.length), E.J[k].2.1 < E.C.length ∧ (E.f E.J[k].2.2).isSome = true ∧ E.J[k].2.2.size ≤ 1000000) (hJl : E.J.length ≤ 100) (hC : E.C.length ≤ 64) (hf : ∀ q k, E.f q = some k → k < E.C.length) (hS0 : 0 < E.S.length) (hC0 : 0 < E.C.length) :
    Calls Tryd.prog 11 #[.string s] w (GivesPg (rsl E.f E.J E.C E.J.length) E.S E.L ls.length w) := by
  have hA0 := Below.alloc (Below.refl w.heap.size w) (Nat.le_refl _) (.cells #[.slice none 0 0, .slice none 0 0, .slice none 0 0] 26)
  have HS0 := Lib.hid (lib_Split s ⟨#[10]⟩ (w.alloc (.cells #[.slice none 0 0, .slice none 0 0, .slice none 0 0] 26)) (ht.later hA0) (by omega) (by decide) (split_len s ⟨#[10]⟩ (by decide)))
  have hps : ∀ x ∈ lsE ls, x.size ≤ s.size := by rw [← hsp]; exact piece_size ⟨#[10]⟩ 0 _ s
  rw [hsp] at HS0
  have hXp : (w.alloc (.cells #[.slice none 0 0, .slice none 0 0, .slice none 0 0] 26)).heap[w.heap.size]? = some (.cells #[.slice none 0 0, .slice none 0 0, .slice none 0 0] 26 (0, 0)) := heap_alloc_new w _
  have hs3 : ¬ 4096 < (s.size : Int) := by omega
  have HB0 := Lib.hid hA0
  clear hA0 hsp
  go_enter Tryd.func11, Tryd.ntmps11
  go_upto_region 1 with fail
  generalize w.alloc (.cells #[.slice none 0 0, .slice none 0 0, .slice none 0 0] 26) = W0 at *
  have HS : Hid (Calls Tryd.prog 8 #[.string s, .string ⟨#[10]⟩] W0 fun e w' => e = .returned (.slice (some ⟨W0.heap.size, 0, none⟩) (ls.length + 1) (ls.length + 1)) ∧ w' = W0.alloc (.cells ((lsE ls).map Value.string).toArray 9)) := Lib.hid (HS0.out.mono fun _ _ hg => ⟨by rw [hg.1, lsE_length], hg.2⟩)
  have hsa := strs_new (lsE ls) W0 9
  have hA1 := Below.alloc (Below.refl W0.heap.size W0) (Nat.le_refl _) (.cells ((lsE ls).map Value.string).toArray 9)
  have hXp := heap_later hA1 hXp
  have HB1 := Lib.hid (HB0.out.trans (hA1.mono HB0.out.size))
  clear HS0 hA1 HB0
  generalize W0.alloc (.cells ((lsE ls).map Value.string).toArray 9) = W1 at *
  have hn1 : (ls.length : Int) + 1 ≤ 5001 := by omega
  go_upto_region 5 with (go_at_call 8; (with_reducible refine HS.out.mono ?_); rintro e W2 ⟨rfl, rfl⟩)
  clear HS hs3
  have hrd := reads_new W2
  have hA2 := Below.alloc (Below.refl W2.heap.size W2) (Nat.le_refl _) (.map #[] 0)
  have hA3 := Below.alloc (Below.refl (W2.alloc (.map #[] 0)).heap.size (W2.alloc (.map #[] 0))) (Nat.le_refl _) (.cells #[.slice none 0 0, .slice none 0 0, .slice none 0 0, .map (some W2.heap.size), .slice none 0 0] 77)
  have hA4 := hA2.trans (hA3.mono hA2.size)
  have hsz : (W2.alloc (.map #[] 0)).heap.size = W2.heap.size + 1 := by simp
  rw [← h0, hsz] at hrd
  have HSA := Lib.hid hsa
  have HXP := Lib.hid hXp
  clear hA2 hA3 hsa hXp hsz
  have hmm := run_makeMap (P := Tryd.prog) 74 W2
  go_upto_region 6 with fail
  clear hmm
  generalize (W2.alloc (.map #[] 0)).alloc (.cells #[.slice none 0 0, .slice none 0 0, .slice none 0 0, .map (some W2.heap.size), .slice none 0 0] 77) = W3 at *
  go_wp2_with fail
  go_loopw [28] (fun c wr => ∃ k : Nat, k ≤ ls.length ∧ c = .int .i64 k ∧ ReadsS wr W2.heap.size (W2.heap.size + 1) W2.heap.size (st k) ∧ Below W2.heap.size W2 wr) (fun c _ => ls.length - (intOf c).toNat)
  case atStart => exact ⟨0, by omega, rfl, hrd, hA4⟩
  clear hrd hA4
  obtain ⟨k, hk, rfl, hr, hw⟩ := hrel
  have hwl := HB1.out.trans (hw.mono HB1.out.size)
  by_cases hlt : k < ls.length
  · have c0 := cell_later hw (HSA.out k (by rw [lsE_length]; omega))
    rw [Nat.zero_add, show (lsE ls)[k]'(by rw [lsE_length]; omega) = ls[k] by simp [lsE, List.getElem_append_left hlt]] at c0
    have hsx := hps ls[k] (by simp [lsE])
    have HL := Lib.hid (asm_addLine _ _ _ k ls[k] (st k) (st (k + 1)) wr hr (hst k hlt) hw.size (ht.later hwl) (ho.later hwl) (by omega))
    generalize ls[k] = x at *
    have i1 : (k : Int) < (ls.length : Int) := by omega
    have i2 : 0 ≤ (k : Int) := by omega
    have HW := Lib.hid hw
    clear hr hw hwl hsx hst hJ hf
    go_wp2_with (go_at_call 34; (with_reducible refine HL.out.mono ?_); rintro e W4 ⟨rfl, hr4, hb4⟩)
    refine ⟨⟨k + 1, by omega, by go_num, hr4, HW.out.trans hb4⟩, ?_⟩
    simp [intOf]
    omega
  · obtain rfl : k = ls.length := by omega
    have c0 := cell_later hw (HSA.out ls.length (by rw [lsE_length]; omega))
    rw [Nat.zero_add, show (lsE ls)[ls.length]'(by rw [lsE_length]; omega) = (⟨#[]⟩ : ByteArray) by simp [lsE]] at c0
    rw [hE] at hr
    have hXp2 := (hw.block w.heap.size (by have := (Array.getElem?_eq_some_iff.1 HXP.out).1; omega)).trans HXP.out
    have HRJ := Lib.hid (asm_resolveJumps _ _ _ E.nl E.f E.C E.S E.L E.J wr hr hw.size hC hJ hJl)
    have hlJ := rsl_length E.f E.J E.C E.J.length (Nat.le_refl _)
    have HCP : Hid (∀ W, Reads W _ _ _ _ _ _ _ _ _ → _) := Lib.hid (fun W hW => asm_complete W2.heap.size (W2.heap.size + 1) W2.heap.size E.nl E.f (rsl E.f E.J E.C E.J.length) E.S E.L E.J W hW (fun q k hq => by rw [hlJ]; exact hf q k hq) hS0 (by omega))
    have HXP2 := Lib.hid hXp2
    have HWL := Lib.hid hwl
    have i1 : 0 ≤ (ls.length : Int) := by omega
    have hP : w.heap.size < W2.heap.size := (Array.getElem?_eq_some_iff.1 HXP.out).1
    have hw2 := hw.size
    clear hr hw hwl hst hJ hf hXp2 hlt hE hlJ
    go_upto_region 18 with (go_at_call 35; (with_reducible refine HRJ.out.mono ?_); rintro e W4 ⟨rfl, hr4, hb4⟩)
    go_upto_region 20 with (go_at_call 36; (with_reducible refine (HCP.out _ hr4).mono ?_); rintro e W5 ⟨rfl, hb5⟩)
    obtain ⟨vc, vss, vd, vj, h6⟩ := hr4
    have h7 := h6.later hb5
    have X0 := heap_later hb5 ((hb4.block w.heap.size hP).trans HXP2.out)
    have HB5 := Lib.hid ((HWL.out.trans (hb4.mono (Nat.le_of_lt hP))).trans (hb5.mono (Nat.le_trans (Nat.le_of_lt (Nat.lt_of_lt_of_le hP hw2)) hb4.size)))
    obtain ⟨ac, cc, rfl, _⟩ := code_at h7.code
    obtain ⟨a2, c2, rfl, _⟩ := sizes_at h7.sizes
    obtain ⟨ds, d1, d2⟩ := h7.data
    obtain ⟨ad, cd, rfl, _⟩ := data_at d1 d2
    obtain ⟨p0, p1, p2, p3, p4, _⟩ := h7.cells
    have y0 : W5.cell? ⟨w.heap.size, 0, none⟩ = some (.slice none 0 0) := (Lib.cell_of_heap X0 0).trans rfl
    have y1 : W5.cell? ⟨w.heap.size, 1, none⟩ = some (.slice none 0 0) := (Lib.cell_of_heap X0 1).trans rfl
    have y2 : W5.cell? ⟨w.heap.size, 2, none⟩ = some (.slice none 0 0) := (Lib.cell_of_heap X0 2).trans rfl
    have f0 := Lib.frozen_of_heap X0 0
    have f1 := Lib.frozen_of_heap X0 1
    have f2 := Lib.frozen_of_heap X0 2
    have X1 := heap_setCell_same W5 w.heap.size 0 _ _ (.slice ac (rsl E.f E.J E.C E.J.length).length cc) X0
    have X2 := heap_setCell_same _ w.heap.size 1 _ _ (.slice a2 E.S.length c2) X1
    have X3 := heap_setCell_same _ w.heap.size 2 _ _ (.slice ad E.L.length cd) X2
    have K1 := own_set (own_set (own_set h7.code X0 (by decide) 0 (.slice ac (rsl E.f E.J E.C E.J.length).length cc)) X1 (by decide) 1 (.slice a2 E.S.length c2)) X2 (by decide) 2 (.slice ad E.L.length cd)
    have K2 := own_set (own_set (own_set h7.sizes X0 (by decide) 0 (.slice ac (rsl E.f E.J E.C E.J.length).length cc)) X1 (by decide) 1 (.slice a2 E.S.length c2)) X2 (by decide) 2 (.slice ad E.L.length cd)
    have K3 := own_set (own_set (own_set d1 X0 (by decide) 0 (.slice ac (rsl E.f E.J E.C E.J.length).length cc)) X1 (by decide) 1 (.slice a2 E.S.length c2)) X2 (by decide) 2 (.slice ad E.L.length cd)
    have K4 := ((d2.keep fun g cur hh => heap_set X0 hh (by decide) 0 (.slice ac (rsl E.f E.J E.C E.J.length).length cc)).keep fun g cur hh => heap_set X1 hh (by decide) 1 (.slice a2 E.S.length c2)).keep fun g cur hh => heap_set X2 hh (by decide) 2 (.slice ad E.L.length cd)
    have KB := ((HB5.out.setCell (p := ⟨w.heap.size, 0, none⟩) (Nat.le_refl _) (.slice ac (rsl E.f E.J E.C E.J.length).length cc)).setCell (p := ⟨w.heap.size, 1, none⟩) (Nat.le_refl _) (.slice a2 E.S.length c2)).setCell (p := ⟨w.heap.size, 2, none⟩) (Nat.le_refl _) (.slice ad E.L.length cd)
    have HX3 := Lib.hid X3
    have HK := Lib.hid (And.intro K1 (And.intro K2 (And.intro K3 (And.intro K4 KB))))
    clear h6 h7 hb4 hb5 d1 d2 X0 X1 X2 X3 K1 K2 K3 K4 KB p3 p4
    go_wp2
    generalize ((W5.setCell ⟨w.heap.size, 0, none⟩ (.slice ac (rsl E.f E.J E.C E.J.length).length cc)).setCell ⟨w.heap.size, 1, none⟩ (.slice a2 E.S.length c2)).setCell ⟨w.heap.size, 2, none⟩ (.slice ad E.L.length cd) = WW at *
    obtain ⟨K1, K2, K3, K4, KB⟩ := HK.out
    have z0 : WW.cell? ⟨w.heap.size, 0, none⟩ = some (.slice ac (rsl E.f E.J E.C E.J.length).length cc) := (Lib.cell_of_heap HX3.out 0).trans rfl
    have z1 : WW.cell? ⟨w.heap.size, 1, none⟩ = some (.slice a2 E.S.length c2) := (Lib.cell_of_heap HX3.out 1).trans rfl
    have z2 : WW.cell? ⟨w.heap.size, 2, none⟩ = some (.slice ad E.L.length cd) := (Lib.cell_of_heap HX3.out 2).trans rfl
    obtain ⟨ac', cc', e1, k1⟩ := code_at K1
    obtain ⟨a2', c2', e2, k2⟩ := sizes_at K2
    obtain ⟨ad', cd', e3, k3⟩ := data_at K3 K4
    simp only [Value.slice.injEq, true_and] at e1 e2 e3
    obtain ⟨rfl, rfl⟩ := e1
    obtain ⟨rfl, rfl⟩ := e2
    obtain ⟨rfl, rfl⟩ := e3
    refine bodyPost_ret (v := .tuple #[.agg #[.slice ac (rsl E.f E.J E.C E.J.length).length cc, .slice a2 E.S.length c2, .slice ad E.L.length cd], .int .i64 (ls.length : Int), .int .i64 0]) (by simp [results, Tryd.results11, go_sem, z0, z1, z2]) rfl ⟨_, _, _, _, _, _, rfl, k1, k2, k3, KB⟩
end Go.Proofs.YthajndgljfbifaaDoor
