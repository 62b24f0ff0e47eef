/-
  Texts cut into lines and words; decimal numbers read.
  A program's text, line by line, under any names of its labels; its lines can be read, and what is read is the program.
  The lines of a good program are read, and what is read is the program.
  A good program's text is read, and what is read is the program.
  Parse of a program's text, whatever its labels are called, is the program.
  Different programs have different texts; how many lines a text has.
-/
import Derived.Test.YthajndgljfbifaaDoorAsmPa
namespace Go.Proofs.YthajndgljfbifaaDoor
open Go.RowKit Go.PlainAid
set_option maxRecDepth 100000

theorem index_hit {c : UInt8} (r : List UInt8) : ∀ a : List UInt8, c ∉ a → Lib.index (a ++ c :: r) [c] = (a.length : Int)
  | [], _ => by simp [Lib.index, List.isPrefixOf]
  | b :: a, h => by
    have hb : b ≠ c := fun e => h (by simp [e])
    have ih := index_hit r a (fun e => h (List.mem_cons_of_mem _ e))
    have hp : ([c] : List UInt8).isPrefixOf (b :: (a ++ c :: r)) = false := by simp [List.isPrefixOf, Ne.symm hb]
    show Lib.index (b :: (a ++ c :: r)) [c] = _
    rw [Lib.index, hp, ih]
    have hne : ((a.length : Int) == -1) = false := by rw [beq_eq_false_iff_ne]; omega
    simp [hne]

theorem index_miss {c : UInt8} : ∀ a : List UInt8, c ∉ a → Lib.index a [c] = -1
  | [], _ => by simp [Lib.index]
  | b :: a, h => by
    have hb : b ≠ c := fun e => h (by simp [e])
    have ih := index_miss a (fun e => h (List.mem_cons_of_mem _ e))
    have hp : ([c] : List UInt8).isPrefixOf (b :: a) = false := by simp [List.isPrefixOf, Ne.symm hb]
    rw [Lib.index, hp, ih]
    simp

theorem split_cons {c : UInt8} (a r : List UInt8) (h : c ∉ a) : Lib.splitK [c] 0 (Lib.count (a ++ c :: r) [c]) (a ++ c :: r) = a :: Lib.splitK [c] 0 (Lib.count r [c]) r := by
  have hi := index_hit r a h
  have hd : (a ++ c :: r).drop (a.length + 1) = r := by
    rw [List.drop_append]
    simp
  have hc : Lib.count (a ++ c :: r) [c] = Lib.count r [c] + 1 := by
    rw [Lib.count_hit (by simp) hi, List.length_singleton, hd]
    omega
  rw [hc]
  show (if Lib.index (a ++ c :: r) [c] == -1 then [a ++ c :: r] else (a ++ c :: r).take ((Lib.index (a ++ c :: r) [c]).toNat + 0) :: Lib.splitK [c] 0 (Lib.count r [c]) ((a ++ c :: r).drop ((Lib.index (a ++ c :: r) [c]).toNat + 1))) = _
  rw [hi, if_neg (by rw [beq_iff_eq]; omega), Int.toNat_natCast, hd]
  simp

theorem split_last {c : UInt8} (a : List UInt8) (h : c ∉ a) : Lib.splitK [c] 0 (Lib.count a [c]) a = [a] := by
  rw [Lib.count_miss (index_miss a h)]
  rfl

theorem map_bytes_inj : ∀ {a b : List ByteArray}, a.map (·.data.toList) = b.map (·.data.toList) → a = b
  | [], [], _ => rfl
  | [], _ :: _, h => by simp at h
  | _ :: _, [], h => by simp at h
  | x :: a, y :: b, h => by
    simp only [List.map_cons, List.cons.injEq] at h
    rw [bytes_ext h.1, map_bytes_inj h.2]

/-- A text of lines. -/
def textFrom (t : ByteArray) (ls : List ByteArray) : ByteArray := ls.foldl (fun t l => t ++ l ++ ⟨#[10]⟩) t

theorem textFrom_data (ls : List ByteArray) : ∀ t : ByteArray, (textFrom t ls).data.toList = t.data.toList ++ ls.flatMap fun l => l.data.toList ++ [10] := by
  induction ls with
  | nil => intro t; simp [textFrom]
  | cons l r ih =>
    intro t
    show (textFrom (t ++ l ++ ⟨#[10]⟩) r).data.toList = _
    rw [ih, bytes_add, bytes_add]
    simp

theorem textFrom_app (t : ByteArray) (a b : List ByteArray) : textFrom t (a ++ b) = textFrom (textFrom t a) b := by
  unfold textFrom
  rw [List.foldl_append]

theorem split_lines (ls : List ByteArray) (h : ∀ l ∈ ls, (10 : UInt8) ∉ l.data.toList) : Lib.splitB ⟨#[10]⟩ 0 (Lib.countB (textFrom ⟨#[]⟩ ls) ⟨#[10]⟩) (textFrom ⟨#[]⟩ ls) = ls ++ [⟨#[]⟩] := by
  apply map_bytes_inj
  rw [Lib.splitB_data]
  show Lib.splitK [10] 0 (Lib.count (textFrom ⟨#[]⟩ ls).data.toList [10]) _ = _
  rw [textFrom_data]
  show Lib.splitK [10] 0 (Lib.count ([] ++ _) [10]) ([] ++ _) = _
  rw [List.nil_append]
  induction ls with
  | nil => rfl
  | cons l r ih =>
    rw [List.flatMap_cons, List.append_assoc, List.singleton_append]
    rw [split_cons _ _ (h l (by simp)), ih (fun x hx => h x (by simp [hx]))]
    rfl

theorem splitW_join : ∀ (ws : List ByteArray) (w0 : ByteArray), (∀ x ∈ w0 :: ws, (32 : UInt8) ∉ x.data.toList) → splitW (joinB (w0 :: ws)) = w0 :: ws := by
  intro ws w0 h
  apply map_bytes_inj
  unfold splitW
  rw [Lib.splitB_data]
  show Lib.splitK [32] 0 (Lib.count (joinB (w0 :: ws)).data.toList [32]) _ = _
  have hd : ∀ (l : List ByteArray) (t : ByteArray), (addW t l).data.toList = t.data.toList ++ l.flatMap fun x => 32 :: x.data.toList := by
    intro l
    induction l with
    | nil => intro t; simp [addW]
    | cons x r ih =>
      intro t
      show (addW (t ++ (⟨#[32]⟩ ++ x)) r).data.toList = _
      rw [ih, bytes_add, bytes_add]
      simp
  rw [joinB_cons, hd]
  induction ws generalizing w0 with
  | nil => rw [List.flatMap_nil, List.append_nil, split_last _ (h w0 (by simp))]; rfl
  | cons x r ih =>
    rw [List.flatMap_cons, List.cons_append]
    rw [split_cons _ _ (h w0 (by simp)), ih x (fun y hy => h y (by simp at hy ⊢; rcases hy with e | e; exact .inr (.inl e); exact .inr (.inr e)))]
    rfl

/-- Bytes that part nothing. -/
def okB (b : UInt8) : Prop := b ≠ 10 ∧ b ≠ 32 ∧ b ≠ 58
def CleanB (w : ByteArray) : Prop := ∀ b ∈ w.data.toList, okB b
instance (b : UInt8) : Decidable (okB b) := by unfold okB; infer_instance
instance (w : ByteArray) : Decidable (CleanB w) := by unfold CleanB; infer_instance

theorem CleanB.add {a b : ByteArray} (ha : CleanB a) (hb : CleanB b) : CleanB (a ++ b) := by
  intro x hx
  rw [bytes_add, List.mem_append] at hx
  rcases hx with h | h
  · exact ha x h
  · exact hb x h

theorem decDigits_rec (u : Nat) (h : ¬ u < 10) : Lib.decDigits u = Lib.decDigits (u / 10) ++ [UInt8.ofNat (48 + u % 10)] := by
  rw [Lib.decDigits, dif_neg h]

theorem dig_of (r : Nat) (h : r < 10) : (UInt8.ofNat (48 + r)).toNat = 48 + r := by
  rw [UInt8.toNat_ofNat']
  omega

theorem decDigits_bytes : ∀ (u : Nat), ∀ b ∈ Lib.decDigits u, 48 ≤ b.toNat ∧ b.toNat ≤ 57 := by
  intro u
  induction u using Nat.strongRecOn with
  | _ u ih =>
    intro b hb
    by_cases h : u < 10
    · rw [Lib.decDigits_one h] at hb
      have e : b = UInt8.ofNat (48 + u) := by simpa using hb
      rw [e, dig_of u h]
      omega
    · rw [decDigits_rec u h, List.mem_append] at hb
      rcases hb with hb | hb
      · exact ih (u / 10) (by omega) b hb
      · have e : b = UInt8.ofNat (48 + u % 10) := by simpa using hb
        rw [e, dig_of _ (by omega)]
        omega

theorem decDigits_head : ∀ (u : Nat), 1 ≤ u → ∃ d r, Lib.decDigits u = d :: r ∧ 49 ≤ d.toNat := by
  intro u
  induction u using Nat.strongRecOn with
  | _ u ih =>
    intro hu
    by_cases h : u < 10
    · exact ⟨_, [], Lib.decDigits_one h, by rw [dig_of u h]; omega⟩
    · obtain ⟨d, r, e, hd⟩ := ih (u / 10) (by omega) (by omega)
      exact ⟨d, r ++ [UInt8.ofNat (48 + u % 10)], by rw [decDigits_rec u h, e]; rfl, hd⟩

/-- The value of digits, at most 65536. -/
def valL (l : List UInt8) : Int := l.foldl (fun n b => min (n * 10 + ((b.toNat : Int) - 48)) 65536) 0

theorem valL_dec : ∀ (u : Nat), u ≤ 65535 → valL (Lib.decDigits u) = (u : Int) := by
  intro u
  induction u using Nat.strongRecOn with
  | _ u ih =>
    intro hu
    by_cases h : u < 10
    · rw [Lib.decDigits_one h]
      unfold valL
      simp only [List.foldl_cons, List.foldl_nil]
      rw [dig_of u h]
      omega
    · have e := ih (u / 10) (by omega) (by omega)
      rw [decDigits_rec u h]
      unfold valL at e ⊢
      rw [List.foldl_append, e]
      simp only [List.foldl_cons, List.foldl_nil]
      rw [dig_of _ (by omega)]
      omega

theorem bt_list (s : ByteArray) {k : Nat} (h : k < s.size) : ∃ b, s.data.toList[k]? = some b ∧ bt s k = (b.toNat : Int) := by
  refine ⟨s[k], ?_, ?_⟩
  · have h2 : k < s.data.toList.length := by rw [Array.length_toList]; exact h
    rw [List.getElem?_eq_getElem h2]
    rfl
  · unfold bt
    rw [dif_pos h]

theorem numTo_val (s : ByteArray) : ∀ k, k ≤ s.size → numTo s k = valL (s.data.toList.take k)
  | 0, _ => rfl
  | k + 1, h => by
    have ih := numTo_val s k (by omega)
    obtain ⟨b, hb, hbt⟩ := bt_list s (k := k) (by omega)
    have h2 : k < s.data.toList.length := (List.getElem?_eq_some_iff.1 hb).1
    have e : s.data.toList[k] = b := (List.getElem?_eq_some_iff.1 hb).2
    rw [List.take_succ_eq_append_getElem h2, e]
    unfold valL at ih ⊢
    rw [List.foldl_append, ← ih]
    simp only [List.foldl_cons, List.foldl_nil]
    rw [← hbt]
    rfl

theorem itoaB_list (n : Nat) : (itoaB n).data.toList = Lib.decDigits n := by
  unfold itoaB
  rw [Lib.itoa_nonneg]

theorem itoa_read (n : Nat) (hn : n ≤ 65535) : numOk (itoaB n) = true ∧ numV (itoaB n) = (n : Int) := by
  have hl := itoaB_list n
  have hsz : (itoaB n).size = (Lib.decDigits n).length := by rw [← hl]; exact (Array.length_toList).symm
  have hdig : ∀ k < (itoaB n).size, digB (bt (itoaB n) k) := by
    intro k hk
    obtain ⟨b, hb, hbt⟩ := bt_list _ hk
    rw [hl] at hb
    have := decDigits_bytes n b (List.mem_of_getElem? hb)
    rw [hbt]
    unfold digB
    omega
  have hpos : (itoaB n).size ≠ 0 := by
    rw [hsz, Lib.decDigits_length]
    have := Lib.nDigits_pos n
    omega
  have hz : ¬ (1 < (itoaB n).size ∧ bt (itoaB n) 0 = 48) := by
    rintro ⟨h1, h2⟩
    by_cases h : n < 10
    · rw [hsz, Lib.decDigits_one h] at h1
      simp at h1
    · obtain ⟨d, r, e, hd⟩ := decDigits_head n (by omega)
      obtain ⟨b, hb, hbt⟩ := bt_list (itoaB n) (k := 0) (by omega)
      rw [hl, e] at hb
      have : d = b := by simpa using hb
      subst this
      omega
  have hok : numOk (itoaB n) = true := decide_eq_true ⟨⟨hpos, hz⟩, hdig⟩
  refine ⟨hok, ?_⟩
  unfold numV
  rw [if_pos hok, numTo_val _ _ (Nat.le_refl _), List.take_of_length_le (by rw [Array.length_toList]; exact Nat.le_refl _), hl, valL_dec n hn]

theorem itoa_clean (n : Nat) : CleanB (itoaB n) := by
  intro b hb
  rw [itoaB_list] at hb
  have h := decDigits_bytes n b hb
  refine ⟨?_, ?_, ?_⟩ <;> (intro e; rw [e] at h; exact absurd h (by decide))
end Go.Proofs.YthajndgljfbifaaDoor
namespace Go.Proofs.YthajndgljfbifaaDoor
open Go.RowKit Go.PlainAid
set_option maxRecDepth 100000

def insNil : Ins := ⟨0, 0, 0, 0, 0⟩
/-- A word, a line, the lines of the code, the lines of a program; 'lab': the names of the labels. -/
def wordX (lab : Nat → ByteArray) (x : Ins) (c : UInt8) : ByteArray := if c = 76 then lab x.imm.toNat else wordC x c
def insX (lab : Nat → ByteArray) (x : Ins) : List ByteArray := nameB x.op :: (opdL x.op).map (wordX lab x)
def lineX (lab : Nat → ByteArray) (x : Ins) : ByteArray := joinB (insX lab x)
def codeX (lab : Nat → ByteArray) (C : List Ins) (k : Nat) : List ByteArray := (if tgtB C C.length k then [lab k ++ ⟨#[58]⟩] else []) ++ [lineX lab (C.getD k insNil)]
def codeLs (lab : Nat → ByteArray) (C : List Ins) (m : Nat) : List ByteArray := (List.range m).flatMap (codeX lab C)
def regLs (s : List Int) (L : List (List Nat)) (m : Nat) : List ByteArray := (List.range m).map fun k => regLine (s.getD k 0).toNat (L.getD k [])
def linesX (lab : Nat → ByteArray) (C : List Ins) (s : List Int) (L : List (List Nat)) : List ByteArray := regLs s L s.length ++ codeLs lab C C.length
/-- The label that Print gives. -/
def labl (k : Nat) : ByteArray := ⟨#[108]⟩ ++ itoaB k

theorem lineX_labl (x : Ins) : lineX labl x = insLine x := by
  unfold lineX insLine insX insW
  congr 2
  apply List.map_congr_left
  intro c _
  unfold wordX
  by_cases h : c = 76
  · rw [if_pos h, h]
    rfl
  · rw [if_neg h]

theorem regs_text (s : List Int) (L : List (List Nat)) : ∀ k, regsT s L k = textFrom ⟨#[]⟩ (regLs s L k)
  | 0 => rfl
  | k + 1 => by
    show regT (regsT s L k) _ _ = _
    rw [regT_line, regs_text s L k]
    unfold regLs
    rw [List.range_succ, List.map_append, textFrom_app]
    rfl

theorem codeLs_next (lab : Nat → ByteArray) (C : List Ins) (m : Nat) : codeLs lab C (m + 1) = codeLs lab C m ++ codeX lab C m := by
  unfold codeLs
  rw [List.range_succ, List.flatMap_append]
  simp

theorem code_text (C : List Ins) (t : ByteArray) : ∀ k, codeT C t k = textFrom t (codeLs labl C k)
  | 0 => rfl
  | k + 1 => by
    show insT C (codeT C t k) k (C.getD k ⟨0, 0, 0, 0, 0⟩) = _
    rw [insT_line, code_text C t k, codeLs_next, textFrom_app, headT_line]
    unfold codeX
    rw [lineX_labl]
    generalize textFrom t (codeLs labl C k) = u
    have e : labLine k = labl k ++ ⟨#[58]⟩ := rfl
    cases tgtB C C.length k with
    | true =>
      rw [if_pos rfl, if_pos rfl, e, ← ByteArray.append_assoc]
      rfl
    | false => rfl

theorem print_text (C : List Ins) (s : List Int) (L : List (List Nat)) : printB C s L = textFrom ⟨#[]⟩ (linesX labl C s L) := by
  unfold printB linesX
  rw [code_text, regs_text, textFrom_app]

/-- Lines read one after the other. -/
inductive RunL : Nat → St → List ByteArray → St → Prop
  | nil (n : Nat) (s : St) : RunL n s [] s
  | cons (n : Nat) (s s1 s2 : St) (l : ByteArray) (ls : List ByteArray) : Step n l s s1 → RunL (n + 1) s1 ls s2 → RunL n s (l :: ls) s2

theorem RunL.app {n : Nat} {s s1 s2 : St} {a b : List ByteArray} (h : RunL n s a s1) (k : RunL (n + a.length) s1 b s2) : RunL n s (a ++ b) s2 := by
  induction h with
  | nil n s => exact k
  | cons n s s1 s2 l ls hs _ ih =>
    refine .cons n s s1 _ l (ls ++ b) hs (ih ?_)
    rw [List.length_cons] at k
    rw [show n + 1 + ls.length = n + (ls.length + 1) by omega]
    exact k

theorem RunL.one {n : Nat} {s s1 : St} {l : ByteArray} (h : Step n l s s1) : RunL n s [l] s1 := .cons n s s1 s1 l [] h (.nil _ _)

theorem RunL.fn {n : Nat} {s s' : St} {ls : List ByteArray} (h : RunL n s ls s') : ∃ st : Nat → St, st 0 = s ∧ st ls.length = s' ∧ ∀ i (h : i < ls.length), Step (n + i) ls[i] (st i) (st (i + 1)) := by
  induction h with
  | nil n s => exact ⟨fun _ => s, rfl, rfl, fun i h => by simp at h⟩
  | cons n s s1 s2 l ls hs _ ih =>
    obtain ⟨st, h0, h1, h2⟩ := ih
    refine ⟨fun k => match k with | 0 => s | k + 1 => st k, rfl, h1, fun i hi => ?_⟩
    cases i with
    | zero =>
      show Step n l s (st 0)
      rw [h0]
      exact hs
    | succ i =>
      have := h2 i (by simpa using hi)
      rw [show n + 1 + i = n + (i + 1) by omega] at this
      exact this

theorem clean_no {w : ByteArray} (h : CleanB w) : (32 : UInt8) ∉ w.data.toList := fun e => (h 32 e).2.1 rfl

theorem join_data (w0 : ByteArray) (ws : List ByteArray) : (joinB (w0 :: ws)).data.toList = w0.data.toList ++ ws.flatMap fun x => 32 :: x.data.toList := by
  have hd : ∀ (l : List ByteArray) (t : ByteArray), (addW t l).data.toList = t.data.toList ++ l.flatMap fun x => 32 :: x.data.toList := by
    intro l
    induction l with
    | nil => intro t; simp [addW]
    | cons x r ih =>
      intro t
      show (addW (t ++ (⟨#[32]⟩ ++ x)) r).data.toList = _
      rw [ih, bytes_add, bytes_add]
      simp
  rw [joinB_cons, hd]

/-- A line of clean words has neither a line's end nor a colon. -/
theorem join_bytes (w0 : ByteArray) (ws : List ByteArray) (h : ∀ x ∈ w0 :: ws, CleanB x) : ∀ b ∈ (joinB (w0 :: ws)).data.toList, b ≠ 10 ∧ b ≠ 58 := by
  intro b hb
  rw [join_data, List.mem_append, List.mem_flatMap] at hb
  rcases hb with hb | ⟨x, hx, hb⟩
  · have := h w0 (by simp) b hb
    exact ⟨this.1, this.2.2⟩
  · rcases List.mem_cons.1 hb with e | e
    · rw [e]; decide
    · have := h x (by simp [hx]) b e
      exact ⟨this.1, this.2.2⟩

theorem no_suffix (l : ByteArray) (h : (58 : UInt8) ∉ l.data.toList) : Lib.hasSuffix l.data.toList [58] = false := by
  cases hs : Lib.hasSuffix l.data.toList [58] with
  | false => rfl
  | true =>
    unfold Lib.hasSuffix at hs
    obtain ⟨t, ht⟩ := List.isSuffixOf_iff_suffix.1 hs
    exact absurd (by rw [← ht]; simp) h

/-- Names of labels that can be used: of the first 64 instructions. -/
structure LabsOk (lab : Nat → ByteArray) : Prop where
  ok : ∀ k, k < 64 → labB (lab k) = true
  inj : ∀ i j, i < 64 → j < 64 → lab i = lab j → i = j

theorem lab_clean {w : ByteArray} (h : labB w = true) : CleanB w ∧ w.size ≤ 8 := by
  have hd := of_decide_eq_true h
  refine ⟨fun b hb => ?_, hd.1.2⟩
  obtain ⟨k, hk, e⟩ := List.mem_iff_getElem.1 hb
  have hk2 : k < w.size := by rw [Array.length_toList] at hk; exact hk
  obtain ⟨b', hb', hbt⟩ := bt_list w hk2
  have e2 : b' = b := by
    rw [List.getElem?_eq_getElem hk, e] at hb'
    exact (Option.some.inj hb').symm
  subst e2
  have hc := hd.2 k hk2
  rw [hbt] at hc
  unfold labC digB at hc
  refine ⟨?_, ?_, ?_⟩ <;> (intro e; rw [e] at hc; revert hc; simp)
end Go.Proofs.YthajndgljfbifaaDoor
namespace Go.Proofs.YthajndgljfbifaaDoor
open Go.RowKit Go.PlainAid
set_option maxRecDepth 100000

/-! ### the regions -/
theorem regW_clean (n : Nat) (l : List Nat) : ∀ x ∈ regW n l, CleanB x := by
  intro x hx
  unfold regW at hx
  rcases List.mem_cons.1 hx with e | hx
  · rw [e]; decide
  · rcases List.mem_cons.1 hx with e | hx
    · rw [e]; exact itoa_clean n
    · obtain ⟨v, _, rfl⟩ := List.mem_map.1 hx
      exact itoa_clean v

theorem reg_step (i : Nat) (s : St) (n : Nat) (l : List Nat) (h1 : s.nl = 0) (h2 : s.C = []) (h3 : s.S.length < 4) (h4 : s.L.length ≤ 4) (h5 : 1 ≤ n) (h6 : n ≤ 32) (h7 : l.length ≤ n) (h8 : ∀ v ∈ l, v < 65536) :
    Step i (regLine n l) s { s with S := s.S ++ [n], L := s.L ++ [l] } := by
  have hc := regW_clean n l
  refine .region s (itoaB n :: l.map itoaB) n l ?_ ?_ ?_ ?_ h1 h2 h3 h4 h5 h6 h7 h8
  · exact no_suffix _ (fun e => (join_bytes _ _ hc 58 e).2 rfl)
  · exact splitW_join _ _ (fun x hx => clean_no (hc x hx))
  · intro x hx
    rcases List.mem_cons.1 hx with e | hx
    · rw [e]; exact (itoa_read n (by omega)).1
    · obtain ⟨v, hv, rfl⟩ := List.mem_map.1 hx
      exact (itoa_read v (by have := h8 v hv; omega)).1
  · rw [List.map_cons, List.map_cons, (itoa_read n (by omega)).2, List.map_map]
    congr 1
    apply List.map_congr_left
    intro v hv
    exact (itoa_read v (by have := h8 v hv; omega)).2

def natsS (s : List Int) : List Nat := s.map Int.toNat

theorem regs_run (s : List Int) (L : List (List Nat)) (hf : FitPg s L) (hu : ∀ l ∈ L, ∀ v ∈ l, v < 65536) : ∀ m, m ≤ s.length → RunL 0 st0 (regLs s L m) { st0 with S := (natsS s).take m, L := L.take m }
  | 0, _ => .nil _ _
  | m + 1, h => by
    have ih := regs_run s L hf hu m (by omega)
    have hv : 1 ≤ s.length ∧ s.length ≤ 4 ∧ ∀ x ∈ s, 1 ≤ x ∧ x ≤ 32 := of_decide_eq_true hf.1
    have hm : m < s.length := by omega
    have hm2 : m < L.length := by have := hf.2.1; omega
    have hl : (natsS s).length = s.length := by simp [natsS]
    have hx := hv.2.2 _ (List.getElem_mem hm)
    have hfit := hf.2.2 m hm2 hm
    unfold regLs at ih ⊢
    rw [List.range_succ, List.map_append]
    refine ih.app ?_
    have e1 : (s.getD m 0).toNat = s[m].toNat := by rw [List.getD_eq_getElem?_getD, List.getElem?_eq_getElem hm]; rfl
    have e2 : L.getD m [] = L[m] := by rw [List.getD_eq_getElem?_getD, List.getElem?_eq_getElem hm2]; rfl
    have hst := reg_step (0 + ((List.range m).map fun k => regLine (s.getD k 0).toNat (L.getD k [])).length) { st0 with S := (natsS s).take m, L := L.take m } s[m].toNat L[m] rfl rfl (by rw [List.length_take]; omega) (by rw [List.length_take]; omega) (by omega) (by omega) (by omega) (hu _ (List.getElem_mem hm2))
    rw [List.map_cons, List.map_nil, e1, e2]
    rw [List.take_succ_eq_append_getElem (by rw [hl]; exact hm), List.take_succ_eq_append_getElem hm2, show (natsS s)[m]'(by rw [hl]; exact hm) = s[m].toNat by simp [natsS]]
    exact RunL.one hst

/-! ### the code -/
/-- An instruction as it is read, before its label is looked up. -/
def clr (x : Ins) : Ins := if jumpB x.op then { x with imm := 0 } else x

theorem clr_op (x : Ins) : (clr x).op = x.op := by unfold clr; split <;> rfl

theorem insX_clean (lab : Nat → ByteArray) (hlab : LabsOk lab) (x : Ins) (hv : vinB x = true) (hj : jumpB x.op = true → x.imm < 64) : ∀ w ∈ insX lab x, CleanB w := by
  have h0 := (vinB_iff _).1 hv
  obtain ⟨o, ho⟩ := Int.eq_ofNat_of_zero_le h0.1
  have ho25 : o < 25 := by have := h0.2.1; omega
  intro w hw
  unfold insX at hw
  rcases List.mem_cons.1 hw with e | hw
  · rw [e, ho]
    exact (by decide : ∀ o < 25, CleanB (nameB ((o : Nat) : Int))) o ho25
  · obtain ⟨c, hc, rfl⟩ := List.mem_map.1 hw
    unfold wordX
    by_cases h76 : c = 76
    · rw [if_pos h76]
      have hjj : jumpB x.op = true := by
        rw [h76, ho] at hc
        rw [ho]
        exact (by decide : ∀ o < 25, (76 : UInt8) ∈ opdL ((o : Nat) : Int) → jumpB ((o : Nat) : Int) = true) o ho25 hc
      exact (lab_clean (hlab.ok _ (by have := hj hjj; have := h0.2.2.2.2.2.2.2.2.1; omega))).1
    · rw [if_neg h76]
      unfold wordC
      refine CleanB.add ?_ (itoa_clean _)
      unfold preC
      rw [if_neg h76]
      split <;> decide

theorem hasPrefix_r (w : ByteArray) : Lib.hasPrefix (⟨#[114]⟩ ++ w : ByteArray).data.toList [114] = true ∧ (⟨(Lib.trimPrefix (⟨#[114]⟩ ++ w : ByteArray).data.toList [114]).toArray⟩ : ByteArray) = w := by
  have h1 : Lib.hasPrefix (⟨#[114]⟩ ++ w : ByteArray).data.toList [114] = true := by
    rw [bytes_add]
    show ([114] : List UInt8).isPrefixOf ([114] ++ w.data.toList) = true
    exact List.isPrefixOf_iff_prefix.2 (List.prefix_append _ _)
  refine ⟨h1, bytes_ext ?_⟩
  unfold Lib.trimPrefix
  rw [if_pos h1, bytes_add]
  rfl

theorem reg_opd (n : Nat) (hn : n ≤ 65535) (c : UInt8) (h1 : c ≠ 76) (h2 : c ≠ 73) : opdOk c (⟨#[114]⟩ ++ itoaB n) = true ∧ opdN c (⟨#[114]⟩ ++ itoaB n) = (n : Int) := by
  obtain ⟨p1, p2⟩ := hasPrefix_r (itoaB n)
  obtain ⟨q1, q2⟩ := itoa_read n hn
  unfold opdOk opdN
  rw [if_neg h1, if_neg h2, if_neg h2, p1, p2, q1, q2]
  exact ⟨rfl, rfl⟩

theorem num_opd (n : Nat) (hn : n ≤ 65535) : opdOk 73 (itoaB n) = true ∧ opdN 73 (itoaB n) = (n : Int) := itoa_read n hn

theorem opd_good (lab : Nat → ByteArray) (hlab : LabsOk lab) (x : Ins) (hv : vinB x = true) (hj : jumpB x.op = true → x.imm < 64) (c : UInt8) (hc : c = 65 ∨ c = 66 ∨ c = 67 ∨ c = 73 ∨ (c = 76 ∧ jumpB x.op = true)) : opdOk c (wordX lab x c) = true ∧ (c ≠ 76 → opdN c (wordX lab x c) = fldC x c) := by
  have h0 := (vinB_iff _).1 hv
  have hi0 := h0.2.2.2.2.2.2.2.2.1
  rcases hc with rfl | rfl | rfl | rfl | ⟨rfl, hjj⟩
  · obtain ⟨m, hm, hm2⟩ := fld_nat x hv 65 (by decide)
    have e : wordX lab x 65 = ⟨#[114]⟩ ++ itoaB m := by
      show ⟨#[114]⟩ ++ itoaB (fldC x 65).toNat = _
      rw [hm, Int.toNat_natCast]
    rw [e, hm]
    have := reg_opd m hm2 65 (by decide) (by decide)
    exact ⟨this.1, fun _ => this.2⟩
  · obtain ⟨m, hm, hm2⟩ := fld_nat x hv 66 (by decide)
    have e : wordX lab x 66 = ⟨#[114]⟩ ++ itoaB m := by
      show ⟨#[114]⟩ ++ itoaB (fldC x 66).toNat = _
      rw [hm, Int.toNat_natCast]
    rw [e, hm]
    have := reg_opd m hm2 66 (by decide) (by decide)
    exact ⟨this.1, fun _ => this.2⟩
  · obtain ⟨m, hm, hm2⟩ := fld_nat x hv 67 (by decide)
    have e : wordX lab x 67 = ⟨#[114]⟩ ++ itoaB m := by
      show ⟨#[114]⟩ ++ itoaB (fldC x 67).toNat = _
      rw [hm, Int.toNat_natCast]
    rw [e, hm]
    have := reg_opd m hm2 67 (by decide) (by decide)
    exact ⟨this.1, fun _ => this.2⟩
  · obtain ⟨m, hm, hm2⟩ := fld_nat x hv 73 (by decide)
    have e : wordX lab x 73 = itoaB m := by
      show ⟨#[]⟩ ++ itoaB (fldC x 73).toNat = _
      rw [hm, Int.toNat_natCast, empty_add]
    rw [e, hm]
    have := num_opd m hm2
    exact ⟨this.1, fun _ => this.2⟩
  · refine ⟨?_, fun h => absurd rfl h⟩
    show labB (lab x.imm.toNat) = true
    exact hlab.ok _ (by have := hj hjj; omega)

/-- What an instruction's words are read as. -/
theorem rd_ins (lab : Nat → ByteArray) (hlab : LabsOk lab) (x : Ins) (hv : vinB x = true) (hj : jumpB x.op = true → x.imm < 64) : rdI x.op ((opdL x.op).map (wordX lab x)) ((opdL x.op).map (wordX lab x)).length = (clr x, if jumpB x.op then lab x.imm.toNat else ⟨#[]⟩) := by
  have h0 := (vinB_iff _).1 hv
  have o65 := fun h => (opd_good lab hlab x hv hj 65 h).2 (by decide)
  have o66 := fun h => (opd_good lab hlab x hv hj 66 h).2 (by decide)
  have o67 := fun h => (opd_good lab hlab x hv hj 67 h).2 (by decide)
  have o73 := fun h => (opd_good lab hlab x hv hj 73 h).2 (by decide)
  have o65 := o65 (by simp)
  have o66 := o66 (by simp)
  have o67 := o67 (by simp)
  have o73 := o73 (by simp)
  obtain ⟨_, _, _, _, _, _, _, _, _, _, ha, hb, hc, hi, _⟩ := h0
  have w76 : wordX lab x 76 = lab x.imm.toNat := rfl
  have s65 : ∀ (y : Ins × ByteArray) v, rdO y (65, v) = ({ y.1 with a := opdN 65 v }, y.2) := fun _ _ => rfl
  have s66 : ∀ (y : Ins × ByteArray) v, rdO y (66, v) = ({ y.1 with b := opdN 66 v }, y.2) := fun _ _ => rfl
  have s67 : ∀ (y : Ins × ByteArray) v, rdO y (67, v) = ({ y.1 with c := opdN 67 v }, y.2) := fun _ _ => rfl
  have s73 : ∀ (y : Ins × ByteArray) v, rdO y (73, v) = ({ y.1 with imm := opdN 73 v }, y.2) := fun _ _ => rfl
  have s76 : ∀ (y : Ins × ByteArray) v, rdO y (76, v) = (y.1, v) := fun _ _ => rfl
  have f65 : fldC x 65 = x.a := rfl
  have f66 : fldC x 66 = x.b := rfl
  have f67 : fldC x 67 = x.c := rfl
  have f73 : fldC x 73 = x.imm := rfl
  have hji : jumpB x.op = true → usI x.op = true := by
    intro h
    unfold jumpB at h
    unfold usI
    simp only [decide_eq_true_eq] at h ⊢
    omega
  rw [f65] at o65; rw [f66] at o66; rw [f67] at o67; rw [f73] at o73
  unfold rdI clr
  rw [List.take_of_length_le (by rw [List.length_zip]; omega)]
  have key : ∀ l : List UInt8, l.zip (l.map (wordX lab x)) = l.map fun c => (c, wordX lab x c) := by
    intro l
    induction l with
    | nil => rfl
    | cons c r ih => rw [List.map_cons, List.zip_cons_cons, ih]; rfl
  rw [key]
  clear key
  unfold opdL
  cases hA : usA x.op <;> cases hB : usB x.op <;> cases hC : usC x.op <;> cases hJ : jumpB x.op <;> cases hI : usI x.op
  all_goals first
    | exact absurd (hji rfl) Bool.false_ne_true
    | exact absurd (hji hJ) (by rw [hI]; decide)
    | skip
  all_goals simp only [Bool.false_eq_true, if_false, if_true, List.nil_append, List.append_nil, List.cons_append, List.map_cons, List.map_nil, List.foldl_cons, List.foldl_nil, s65, s66, s67, s73, s76, o65, o66, o67, o73, w76]
  all_goals clear s65 s66 s67 s73 s76 o65 o66 o67 o73 w76 f65 f66 f67 f73 hji hj hv hlab
  all_goals (obtain ⟨op, a, b, c, imm⟩ := x; simp_all)
end Go.Proofs.YthajndgljfbifaaDoor
namespace Go.Proofs.YthajndgljfbifaaDoor
open Go.RowKit Go.PlainAid
set_option maxRecDepth 100000

/-- The labels behind the first m instructions; how many there are; the jumps among these. -/
def fT (lab : Nat → ByteArray) (C : List Ins) : Nat → ByteArray → Option Nat
  | 0 => fun _ => none
  | m + 1 => if tgtB C C.length m then addL (fT lab C m) (lab m) m else fT lab C m
def nT (C : List Ins) : Nat → Nat
  | 0 => 0
  | m + 1 => if tgtB C C.length m then nT C m + 1 else nT C m
def jl (lab : Nat → ByteArray) (C : List Ins) (m : Nat) : List (Nat × ByteArray) := (List.range m).flatMap fun k => if jumpB (C.getD k insNil).op then [(k, lab (C.getD k insNil).imm.toNat)] else []

theorem nT_le (C : List Ins) : ∀ m, nT C m ≤ m
  | 0 => Nat.le_refl _
  | m + 1 => by
    have := nT_le C m
    unfold nT
    split <;> omega

theorem jl_next (lab : Nat → ByteArray) (C : List Ins) (m : Nat) : jl lab C (m + 1) = jl lab C m ++ if jumpB (C.getD m insNil).op then [(m, lab (C.getD m insNil).imm.toNat)] else [] := by
  unfold jl
  rw [List.range_succ, List.flatMap_append]
  simp

theorem jl_length (lab : Nat → ByteArray) (C : List Ins) : ∀ m, (jl lab C m).length ≤ m
  | 0 => Nat.le_refl _
  | m + 1 => by
    have := jl_length lab C m
    rw [jl_next, List.length_append]
    split <;> simp <;> omega

theorem fT_some (lab : Nat → ByteArray) (C : List Ins) (q : ByteArray) (k : Nat) : ∀ m, fT lab C m q = some k → k < m ∧ q = lab k ∧ tgtB C C.length k = true
  | 0, h => by cases h
  | m + 1, h => by
    unfold fT at h
    split at h
    · rename_i ht
      unfold addL at h
      split at h
      · rename_i hq
        obtain rfl : m = k := by simpa using h
        exact ⟨by omega, hq, ht⟩
      · have := fT_some lab C q k m h
        exact ⟨by omega, this.2⟩
    · have := fT_some lab C q k m h
      exact ⟨by omega, this.2⟩

theorem fT_none (lab : Nat → ByteArray) (hlab : LabsOk lab) (C : List Ins) (m : Nat) (hm : m < 64) : fT lab C m (lab m) = none := by
  cases h : fT lab C m (lab m) with
  | none => rfl
  | some k =>
    obtain ⟨h1, h2, _⟩ := fT_some lab C _ k m h
    have := hlab.inj m k hm (by omega) h2
    omega

theorem fT_at (lab : Nat → ByteArray) (hlab : LabsOk lab) (C : List Ins) (k : Nat) (ht : tgtB C C.length k = true) : ∀ m, k < m → m ≤ 64 → fT lab C m (lab k) = some k
  | 0, h, _ => by omega
  | m + 1, h, hm => by
    unfold fT
    by_cases e : k = m
    · subst e
      rw [if_pos ht]
      exact if_pos rfl
    · have ih := fT_at lab hlab C k ht m (by omega) (by omega)
      split
      · unfold addL
        rw [if_neg (fun h2 => e (hlab.inj k m (by omega) (by omega) h2))]
        exact ih
      · exact ih

theorem clr_valid (x : Ins) (h : vinB x = true) : vinB (clr x) = true := by
  unfold clr
  split
  · rename_i hj
    have h0 := (vinB_iff _).1 h
    refine (vinB_iff _).2 ?_
    obtain ⟨a1, a2, a3, a4, a5, a6, a7, a8, a9, a10, b1, b2, b3, b4, b5, b6, b7⟩ := h0
    refine ⟨a1, a2, a3, a4, a5, a6, a7, a8, by simp, by simp, b1, b2, b3, fun _ => rfl, fun _ => by simp, fun _ => by simp, fun _ => by simp⟩
  · exact h

theorem code_run (lab : Nat → ByteArray) (hlab : LabsOk lab) (C : List Ins) (n0 : Nat) (S : List Nat) (L : List (List Nat)) (hC : CodePg S.length C) : ∀ m, m ≤ C.length → ∃ J : List (Nat × Nat × ByteArray), J.map (·.2) = jl lab C m ∧ RunL n0 ⟨0, fun _ => none, [], S, L, []⟩ (codeLs lab C m) ⟨nT C m, fT lab C m, (C.take m).map clr, S, L, J⟩
  | 0, _ => ⟨[], rfl, .nil _ _⟩
  | m + 1, h => by
    obtain ⟨J, hJ, hr⟩ := code_run lab hlab C n0 S L hC m (by omega)
    have hm : m < C.length := by omega
    have hm64 : m < 64 := by have := hC.2.1; omega
    obtain ⟨gv, gj, gl⟩ := hC.2.2 m hm
    have hgd : C.getD m insNil = C[m] := by rw [List.getD_eq_getElem?_getD, List.getElem?_eq_getElem hm]; rfl
    have hjx : jumpB C[m].op = true → C[m].imm < 64 := fun hj => by have := gj hj; have := hC.2.1; omega
    have h0 := (vinB_iff _).1 gv
    obtain ⟨o, ho⟩ := Int.eq_ofNat_of_zero_le h0.1
    have ho25 : o < 25 := by have := h0.2.1; omega
    have hcl : ((C.take m).map clr).length = m := by rw [List.length_map, List.length_take]; omega
    have hJl : J.length ≤ 64 := by
      have h1 := congrArg List.length hJ
      rw [List.length_map] at h1
      have := jl_length lab C m
      omega
    have hcln := insX_clean lab hlab C[m] gv hjx
    have hrd := rd_ins lab hlab C[m] gv hjx
    -- the instruction's line, from whatever labels
    have hstep : ∀ (i : Nat) (nl : Nat) (f : ByteArray → Option Nat), ∃ J', J'.map (·.2) = jl lab C (m + 1) ∧ Step i (lineX lab C[m]) ⟨nl, f, (C.take m).map clr, S, L, J⟩ ⟨nl, f, (C.take (m + 1)).map clr, S, L, J'⟩ := by
      intro i nl f
      refine ⟨moreJ J o i m (if jumpB C[m].op then lab C[m].imm.toNat else ⟨#[]⟩), ?_, ?_⟩
      · rw [jl_next, hgd, ← hJ]
        unfold moreJ
        rw [ho]
        cases jumpB (o : Int) with
        | true => simp
        | false => simp
      · have e := Step.instr (n := i) (line := lineX lab C[m]) ⟨nl, f, (C.take m).map clr, S, L, J⟩ o ((opdL C[m].op).map (wordX lab C[m])) (clr C[m]) (if jumpB C[m].op then lab C[m].imm.toNat else ⟨#[]⟩) (no_suffix _ (fun e => (join_bytes _ _ hcln 58 e).2 rfl)) (by
          rw [← ho]
          exact splitW_join _ _ (fun x hx => clean_no (hcln x hx))) ho25 (by rw [List.length_map, ho]) (fun k hk hk2 => by
          rw [List.getElem_map]
          have hmem : (opdL C[m].op)[k]'(by rw [List.length_map] at hk; exact hk) ∈ opdL C[m].op := List.getElem_mem _
          have e1 : (opdL (o : Int))[k] = (opdL C[m].op)[k]'(by rw [List.length_map] at hk; exact hk) := by simp only [ho]
          rw [e1]
          refine (opd_good lab hlab C[m] gv hjx _ ?_).1
          generalize (opdL C[m].op)[k]'(by rw [List.length_map] at hk; exact hk) = c at *
          rw [ho] at hmem ⊢
          have h1 := opd_fields o ho25 c hmem
          rcases h1 with h | h | h | h | h
          · exact .inl h
          · exact .inr (.inl h)
          · exact .inr (.inr (.inl h))
          · exact .inr (.inr (.inr (.inl h)))
          · refine .inr (.inr (.inr (.inr ⟨h, ?_⟩)))
            rw [h] at hmem
            exact (by decide : ∀ o < 25, (76 : UInt8) ∈ opdL ((o : Nat) : Int) → jumpB ((o : Nat) : Int) = true) o ho25 hmem) (by rw [← ho]; exact hrd) (by rw [clr_op, ho]) (by show ((C.take m).map clr).length < 64; omega) (clr_valid _ gv) (fun h15 => by
          rw [clr_op] at h15
          have hnj : jumpB C[m].op = false := by rw [h15]; decide
          have : clr C[m] = C[m] := by unfold clr; rw [hnj]; rfl
          rw [this]
          exact gl h15) hJl
        rw [List.take_succ_eq_append_getElem hm, List.map_append, List.map_cons, List.map_nil]
        simp only [hcl] at e
        exact e
    rw [codeLs_next]
    unfold codeX
    rw [hgd]
    by_cases ht : tgtB C C.length m = true
    · rw [if_pos ht]
      obtain ⟨J', hJ', hs⟩ := hstep (n0 + (codeLs lab C m).length + 1) (nT C m + 1) (addL (fT lab C m) (lab m) m)
      refine ⟨J', hJ', hr.app ?_⟩
      have hlb := Step.label (n := n0 + (codeLs lab C m).length) (line := lab m ++ ⟨#[58]⟩) ⟨nT C m, fT lab C m, (C.take m).map clr, S, L, J⟩ (lab m) rfl (hlab.ok m hm64) (fT_none lab hlab C m hm64) (by show nT C m < 1000; have := nT_le C m; omega) (by show ((C.take m).map clr).length ≤ 64; omega)
      simp only [hcl] at hlb
      refine .cons _ _ _ _ _ _ hlb ?_
      have e1 : nT C (m + 1) = nT C m + 1 := by rw [nT, if_pos ht]
      have e2 : fT lab C (m + 1) = addL (fT lab C m) (lab m) m := by rw [fT, if_pos ht]
      rw [e1, e2]
      exact RunL.one hs
    · rw [if_neg ht]
      obtain ⟨J', hJ', hs⟩ := hstep (n0 + (codeLs lab C m).length) (nT C m) (fT lab C m)
      refine ⟨J', hJ', hr.app ?_⟩
      have e1 : nT C (m + 1) = nT C m := by rw [nT, if_neg ht]
      have e2 : fT lab C (m + 1) = fT lab C m := by rw [fT, if_neg ht]
      rw [e1, e2, List.nil_append]
      exact RunL.one hs
end Go.Proofs.YthajndgljfbifaaDoor
namespace Go.Proofs.YthajndgljfbifaaDoor
open Go.RowKit Go.PlainAid
set_option maxRecDepth 100000

theorem reg_clean_line (n : Nat) (l : List Nat) : (10 : UInt8) ∉ (regLine n l).data.toList := fun e => (join_bytes _ _ (regW_clean n l) 10 e).1 rfl

theorem linesX_clean (lab : Nat → ByteArray) (hlab : LabsOk lab) (C : List Ins) (s : List Int) (L : List (List Nat)) (hC : CodePg s.length C) : ∀ l ∈ linesX lab C s L, (10 : UInt8) ∉ l.data.toList := by
  intro l hl
  unfold linesX regLs codeLs at hl
  rcases List.mem_append.1 hl with hl | hl
  · obtain ⟨k, _, rfl⟩ := List.mem_map.1 hl
    exact reg_clean_line _ _
  · obtain ⟨k, hk, hl⟩ := List.mem_flatMap.1 hl
    have hk2 : k < C.length := by simpa using hk
    have hgd : C.getD k insNil = C[k] := by rw [List.getD_eq_getElem?_getD, List.getElem?_eq_getElem hk2]; rfl
    obtain ⟨gv, gj, _⟩ := hC.2.2 k hk2
    unfold codeX at hl
    rcases List.mem_append.1 hl with hl | hl
    · split at hl
      · have e : l = lab k ++ ⟨#[58]⟩ := by simpa using hl
        rw [e, bytes_add]
        intro h
        rcases List.mem_append.1 h with h | h
        · exact ((lab_clean (hlab.ok k (by have := hC.2.1; omega))).1 10 h).1 rfl
        · revert h; decide
      · simp at hl
    · have e : l = lineX lab C[k] := by rw [hgd] at hl; simpa using hl
      rw [e]
      exact fun e => (join_bytes _ _ (insX_clean lab hlab C[k] gv (fun hj => by have := gj hj; have := hC.2.1; omega)) 10 e).1 rfl

theorem itoa_size5 (n : Nat) (hn : n ≤ 65535) : (itoaB n).size ≤ 5 := by
  have hsz : (itoaB n).size = Lib.nDigits n := by
    rw [← Lib.decDigits_length, ← itoaB_list]; exact (Array.length_toList).symm
  rw [hsz]
  have h10 : ∀ u, u < 10 → Lib.nDigits u ≤ 1 := fun u h => by rw [Lib.nDigits_small h]; exact Nat.le_refl _
  have step : ∀ k u, (∀ v, v < 10 ^ k → Lib.nDigits v ≤ k) → 1 ≤ k → u < 10 ^ (k + 1) → Lib.nDigits u ≤ k + 1 := by
    intro k u ih hk hu
    by_cases h : u < 10
    · have := h10 u h; omega
    · rw [Lib.nDigits_big h]
      have := ih (u / 10) (by rw [Nat.pow_succ] at hu; omega)
      omega
  have h1 : ∀ v, v < 10 ^ 1 → Lib.nDigits v ≤ 1 := fun v h => h10 v (by omega)
  have h2 : ∀ v, v < 10 ^ 2 → Lib.nDigits v ≤ 2 := fun v h => step 1 v h1 (by omega) h
  have h3 : ∀ v, v < 10 ^ 3 → Lib.nDigits v ≤ 3 := fun v h => step 2 v h2 (by omega) h
  have h4 : ∀ v, v < 10 ^ 4 → Lib.nDigits v ≤ 4 := fun v h => step 3 v h3 (by omega) h
  exact step 4 n h4 (by omega) (by omega)

theorem textFrom_size (ls : List ByteArray) (m : Nat) : ∀ t : ByteArray, (∀ l ∈ ls, l.size ≤ m) → (textFrom t ls).size ≤ t.size + ls.length * (m + 1) := by
  induction ls with
  | nil => intro t _; simp [textFrom]
  | cons l r ih =>
    intro t h
    have h1 := ih (t ++ l ++ ⟨#[10]⟩) (fun y hy => h y (by simp [hy]))
    have h2 := h l (by simp)
    have h3 : (t ++ l ++ ⟨#[10]⟩).size = t.size + l.size + 1 := by
      rw [add_size, add_size]
      rfl
    have h4 : textFrom t (l :: r) = textFrom (t ++ l ++ ⟨#[10]⟩) r := rfl
    rw [h4]
    rw [h3] at h1
    rw [List.length_cons, Nat.add_mul]
    omega

theorem lineX_size (lab : Nat → ByteArray) (hlab : LabsOk lab) (x : Ins) (hv : vinB x = true) (hj : jumpB x.op = true → x.imm < 64) : (lineX lab x).size ≤ 30 := by
  have h0 := (vinB_iff _).1 hv
  obtain ⟨o, ho⟩ := Int.eq_ofNat_of_zero_le h0.1
  have ho25 : o < 25 := by have := h0.2.1; omega
  unfold lineX insX
  rw [joinB_cons]
  have h1 := addW_size ((opdL x.op).map (wordX lab x)) 8 (nameB x.op) (fun y hy => by
    obtain ⟨c, hc, rfl⟩ := List.mem_map.1 hy
    rw [ho] at hc
    unfold wordX
    by_cases h76 : c = 76
    · rw [if_pos h76]
      have hjj : jumpB x.op = true := by
        rw [h76] at hc
        rw [ho]
        exact (by decide : ∀ o < 25, (76 : UInt8) ∈ opdL ((o : Nat) : Int) → jumpB ((o : Nat) : Int) = true) o ho25 hc
      exact (lab_clean (hlab.ok _ (by have := hj hjj; have := h0.2.2.2.2.2.2.2.2.1; omega))).2
    · rw [if_neg h76]
      obtain ⟨m, hm, hm2⟩ := fld_nat x hv c (opd_fields o ho25 c hc)
      unfold wordC
      rw [add_size, hm, Int.toNat_natCast]
      have h3 := itoa_size5 m hm2
      have : (preC c).size ≤ 1 := by unfold preC; (repeat' split) <;> decide
      omega)
  have h2 := nameB_size x.op
  rw [List.length_map] at h1
  have h3 := opd_length o ho25
  rw [← ho] at h3
  omega

theorem regLine_size5 (n : Nat) (l : List Nat) (hn : n ≤ 32) (hu : ∀ v ∈ l, v < 65536) (hl : l.length ≤ 32) : (regLine n l).size ≤ 204 := by
  unfold regLine regW
  rw [joinB_cons]
  have h1 := addW_size (itoaB n :: l.map itoaB) 5 (⟨#[114, 101, 103, 105, 111, 110]⟩ : ByteArray) (fun x hx => by
    rcases List.mem_cons.1 hx with e | hx
    · rw [e]; exact itoa_size5 n (by omega)
    · obtain ⟨v, hv, rfl⟩ := List.mem_map.1 hx
      exact itoa_size5 v (by have := hu v hv; omega))
  rw [List.length_cons, List.length_map] at h1
  have h3 : (⟨#[114, 101, 103, 105, 111, 110]⟩ : ByteArray).size = 6 := rfl
  omega

theorem codeLs_count (lab : Nat → ByteArray) (C : List Ins) : ∀ m, (codeLs lab C m).length ≤ 2 * m
  | 0 => Nat.le_refl _
  | m + 1 => by
    have := codeLs_count lab C m
    rw [codeLs_next, List.length_append]
    unfold codeX
    split <;> simp <;> omega

theorem text_size (lab : Nat → ByteArray) (hlab : LabsOk lab) (C : List Ins) (s : List Int) (L : List (List Nat)) (hg : GoodPg C s L) (hu : ∀ l ∈ L, ∀ v ∈ l, v < 65536) : (textFrom ⟨#[]⟩ (linesX lab C s L)).size ≤ 4096 ∧ (linesX lab C s L).length ≤ 132 := by
  have hv : 1 ≤ s.length ∧ s.length ≤ 4 ∧ ∀ x ∈ s, 1 ≤ x ∧ x ≤ 32 := of_decide_eq_true hg.1
  obtain ⟨hF, hC⟩ := (good_split C s L).1 hg
  have hr : ∀ l ∈ regLs s L s.length, l.size ≤ 204 := by
    intro l hl
    obtain ⟨k, hk, rfl⟩ := List.mem_map.1 hl
    have hk1 : k < s.length := by simpa using hk
    have hk2 : k < L.length := by have := hF.2.1; omega
    have e1 : (s.getD k 0).toNat = s[k].toNat := by rw [List.getD_eq_getElem?_getD, List.getElem?_eq_getElem hk1]; rfl
    have e2 : L.getD k [] = L[k] := by rw [List.getD_eq_getElem?_getD, List.getElem?_eq_getElem hk2]; rfl
    have hx := hv.2.2 _ (List.getElem_mem hk1)
    have hf := hF.2.2 k hk2 hk1
    rw [e1, e2]
    exact regLine_size5 _ _ (by omega) (hu _ (List.getElem_mem hk2)) (by omega)
  have hc : ∀ (t : ByteArray) m, m ≤ C.length → (textFrom t (codeLs lab C m)).size ≤ t.size + m * 41 := by
    intro t m
    induction m with
    | zero => intro _; simp [codeLs, textFrom]
    | succ k ih =>
      intro hk
      have ih := ih (by omega)
      have hk2 : k < C.length := by omega
      have hgd : C.getD k insNil = C[k] := by rw [List.getD_eq_getElem?_getD, List.getElem?_eq_getElem hk2]; rfl
      obtain ⟨gv, gj, _⟩ := hC.2.2 k hk2
      have h1 := lineX_size lab hlab C[k] gv (fun hj => by have := gj hj; have := hC.2.1; omega)
      have h2 := (lab_clean (hlab.ok k (by have := hC.2.1; omega))).2
      have e1 : ByteArray.size ⟨#[58]⟩ = 1 := rfl
      have e2 : ByteArray.size ⟨#[10]⟩ = 1 := rfl
      rw [codeLs_next, textFrom_app]
      unfold codeX
      rw [hgd]
      generalize textFrom t (codeLs lab C k) = u at *
      split
      · show (u ++ (lab k ++ ⟨#[58]⟩) ++ ⟨#[10]⟩ ++ lineX lab C[k] ++ ⟨#[10]⟩).size ≤ _
        rw [add_size, add_size, add_size, add_size, add_size]
        omega
      · show (u ++ lineX lab C[k] ++ ⟨#[10]⟩).size ≤ _
        rw [add_size, add_size]
        omega
  have hcc := codeLs_count lab C C.length
  have hc64 := hC.2.1
  have hrl : (regLs s L s.length).length = s.length := by simp [regLs]
  refine ⟨?_, ?_⟩
  · unfold linesX
    rw [textFrom_app]
    have h1 := textFrom_size (regLs s L s.length) 204 ⟨#[]⟩ hr
    have h2 := hc (textFrom ⟨#[]⟩ (regLs s L s.length)) C.length (Nat.le_refl _)
    rw [hrl] at h1
    have h3 : ByteArray.size ⟨#[]⟩ = 0 := rfl
    omega
  · unfold linesX
    rw [List.length_append, hrl]
    omega

theorem modify_last (A : List Ins) (y : Ins) (r : List Ins) (t : Nat) : setImm (A ++ y :: r) A.length t = A ++ { y with imm := (t : Int) } :: r := by
  unfold setImm
  induction A with
  | nil => rfl
  | cons x A ih => exact congrArg (fun l => x :: l) ih

theorem rsl_of (f : ByteArray → Option Nat) : ∀ (J : List (Nat × Nat × ByteArray)) (D : List Ins), rsl f J D J.length = (J.map (·.2)).foldl (fun C j => setImm C j.1 ((f j.2).getD 0)) D := by
  intro J D
  unfold rsl
  rw [List.take_length, List.foldl_map]

theorem rsl_run (lab : Nat → ByteArray) (hlab : LabsOk lab) (C : List Ins) (hC : ∀ k (h : k < C.length), jumpB C[k].op = true → 0 ≤ C[k].imm ∧ C[k].imm < (C.length : Int)) (h64 : C.length ≤ 64) : ∀ m, m ≤ C.length → (jl lab C m).foldl (fun D j => setImm D j.1 ((fT lab C C.length j.2).getD 0)) (C.map clr) = C.take m ++ (C.drop m).map clr
  | 0, _ => by simp [jl]
  | m + 1, h => by
    have ih := rsl_run lab hlab C hC h64 m (by omega)
    have hm : m < C.length := by omega
    have hgd : C.getD m insNil = C[m] := by rw [List.getD_eq_getElem?_getD, List.getElem?_eq_getElem hm]; rfl
    rw [jl_next, List.foldl_append, ih, hgd]
    have hd : C.drop m = C[m] :: C.drop (m + 1) := List.drop_eq_getElem_cons hm
    have ht : C.take (m + 1) = C.take m ++ [C[m]] := List.take_succ_eq_append_getElem hm
    rw [hd, ht, List.map_cons]
    have hl : (C.take m).length = m := by rw [List.length_take]; omega
    cases hj : jumpB C[m].op with
    | true =>
      obtain ⟨i0, i1⟩ := hC m hm hj
      have htg : tgtB C C.length C[m].imm.toNat = true := by
        unfold tgtB
        rw [List.take_length, List.any_eq_true]
        exact ⟨C[m], List.getElem_mem hm, by rw [hj, Bool.true_and, beq_iff_eq]; omega⟩
      have hf := fT_at lab hlab C C[m].imm.toNat htg C.length (by omega) h64
      rw [if_pos rfl, List.foldl_cons, List.foldl_nil, hf]
      have h1 := modify_last (C.take m) (clr C[m]) ((C.drop (m + 1)).map clr) C[m].imm.toNat
      rw [hl] at h1
      show setImm (C.take m ++ clr C[m] :: (C.drop (m + 1)).map clr) m C[m].imm.toNat = _
      rw [h1, List.append_assoc]
      have h2 : ({ clr C[m] with imm := ((C[m].imm.toNat : Nat) : Int) } : Ins) = C[m] := by
        have e : ((C[m].imm.toNat : Nat) : Int) = C[m].imm := by omega
        rw [e]
        unfold clr
        rw [hj]
        rfl
      rw [h2]
      rfl
    | false =>
      have h2 : clr C[m] = C[m] := by unfold clr; rw [hj]; rfl
      rw [h2, if_neg (by simp), List.foldl_nil, List.append_assoc]
      rfl

/-- The text of a good program, under whatever names of its labels, is read as the program. -/
theorem asm_Parse_text (lab : Nat → ByteArray) (hlab : LabsOk lab) (C : List Ins) (s : List Int) (L : List (List Nat)) (hg : GoodPg C s L) (hu : ∀ l ∈ L, ∀ v ∈ l, v < 65536) (w : World) (ht : Tabs w) (ho : OpsTab w) :
    Calls Tryd.prog 11 #[.string (textFrom ⟨#[]⟩ (linesX lab C s L))] w (GivesPg C (natsS s) L (linesX lab C s L).length w) := by
  obtain ⟨hF, hC⟩ := (good_split C s L).1 hg
  have hv : 1 ≤ s.length ∧ s.length ≤ 4 ∧ ∀ x ∈ s, 1 ≤ x ∧ x ≤ 32 := of_decide_eq_true hg.1
  obtain ⟨hsz, hll⟩ := text_size lab hlab C s L hg hu
  have hnl : (natsS s).length = s.length := by simp [natsS]
  have hr := regs_run s L hF hu s.length (Nat.le_refl _)
  rw [List.take_of_length_le (by omega), List.take_of_length_le (by have := hF.2.1; omega)] at hr
  obtain ⟨J, hJ, hc⟩ := code_run lab hlab C (0 + (regLs s L s.length).length) (natsS s) L (by rw [hnl]; exact hC) C.length (Nat.le_refl _)
  rw [List.take_length] at hc
  have hrun := hr.app hc
  obtain ⟨st, h0, h1, h2⟩ := hrun.fn
  have hJl : J.length ≤ C.length := by
    have e := congrArg List.length hJ
    rw [List.length_map] at e
    have := jl_length lab C C.length
    omega
  have h64 := hC.2.1
  have hjx : ∀ k (h : k < C.length), jumpB C[k].op = true → 0 ≤ C[k].imm ∧ C[k].imm < (C.length : Int) := fun k h hj => ⟨((vinB_iff _).1 (hC.2.2 k h).1).2.2.2.2.2.2.2.2.1, (hC.2.2 k h).2.1 hj⟩
  have key := asm_Parse (textFrom ⟨#[]⟩ (linesX lab C s L)) (linesX lab C s L) st _ w ht ho hsz (split_lines _ (linesX_clean lab hlab C s L hC)) h0 (fun i hi => by have := h2 i hi; rw [Nat.zero_add] at this; exact this) h1 (by omega) (fun k hk => by
    have hmem : J[k].2 ∈ jl lab C C.length := by rw [← hJ]; exact List.mem_map_of_mem (List.getElem_mem hk)
    unfold jl at hmem
    obtain ⟨i, hi, hmem⟩ := List.mem_flatMap.1 hmem
    have hi2 : i < C.length := by simpa using hi
    have hgd : C.getD i insNil = C[i] := by rw [List.getD_eq_getElem?_getD, List.getElem?_eq_getElem hi2]; rfl
    rw [hgd] at hmem
    split at hmem
    · rename_i hj
      have e : J[k].2 = (i, lab C[i].imm.toNat) := by simpa using hmem
      obtain ⟨i0, i1⟩ := hjx i hi2 hj
      have htg : tgtB C C.length C[i].imm.toNat = true := by
        unfold tgtB
        rw [List.take_length, List.any_eq_true]
        exact ⟨C[i], List.getElem_mem hi2, by rw [hj, Bool.true_and, beq_iff_eq]; omega⟩
      have hf := fT_at lab hlab C C[i].imm.toNat htg C.length (by omega) h64
      show J[k].2.1 < (C.map clr).length ∧ (fT lab C C.length J[k].2.2).isSome = true ∧ J[k].2.2.size ≤ 1000000
      rw [e]
      simp only
      rw [hf, List.length_map]
      exact ⟨hi2, rfl, by have := (lab_clean (hlab.ok C[i].imm.toNat (by omega))).2; omega⟩
    · simp at hmem) (by show J.length ≤ 100; omega) (by show (C.map clr).length ≤ 64; rw [List.length_map]; exact h64) (fun q k hq => by
    show k < (C.map clr).length
    rw [List.length_map]
    exact (fT_some lab C q k C.length hq).1) (by show 0 < (natsS s).length; omega) (by show 0 < (C.map clr).length; rw [List.length_map]; have := hC.1; omega)
  have e : rsl (fT lab C C.length) J (C.map clr) J.length = C := by
    rw [rsl_of, hJ, rsl_run lab hlab C hjx h64 C.length (Nat.le_refl _)]
    simp
  simp only [e] at key
  exact key
end Go.Proofs.YthajndgljfbifaaDoor
namespace Go.Proofs.YthajndgljfbifaaDoor
open Go.RowKit Go.PlainAid
set_option maxRecDepth 100000

theorem natCast_map_inj : ∀ {a b : List Nat}, a.map (fun x : Nat => (x : Int)) = b.map (fun x : Nat => (x : Int)) → a = b
  | [], [], _ => rfl
  | [], _ :: _, h => by simp at h
  | _ :: _, [], h => by simp at h
  | x :: a, y :: b, h => by
    simp only [List.map_cons, List.cons.injEq] at h
    rw [natCast_map_inj h.2]
    congr 1
    omega

theorem colon_inj {a b : ByteArray} (h : a ++ ⟨#[58]⟩ = b ++ ⟨#[58]⟩) : a = b := by
  have h1 := congrArg (fun t : ByteArray => t.data.toList) h
  simp only [bytes_add] at h1
  exact bytes_ext (List.append_cancel_right h1)

theorem names_inj (o o' : Nat) (h : o < 25) (h' : o' < 25) (e : nameB (o : Int) = nameB (o' : Int)) : o = o' := by
  rcases Nat.lt_trichotomy o o' with hl | hl | hl
  · exact absurd e (names_apart o' h' o hl)
  · exact hl
  · exact absurd e.symm (names_apart o h o' hl)

/-- What a line is read as is one. -/
theorem Step.det {n : Nat} {l : ByteArray} {s a b : St} (h1 : Step n l s a) (h2 : Step n l s b) : a = b := by
  cases h1 with
  | label lab e1 e2 e3 e4 e5 =>
    cases h2 with
    | label lab' f1 _ _ _ _ =>
      rw [e1] at f1
      rw [colon_inj f1]
    | region ws k vs f1 =>
      rw [e1, suffix_colon] at f1
      cases f1
    | instr o vs x lb f1 =>
      rw [e1, suffix_colon] at f1
      cases f1
  | region ws k vs e1 e2 e3 e4 =>
    cases h2 with
    | label lab' f1 =>
      rw [f1, suffix_colon] at e1
      cases e1
    | region ws' k' vs' f1 f2 f3 f4 =>
      rw [e2] at f2
      simp only [List.cons.injEq, true_and] at f2
      subst f2
      rw [e4] at f4
      have := natCast_map_inj f4
      simp only [List.cons.injEq] at this
      obtain ⟨rfl, rfl⟩ := this
      rfl
    | instr o vs' x lb f1 f2 f3 =>
      rw [e2] at f2
      simp only [List.cons.injEq] at f2
      exact absurd f2.1.symm (name_region o f3)
  | instr o vs x lb e1 e2 e3 e4 e5 e6 =>
    cases h2 with
    | label lab' f1 =>
      rw [f1, suffix_colon] at e1
      cases e1
    | region ws' k' vs' f1 f2 =>
      rw [e2] at f2
      simp only [List.cons.injEq] at f2
      exact absurd f2.1 (name_region o e3)
    | instr o' vs' x' lb' f1 f2 f3 f4 f5 f6 =>
      rw [e2] at f2
      simp only [List.cons.injEq] at f2
      obtain ⟨g1, rfl⟩ := f2
      obtain rfl := names_inj o o' e3 f3 g1
      rw [e6] at f6
      simp only [Prod.mk.injEq] at f6
      obtain ⟨rfl, rfl⟩ := f6
      rfl

theorem RunL.det {n : Nat} {s a b : St} {ls : List ByteArray} (h1 : RunL n s ls a) : RunL n s ls b → a = b := by
  induction h1 with
  | nil n s => intro h2; cases h2; rfl
  | cons n s s1 s2 l ls hs _ ih =>
    intro h2
    cases h2 with
    | cons _ _ s1' _ _ _ hs' hr' =>
      obtain rfl := hs.det hs'
      exact ih hr'

theorem text_run (lab : Nat → ByteArray) (hlab : LabsOk lab) (C : List Ins) (s : List Int) (L : List (List Nat)) (hg : GoodPg C s L) (hu : ∀ l ∈ L, ∀ v ∈ l, v < 65536) : ∃ nl f C1 J, RunL 0 st0 (linesX lab C s L) ⟨nl, f, C1, natsS s, L, J⟩ ∧ rsl f J C1 J.length = C := by
  obtain ⟨hF, hC⟩ := (good_split C s L).1 hg
  have hnl : (natsS s).length = s.length := by simp [natsS]
  have hr := regs_run s L hF hu s.length (Nat.le_refl _)
  rw [List.take_of_length_le (by omega), List.take_of_length_le (by have := hF.2.1; omega)] at hr
  obtain ⟨J, hJ, hc⟩ := code_run lab hlab C (0 + (regLs s L s.length).length) (natsS s) L (by rw [hnl]; exact hC) C.length (Nat.le_refl _)
  rw [List.take_length] at hc
  have hjx : ∀ k (h : k < C.length), jumpB C[k].op = true → 0 ≤ C[k].imm ∧ C[k].imm < (C.length : Int) := fun k h hj => ⟨((vinB_iff _).1 (hC.2.2 k h).1).2.2.2.2.2.2.2.2.1, (hC.2.2 k h).2.1 hj⟩
  refine ⟨_, _, _, J, hr.app hc, ?_⟩
  rw [rsl_of, hJ, rsl_run lab hlab C hjx hC.2.1 C.length (Nat.le_refl _)]
  simp

theorem labl_ok : LabsOk labl where
  ok := by
    intro k hk
    have h : ∀ n, itoaB n = ⟨(Lib.decDigits n).toArray⟩ := fun n => by unfold itoaB; rw [Lib.itoa_nonneg]
    unfold labl
    rw [h]
    by_cases h1 : k < 10
    · rw [Lib.decDigits_one h1]
      exact (by decide : ∀ k < 10, labB (⟨#[108]⟩ ++ ⟨[UInt8.ofNat (48 + k)].toArray⟩) = true) k h1
    · rw [Lib.decDigits_two h1 (by omega)]
      exact (by decide : ∀ k < 64, labB (⟨#[108]⟩ ++ ⟨[UInt8.ofNat (48 + k / 10), UInt8.ofNat (48 + k % 10)].toArray⟩) = true) k hk
  inj := by
    intro i j hi hj e
    unfold labl at e
    have h1 := congrArg (fun t : ByteArray => t.data.toList) e
    simp only [bytes_add] at h1
    have h2 : itoaB i = itoaB j := bytes_ext (List.append_cancel_left h1)
    have h3 := (itoa_read i (by omega)).2
    rw [h2, (itoa_read j (by omega)).2] at h3
    omega

theorem ints_of_nats (s : List Int) (h : ∀ x ∈ s, 1 ≤ x ∧ x ≤ 32) : intsS (natsS s) = s := by
  unfold intsS natsS
  rw [List.map_map]
  conv => rhs; rw [← List.map_id s]
  apply List.map_congr_left
  intro x hx
  have := h x hx
  show ((x.toNat : Nat) : Int) = x
  omega

theorem print_inj (C C' : List Ins) (s s' : List Int) (L L' : List (List Nat)) (hg : GoodPg C s L) (hg' : GoodPg C' s' L') (hu : ∀ l ∈ L, ∀ v ∈ l, v < 65536) (hu' : ∀ l ∈ L', ∀ v ∈ l, v < 65536) : printB C s L = printB C' s' L' ↔ (C = C' ∧ s = s' ∧ L = L') := by
  constructor
  · intro e
    rw [print_text, print_text] at e
    have hl := split_lines _ (linesX_clean labl labl_ok C s L ((good_split C s L).1 hg).2)
    rw [e, split_lines _ (linesX_clean labl labl_ok C' s' L' ((good_split C' s' L').1 hg').2)] at hl
    have hl := List.append_cancel_right hl
    obtain ⟨nl, f, C1, J, hr, hc⟩ := text_run labl labl_ok C s L hg hu
    obtain ⟨nl', f', C1', J', hr', hc'⟩ := text_run labl labl_ok C' s' L' hg' hu'
    rw [hl] at hr'
    have hE := hr.det hr'
    simp only [St.mk.injEq] at hE
    obtain ⟨rfl, rfl, rfl, hs, hL, rfl⟩ := hE
    have v1 : 1 ≤ s.length ∧ s.length ≤ 4 ∧ ∀ x ∈ s, 1 ≤ x ∧ x ≤ 32 := of_decide_eq_true hg.1
    have v2 : 1 ≤ s'.length ∧ s'.length ≤ 4 ∧ ∀ x ∈ s', 1 ≤ x ∧ x ≤ 32 := of_decide_eq_true hg'.1
    refine ⟨hc.symm.trans hc', ?_, hL⟩
    rw [← ints_of_nats s v1.2.2, ← ints_of_nats s' v2.2.2, hs]
  · rintro ⟨rfl, rfl, rfl⟩
    rfl

theorem count_lines (ls : List ByteArray) (h : ∀ l ∈ ls, (10 : UInt8) ∉ l.data.toList) : Lib.countByte (textFrom ⟨#[]⟩ ls).data.toList 10 = ls.length := by
  rw [textFrom_data]
  show Lib.countByte ([] ++ _) 10 = _
  rw [List.nil_append]
  unfold Lib.countByte
  induction ls with
  | nil => rfl
  | cons l r ih =>
    rw [List.flatMap_cons, List.count_append, ih (fun x hx => h x (by simp [hx])), List.count_append, List.count_eq_zero_of_not_mem (h l (by simp))]
    simp
    omega
end Go.Proofs.YthajndgljfbifaaDoor
