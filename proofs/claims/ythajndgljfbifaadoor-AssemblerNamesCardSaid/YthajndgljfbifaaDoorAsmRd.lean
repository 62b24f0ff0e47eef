/-
  What words are: isLabel, numberOf, operandOf.
  Words read: numbersOf, instructionOf (where they can be read).
  A map of the call's own from labels to indices.
  What has been read of a text, in memory: the reading behind a pointer.
  Lines read: addLabel, addRegion.
-/
import Derived.Test.YthajndgljfbifaaDoorAsmA
import Derived.Lib.ConvBytes
import Derived.Lib.UnsafeStr
import Derived.Lib.Hide
import Derived.PlainAid
import Derived.Test.YthajndgljfbifaaDoorAsmPr
import Derived.Maps.Own
import Derived.Maps.Views
import Derived.Maps.OwnSet
import Derived.Maps.Range
import Derived.Deep.AppendLies
import Derived.Deep.RegionLaw
import Derived.Deep.DeepCutAuto
import Derived.Deep.CutBlock
import Derived.BigQuiet
namespace Go.Proofs.YthajndgljfbifaaDoor
open Go.RowKit Go.PlainAid
set_option maxRecDepth 100000

theorem bytes_of (s : ByteArray) (w : World) : ∃ cap W1, (convert 9 58 (.string s)).run Tryd.prog w = .ok (.slice (some ⟨w.heap.size, 0, none⟩) s.size cap) W1 ∧ Below w.heap.size w W1 ∧ ∀ k, k < s.size → W1.cell? ⟨w.heap.size, k, none⟩ = some (.int .u8 (bt s k)) := by
  refine ⟨_, _, Lib.run_convert_string_bytes (P := Tryd.prog) w 9 58 5 s (u := .string) Tryd.underlying9 Tryd.underlying58 Tryd.underlying5, ?_, fun k hk => ?_⟩
  · exact Lib.below_freeze (Below.alloc (Below.drew (Below.refl w.heap.size w)) (Nat.le_refl _) _) (Nat.le_refl _) _
  · rw [Lib.bytesWorld_cell w _ s k hk]
    unfold bt
    rw [dif_pos hk]
    have h1 : s.data.toList.getD k 0 = s[k] := by
      have h2 : k < s.data.size := hk
      rw [List.getD_eq_getElem?_getD, List.getElem?_eq_getElem (by simpa using h2)]
      rfl
    rw [h1]

/-- Whether a text is a number. -/
def numOk (s : ByteArray) : Bool := decide ((s.size ≠ 0 ∧ ¬ (1 < s.size ∧ bt s 0 = 48)) ∧ ∀ k < s.size, digB (bt s k))
/-- .. and which one. -/
def numV (s : ByteArray) : Int := if numOk s then numTo s s.size else 0
def numR (s : ByteArray) : Value := .tuple #[.int .i64 (numV s), .bool (numOk s)]

theorem numR_no {s : ByteArray} (h : ¬ ((s.size ≠ 0 ∧ ¬ (1 < s.size ∧ bt s 0 = 48)) ∧ ∀ k < s.size, digB (bt s k))) : numR s = .tuple #[.int .i64 0, .bool false] := by
  have h1 : numOk s = false := decide_eq_false h
  unfold numR numV
  rw [h1]
  rfl
theorem numR_yes {s : ByteArray} (h : ((s.size ≠ 0 ∧ ¬ (1 < s.size ∧ bt s 0 = 48)) ∧ ∀ k < s.size, digB (bt s k))) : numR s = .tuple #[.int .i64 (numTo s s.size), .bool true] := by
  have h1 : numOk s = true := decide_eq_true h
  unfold numR numV
  rw [h1]
  rfl

set_option maxHeartbeats 1000000 in
theorem asm_numberOf (s : ByteArray) (w : World) (hs : s.size ≤ 1000000) :
    Calls Tryd.prog 83 #[.string s] w fun e w' => e = .returned (numR s) ∧ Below w.heap.size w w' := by
  have HNo := Lib.hid (fun h => numR_no (s := s) h)
  have HYes := Lib.hid (fun h => numR_yes (s := s) h)
  generalize numR s = res at *
  have hb := get_bt s
  have hb0 := bt_nonneg s
  have hb1 := bt_le s
  by_cases h0 : s.size = 0
  · have HR := Lib.hid (HNo.out (fun h => h.1.1 h0))
    have hse : s = ⟨#[]⟩ := by cases s with | mk d => congr; exact Array.eq_empty_of_size_eq_zero h0
    subst hse
    clear HNo HYes hb hb0 hb1 h0
    go_enter Tryd.func83, Tryd.ntmps83
    go_wp2
    refine bodyPost_ret (v := .tuple #[.int .i64 0, .bool false]) (by simp [results, Tryd.results83, go_sem]) rfl ⟨by rw [HR.out], Below.refl _ _⟩
  · have t1 : ¬ s.toList = [] := by
      intro h
      have h2 : s.data.toList.length = s.size := Array.length_toList
      rw [← ByteArray.toList_eq, h] at h2
      exact h0 h2.symm
    have t2 : s.toList.isEmpty = false := by
      cases h : s.toList with
      | nil => exact absurd h t1
      | cons _ _ => rfl
    by_cases h1 : 1 < s.size ∧ bt s 0 = 48
    · have HR := Lib.hid (HNo.out (fun h => h.1.2 h1))
      obtain ⟨h1, h2⟩ := h1
      clear HNo HYes
      go_enter Tryd.func83, Tryd.ntmps83
      go_wp2
      refine bodyPost_ret (v := .tuple #[.int .i64 0, .bool false]) (by simp [results, Tryd.results83, go_sem]) rfl ⟨by rw [HR.out], Below.refl _ _⟩
    · have H1 := Lib.hid h1
      have H0 := Lib.hid h0
      have g1 : (bt s 0 == 48) = false ∨ ((bt s 0 == 48) = true ∧ ¬ (1 < (s.size : Int))) := by
        by_cases h : bt s 0 = 48
        · exact .inr ⟨by rw [beq_iff_eq]; exact h, fun hh => h1 ⟨by omega, h⟩⟩
        · exact .inl (by rw [beq_eq_false_iff_ne]; exact h)
      clear h1
      obtain ⟨cap, W1, hcv, hB1, hcl⟩ := bytes_of s w
      go_enter Tryd.func83, Tryd.ntmps83
      rcases g1 with g1 | ⟨g1, g2⟩
      all_goals go_wp2_with fail
      all_goals clear hcv g1
      all_goals go_loopw [4, 22] (fun n c wr => ∃ k : Nat, k ≤ s.size ∧ c = .int .i64 k ∧ n = .int .i64 (numTo s k) ∧ (∀ j < k, digB (bt s j)) ∧ wr = W1) (fun _ c _ => s.size - (intOf c).toNat)
      all_goals try (case atStart => exact ⟨0, by omega, rfl, rfl, fun j hj => by omega, rfl⟩)
      all_goals
        obtain ⟨k, hk, rfl, rfl, hd, rfl⟩ := hrel
        have hn := numTo_le s k hd
        by_cases hlt : k < s.size
        · have hlt2 : (k : Int) < (s.size : Int) := by omega
          have hk0 : 0 ≤ (k : Int) := by omega
          have c0 := hb0 k
          have c1 := hb1 k
          have ck := hcl k hlt
          have hz : Hid (numTo s (k + 1) = min (numTo s k * 10 + (bt s k - 48)) 65536) := Lib.hid rfl
          have HN2 : Hid (¬ digB (bt s k) → res = .tuple #[.int .i64 0, .bool false]) := Lib.hid (fun hh => HNo.out (fun h => hh (h.2 k hlt)))
          have HD : Hid (digB (bt s k) → ∀ j < k + 1, digB (bt s j)) := Lib.hid (fun h j hj => by
            by_cases e : j = k
            · subst e; exact h
            · exact hd j (by omega))
          have HDI := Lib.hid (asm_isDigit (bt s k) wr)
          clear hd
          by_cases d1 : 48 ≤ bt s k ∧ bt s k ≤ 57
          · have HD2 := Lib.hid (HD.out d1)
            rw [decide_eq_true d1] at HDI
            obtain ⟨d1, d2⟩ := d1
            clear HN2 HNo HYes HD hcl hb hb0 hb1
            go_wp2_with (go_at_call 82; (with_reducible refine HDI.out.mono ?_); rintro e w' ⟨rfl, rfl⟩)
            refine ⟨⟨k + 1, by omega, by go_num, by rw [hz.out], HD2.out, trivial⟩, ?_⟩
            simp [intOf]
            omega
          · have HR := Lib.hid (HN2.out d1)
            rw [decide_eq_false d1] at HDI
            have HB := Lib.hid hB1
            clear hz HN2 HNo HYes HD d1 hcl hb hb0 hb1 hB1
            go_wp2_with (go_at_call 82; (with_reducible refine HDI.out.mono ?_); rintro e w' ⟨rfl, rfl⟩)
            refine bodyPost_ret (v := .tuple #[.int .i64 0, .bool false]) (by simp [results, Tryd.results83, go_sem]) rfl ⟨by rw [HR.out], HB.out⟩
        · obtain rfl : k = s.size := by omega
          have HY := Lib.hid (HYes.out ⟨⟨H0.out, H1.out⟩, hd⟩)
          have HB := Lib.hid hB1
          generalize numTo s s.size = nn at *
          clear hd HYes HNo hcl hB1
          go_wp2
          refine bodyPost_ret (v := .tuple #[.int .i64 nn, .bool true]) (by simp [results, Tryd.results83, go_sem]) rfl ⟨by rw [HY.out], HB.out⟩

set_option maxHeartbeats 1000000 in
theorem asm_isLabel (s : ByteArray) (w : World) (hs : s.size ≤ 1000000) :
    Calls Tryd.prog 68 #[.string s] w fun e w' => e = .returned (.bool (labB s)) ∧ Below w.heap.size w w' := by
  have hb := get_bt s
  have HNo : Hid (∀ k < s.size, ¬ labC k (bt s k) → labB s = false) := Lib.hid (fun k h hd => decide_eq_false (fun hh => hd (hh.2 k h)))
  have HYes : Hid ((1 ≤ s.size ∧ s.size ≤ 8) → (∀ k < s.size, labC k (bt s k)) → labB s = true) := Lib.hid (fun h1 h => decide_eq_true ⟨h1, h⟩)
  have HLen : Hid (¬ (1 ≤ s.size ∧ s.size ≤ 8) → labB s = false) := Lib.hid (fun h1 => decide_eq_false (fun hh => h1 hh.1))
  generalize labB s = res at *
  by_cases l1 : s.size < 1
  · have HR := Lib.hid (HLen.out (fun h => by omega))
    have g1 : (s.size : Int) < 1 := by omega
    clear HNo HYes HLen l1
    go_enter Tryd.func68, Tryd.ntmps68
    go_wp2
    go_ret
    exact ⟨by rw [HR.out]; rfl, Below.refl _ _⟩
  · have g1 : ¬ (s.size : Int) < 1 := by omega
    by_cases l2 : 8 < s.size
    · have HR := Lib.hid (HLen.out (fun h => by omega))
      have g2 : 8 < (s.size : Int) := by omega
      clear HNo HYes HLen l1 l2
      go_enter Tryd.func68, Tryd.ntmps68
      go_wp2
      go_ret
      exact ⟨by rw [HR.out]; rfl, Below.refl _ _⟩
    · have g2 : ¬ 8 < (s.size : Int) := by omega
      have H0 := Lib.hid (asm_isLetter (bt s 0) w)
      have HL := Lib.hid (show 1 ≤ s.size ∧ s.size ≤ 8 by omega)
      have l3 : 0 < s.size := by omega
      by_cases c0 : 97 ≤ bt s 0 ∧ bt s 0 ≤ 122
      · rw [decide_eq_true c0] at H0
        obtain ⟨cap, W1, hcv, hB1, hcl⟩ := bytes_of s w
        have C0 := Lib.hid c0
        clear HLen l1 l2 c0
        go_enter Tryd.func68, Tryd.ntmps68
        go_wp2_with (go_at_call 81; (with_reducible refine H0.out.mono ?_); rintro e w' ⟨rfl, rfl⟩)
        clear hcv g1 g2 H0
        go_loopw [22] (fun c wr => ∃ k : Nat, k ≤ s.size ∧ c = .int .i64 k ∧ (∀ j < k, labC j (bt s j)) ∧ wr = W1) (fun c _ => s.size - (intOf c).toNat)
        case atStart => exact ⟨0, by omega, rfl, fun j hj => by omega, rfl⟩
        obtain ⟨k, hk, rfl, hd, rfl⟩ := hrel
        by_cases hlt : k < s.size
        · have hlt2 : (k : Int) < (s.size : Int) := by omega
          have hk0 : 0 ≤ (k : Int) := by omega
          have ck := hcl k hlt
          have HN2 := Lib.hid (HNo.out k hlt)
          have HD : Hid (labC k (bt s k) → ∀ j < k + 1, labC j (bt s j)) := Lib.hid (fun h j hj => by
            by_cases e : j = k
            · subst e; exact h
            · exact hd j (by omega))
          have H1 := Lib.hid (asm_isLetter (bt s k) wr)
          have H2 := Lib.hid (asm_isDigit (bt s k) wr)
          have HB := Lib.hid hB1
          have HK0 : Hid (k = 0 → 97 ≤ bt s k ∧ bt s k ≤ 122) := Lib.hid (fun h => by rw [h]; exact C0.out)
          clear hd hcl hb hB1
          by_cases d1 : 97 ≤ bt s k ∧ bt s k ≤ 122
          · have HD2 := Lib.hid (HD.out (.inl d1))
            rw [decide_eq_true d1] at H1
            clear HN2 HD d1 H2 HNo HYes
            go_wp2_with (go_at_call 81; (with_reducible refine H1.out.mono ?_); rintro e w' ⟨rfl, rfl⟩)
            refine ⟨⟨k + 1, by omega, by go_num, HD2.out, trivial⟩, ?_⟩
            simp [intOf]
            omega
          · rw [decide_eq_false d1] at H1
            by_cases d2 : 48 ≤ bt s k ∧ bt s k ≤ 57
            · have HD2 := Lib.hid (HD.out (.inr ⟨fun h => d1 (HK0.out h), d2⟩))
              rw [decide_eq_true d2] at H2
              clear HN2 HD d1 d2 HNo HYes
              go_wp2_with (first
                | (go_at_call 81; (with_reducible refine H1.out.mono ?_); rintro e w' ⟨rfl, rfl⟩)
                | (go_at_call 82; (with_reducible refine H2.out.mono ?_); rintro e w' ⟨rfl, rfl⟩))
              refine ⟨⟨k + 1, by omega, by go_num, HD2.out, trivial⟩, ?_⟩
              simp [intOf]
              omega
            · have HR := Lib.hid (HN2.out (fun h => by rcases h with h | ⟨_, h⟩; exact d1 h; exact d2 h))
              rw [decide_eq_false d2] at H2
              clear HN2 HD d1 d2 HNo HYes
              go_wp2_with (first
                | (go_at_call 81; (with_reducible refine H1.out.mono ?_); rintro e w' ⟨rfl, rfl⟩)
                | (go_at_call 82; (with_reducible refine H2.out.mono ?_); rintro e w' ⟨rfl, rfl⟩))
              go_ret
              exact ⟨by rw [HR.out]; rfl, HB.out⟩
        · obtain rfl : k = s.size := by omega
          have HY := Lib.hid (HYes.out HL.out hd)
          have HB := Lib.hid hB1
          clear hd HYes HNo hlt hcl hB1
          go_wp2
          go_ret
          exact ⟨by rw [HY.out]; rfl, HB.out⟩
      · rw [decide_eq_false c0] at H0
        have HR := Lib.hid (HNo.out 0 l3 (fun h => by rcases h with h | ⟨h, _⟩; exact c0 h; exact h rfl))
        clear HNo HYes HLen l1 l2 c0
        go_enter Tryd.func68, Tryd.ntmps68
        go_wp2_with (go_at_call 81; (with_reducible refine H0.out.mono ?_); rintro e w' ⟨rfl, rfl⟩)
        go_ret
        exact ⟨by rw [HR.out]; rfl, Below.refl _ _⟩

/-- The number in a word, for an operand. -/
def opdR (c : UInt8) (s : ByteArray) : Value := if c = 73 then numR s else if Lib.hasPrefix s.data.toList [114] then numR ⟨(Lib.trimPrefix s.data.toList [114]).toArray⟩ else .tuple #[.int .i64 0, .bool false]

theorem asm_operandOf (c : UInt8) (s : ByteArray) (w : World) (hs : s.size ≤ 1000000) :
    Calls Tryd.prog 85 #[.int .i32 (c.toNat : Int), .string s] w fun e w' => e = .returned (opdR c s) ∧ Below w.heap.size w w' := by
  by_cases h1 : c = 73
  · subst h1
    have hv : Hid (opdR 73 s = numR s) := Lib.hid rfl
    have e1 : (((73 : UInt8).toNat : Int)) = 73 := rfl
    have HN := Lib.hid (asm_numberOf s w hs)
    unfold numR at HN hv
    rw [e1]
    go_enter Tryd.func85, Tryd.ntmps85
    go_wp2_with (go_at_call 83; (with_reducible refine HN.out.mono ?_); rintro e w' ⟨rfl, hb⟩)
    refine bodyPost_ret (by simp [results, Tryd.results85, go_sem]; rfl) rfl ⟨by rw [hv.out], hb⟩
  · have n1 : ((c.toNat : Int) == 73) = false := by rw [beq_eq_false_iff_ne]; intro h; exact h1 (UInt8.toNat_inj.1 (by have : (73 : UInt8).toNat = 73 := rfl; omega))
    have HC := Lib.hid (Tryd.strings_CutPrefix s ⟨#[114]⟩ w)
    have e2 : (⟨#[114]⟩ : ByteArray).data.toList = [114] := rfl
    rw [e2] at HC
    cases hp : Lib.hasPrefix s.data.toList [114] with
    | true =>
      rw [hp] at HC
      have hv : Hid (opdR c s = numR ⟨(Lib.trimPrefix s.data.toList [114]).toArray⟩) := Lib.hid (by unfold opdR; rw [if_neg h1, if_pos hp])
      have hsz : (⟨(Lib.trimPrefix s.data.toList [114]).toArray⟩ : ByteArray).size ≤ 1000000 := by
        have h2 : (Lib.trimPrefix s.data.toList [114]).length ≤ s.data.toList.length := by
          unfold Lib.trimPrefix
          split <;> (first | (rw [List.length_drop]; omega) | exact Nat.le_refl _)
        have h3 : s.data.toList.length = s.size := Array.length_toList
        show (Lib.trimPrefix s.data.toList [114]).toArray.size ≤ _
        rw [List.size_toArray]
        omega
      have HN := Lib.hid (asm_numberOf ⟨(Lib.trimPrefix s.data.toList [114]).toArray⟩ w hsz)
      unfold numR at HN hv
      generalize (c.toNat : Int) = x at *
      generalize (⟨(Lib.trimPrefix s.data.toList [114]).toArray⟩ : ByteArray) = t at *
      clear hp h1 hsz e2
      go_enter Tryd.func85, Tryd.ntmps85
      go_wp2_with (first
        | (go_at_call 95; (with_reducible refine HC.out.mono ?_); rintro e w' ⟨rfl, rfl⟩)
        | (go_at_call 83; (with_reducible refine HN.out.mono ?_); rintro e w' ⟨rfl, hb⟩))
      refine bodyPost_ret (by simp [results, Tryd.results85, go_sem]; rfl) rfl ⟨by rw [hv.out], hb⟩
    | false =>
      rw [hp] at HC
      have hv : Hid (opdR c s = .tuple #[.int .i64 0, .bool false]) := Lib.hid (by unfold opdR; rw [if_neg h1, if_neg (by rw [hp]; decide)])
      generalize (c.toNat : Int) = x at *
      generalize (⟨(Lib.trimPrefix s.data.toList [114]).toArray⟩ : ByteArray) = t at *
      clear hp h1 e2
      go_enter Tryd.func85, Tryd.ntmps85
      go_wp2_with (go_at_call 95; (with_reducible refine HC.out.mono ?_); rintro e w' ⟨rfl, rfl⟩)
      refine bodyPost_ret (by simp [results, Tryd.results85, go_sem]; rfl) rfl ⟨by rw [hv.out], Below.refl _ _⟩
end Go.Proofs.YthajndgljfbifaaDoor
namespace Go.Proofs.YthajndgljfbifaaDoor
open Go.RowKit
set_option maxRecDepth 100000

/-- Strings in memory, from a place on. -/
def StrsAt (w : World) (b off : Nat) (ws : List ByteArray) : Prop := ∀ k (h : k < ws.length), w.cell? ⟨b, off + k, none⟩ = some (.string ws[k])

theorem StrsAt.later {w w' : World} {b off : Nat} {ws : List ByteArray} (h : StrsAt w b off ws) (hb : Below w.heap.size w w') : StrsAt w' b off ws := fun k hk => cell_later hb (h k hk)

theorem info_int7 : (Tryd.prog.info? 3).map (fun i => (i.zero, i.size, i.bytes)) = some (some (.int .i64 0), 1, 8) := by kernel_rfl

def numsTo (ws : List ByteArray) (k : Nat) : List Value := (ws.take k).map (fun x => Value.int .i64 (numV x)) ++ List.replicate (ws.length - k) (.int .i64 0)

theorem numsTo_set (ws : List ByteArray) {k : Nat} (h : k < ws.length) : (numsTo ws k).set k (.int .i64 (numV ws[k])) = numsTo ws (k + 1) := by
  unfold numsTo
  have hl : ((ws.take k).map (fun x => Value.int .i64 (numV x))).length = k := by simp; omega
  rw [List.set_append_right _ _ (by omega), hl, Nat.sub_self, show ws.length - k = (ws.length - (k + 1)) + 1 by omega, List.replicate_succ, List.set_cons_zero, List.take_succ_eq_append_getElem h]
  simp only [List.map_append, List.map_cons, List.map_nil, List.append_assoc, List.cons_append, List.nil_append]

theorem numsTo_zero (ws : List ByteArray) : (madeCells #[Value.int .i64 0] ws.length).toList = numsTo ws 0 := by
  have h := made_rows [.int .i64 0] ws.length
  rw [List.length_singleton, Nat.mul_one] at h
  rw [h]
  unfold numsTo
  simp [List.flatten_replicate_singleton]

set_option maxHeartbeats 1000000 in
theorem asm_numbersOf (b off : Nat) (ws : List ByteArray) (c : Nat) (w : World) (hc : StrsAt w b off ws) (hl : ws.length ≤ 1000000) (hs : ∀ x ∈ ws, x.size ≤ 1000000) (hok : ∀ x ∈ ws, numOk x = true) :
    Calls Tryd.prog 69 #[.slice (some ⟨b, off, none⟩) ws.length c] w fun e w' => e = .returned (.tuple #[.slice (some ⟨w.heap.size, 0, none⟩) ws.length ws.length, .bool true]) ∧ (∀ k (h : k < ws.length), w'.cell? ⟨w.heap.size, k, none⟩ = some (.int .i64 (numV ws[k]))) ∧ Below w.heap.size w w' := by
  obtain ⟨i0, hi, hz0, hz1, hz2⟩ := info_parts info_int7
  go_enter Tryd.func69, Tryd.ntmps69
  go_wp2_with (first
    | (at_make; refine wpList_make_full _ rfl _ _ 22 rfl w.heap.size 3 i0 (.int .i64 0) 1 Tryd.underlying22 hi hz0 hz1 .i64 .i64 _ _ ws.length rfl rfl rfl rfl ?c1 ?c2 ?c3 ?_))
  case c1 => rw [hz2]; omega
  case c2 => unfold maxLen; omega
  case c3 => exact Nat.le_refl _
  intro W3 hown hg3
  rw [numsTo_zero] at hown
  have hb3 : Below w.heap.size w W3 := (Below.refl _ _).grown hg3 (Nat.le_refl _) (fun k hk => by cases hk)
  clear hg3
  go_wp2_with fail
  go_loopw [14] (fun c wr => ∃ j : Nat, j ≤ ws.length ∧ c = .int .i64 j ∧ wr.ownsRow w.heap.size 3 1 (.slice (some ⟨w.heap.size, 0, none⟩) ws.length ws.length) ws.length (numsTo ws j) ∧ Below w.heap.size w wr) (fun c _ => ws.length - (intOf c).toNat)
  case atStart => exact ⟨0, by omega, rfl, hown, hb3⟩
  clear hown hb3
  obtain ⟨j, hj, rfl, hown, hw⟩ := hrel
  by_cases hlt : j < ws.length
  · have c0 := hc.later hw j hlt
    have i1 : (j : Int) < (ws.length : Int) := by omega
    have i2 : 0 ≤ (j : Int) := by omega
    have HST := Lib.hid (numsTo_set ws hlt)
    have HN := Lib.hid (asm_numberOf ws[j] wr (hs _ (List.getElem_mem hlt)))
    have hk2 := hok _ (List.getElem_mem hlt)
    unfold numR at HN
    rw [hk2] at HN
    generalize ws[j] = x at *
    generalize numV x = n at *
    have HO := Lib.hid hown
    have HW := Lib.hid hw
    have hwl := hw.size
    clear hc hs hok hk2 hown hw
    go_upto_region 8 with (go_at_call 83; (with_reducible refine HN.out.mono ?_); rintro e W4 ⟨rfl, hb4⟩)
    have hown := own_later7 HO.out hb4
    have HB4 := Lib.hid (HW.out.trans (hb4.mono hwl))
    obtain ⟨u0, hu0⟩ : ∃ u, (numsTo ws j)[j]? = some u := ⟨_, List.getElem?_eq_getElem (by unfold numsTo; simp; omega)⟩
    have c0 := (hown.cellAt j (by omega)).trans hu0
    have fr := hown.frozenAt j
    have hst := hown.stored j (.int .i64 n)
    rw [HST.out] at hst
    have HO2 := Lib.hid hst.1
    have HB6 : Hid (Below w.heap.size w (W4.setCell ⟨w.heap.size, j, none⟩ (.int .i64 n))) := Lib.hid (HB4.out.grown hst.2 HB4.out.size (fun k hk => by cases hk; exact Nat.le_refl _))
    clear hst hown HST HN hb4
    go_wp2_with fail
    refine ⟨⟨j + 1, by omega, by go_num, HO2.out, HB6.out⟩, ?_⟩
    simp [intOf]
    omega
  · obtain rfl : j = ws.length := by omega
    have HO := Lib.hid hown
    have HW := Lib.hid hw
    clear hown hw hlt hc
    go_wp2
    refine bodyPost_ret (by simp [results, Tryd.results69, go_sem]) rfl ⟨rfl, fun k h => ?_, HW.out⟩
    rw [HO.out.cellAt k (by omega)]
    unfold numsTo
    rw [List.take_length, Nat.sub_self, List.replicate_zero, List.append_nil, List.getElem?_map, List.getElem?_eq_getElem h, Option.map_some]

/-- Whether a word can be an operand, and what it is. -/
def opdOk (c : UInt8) (v : ByteArray) : Bool := if c = 76 then labB v else if c = 73 then numOk v else Lib.hasPrefix v.data.toList [114] && numOk ⟨(Lib.trimPrefix v.data.toList [114]).toArray⟩
def opdN (c : UInt8) (v : ByteArray) : Int := if c = 73 then numV v else numV ⟨(Lib.trimPrefix v.data.toList [114]).toArray⟩

theorem opdR_ok {c : UInt8} {v : ByteArray} (h76 : c ≠ 76) (h : opdOk c v = true) : opdR c v = .tuple #[.int .i64 (opdN c v), .bool true] := by
  unfold opdOk at h
  rw [if_neg h76] at h
  unfold opdR opdN numR
  by_cases h1 : c = 73
  · rw [if_pos h1] at h ⊢
    rw [if_pos h1, h]
  · rw [if_neg h1] at h ⊢
    rw [if_neg h1]
    simp only [Bool.and_eq_true] at h
    rw [if_pos h.1, h.2]

/-- An instruction with a field set. -/
def setC (x : Ins) (c : UInt8) (n : Int) : Ins := if c = 65 then { x with a := n } else if c = 66 then { x with b := n } else if c = 67 then { x with c := n } else { x with imm := n }
/-- One operand read. -/
def rdO (y : Ins × ByteArray) (q : UInt8 × ByteArray) : Ins × ByteArray := if q.1 = 76 then (y.1, q.2) else (setC y.1 q.1 (opdN q.1 q.2), y.2)
/-- The instruction and the label that a name's operands are. -/
def rdI (op : Int) (vs : List ByteArray) (k : Nat) : Ins × ByteArray := (((opdL op).zip vs).take k).foldl rdO (⟨op, 0, 0, 0, 0⟩, ⟨#[]⟩)

theorem rdI_next (op : Int) (vs : List ByteArray) (hl : vs.length = (opdL op).length) {k : Nat} (h : k < (opdL op).length) : rdI op vs (k + 1) = rdO (rdI op vs k) ((opdL op)[k], vs[k]) := by
  unfold rdI
  have hz : k < ((opdL op).zip vs).length := by rw [List.length_zip]; omega
  rw [List.take_succ_eq_append_getElem hz, List.foldl_append, List.getElem_zip]
  rfl

theorem rdO_lab (y : Ins × ByteArray) (v : ByteArray) : rdO y (76, v) = (y.1, v) := rfl
theorem rdO_num (y : Ins × ByteArray) {c : UInt8} (v : ByteArray) (h : c ≠ 76) : rdO y (c, v) = (setC y.1 c (opdN c v), y.2) := by
  unfold rdO
  rw [if_neg h]

def insCells (x : Ins) : Array Value := #[.int .i64 x.op, .int .i64 x.a, .int .i64 x.b, .int .i64 x.c, .int .i64 x.imm]

theorem setC_cells (x : Ins) {c : UInt8} (n : Int) (hc : c = 65 ∨ c = 66 ∨ c = 67 ∨ c = 73) : (insCells x).setIfInBounds (offC c) (.int .i64 n) = insCells (setC x c n) := by
  rcases hc with rfl | rfl | rfl | rfl <;> rfl

theorem insCells_at (x : Ins) {c : UInt8} (hc : c = 65 ∨ c = 66 ∨ c = 67 ∨ c = 73) : ∃ u, (insCells x)[offC c]? = some u := by
  rcases hc with rfl | rfl | rfl | rfl <;> exact ⟨_, rfl⟩

set_option maxHeartbeats 4000000 in
theorem asm_instructionOf (b off : Nat) (o : Nat) (vs : List ByteArray) (n c : Nat) (w : World) (ho : OpsTab w) (hn : n = vs.length + 1) (hc : StrsAt w b off (nameB (o : Int) :: vs)) (ho25 : o < 25) (hl : vs.length = (opdL (o : Int)).length) (hs : ∀ x ∈ vs, x.size ≤ 1000000)
    (hok : ∀ k (h : k < vs.length) (h2 : k < (opdL (o : Int)).length), opdOk (opdL (o : Int))[k] vs[k] = true) :
    Calls Tryd.prog 70 #[.slice (some ⟨b, off, none⟩) n c] w fun e w' => e = .returned (.tuple #[insV (rdI (o : Int) vs vs.length).1, .string (rdI (o : Int) vs vs.length).2, .bool true]) ∧ Below w.heap.size w w' := by
  have HO5 := Lib.hid (opd_fields o ho25)
  have hon := opd_length o ho25
  have h4 : 0 ≤ (o : Int) := by omega
  have h5 : (o : Int) < 25 := by omega
  have c0 := hc 0 (by simp)
  rw [List.getElem_cons_zero, Nat.add_zero] at c0
  have hvc : ∀ k (h : k < vs.length), w.cell? ⟨b, off + (k + 1), none⟩ = some (.string vs[k]) := fun k h => by
    have := hc (k + 1) (by simpa using h)
    rwa [List.getElem_cons_succ] at this
  have HVC := Lib.hid hvc
  have c1 := (ho o ho25).2
  have HB0 := Below.alloc (Below.refl w.heap.size w) (Nat.le_refl _) (.cells #[.int .i64 0, .int .i64 0, .int .i64 0, .int .i64 0, .int .i64 0] 51)
  have HON := Lib.hid (fun W (h : OpsTab W) => asm_operationNamed o W h ho25)
  have HOT := Lib.hid ho
  clear hc hvc
  go_enter Tryd.func70, Tryd.ntmps70
  go_upto_region 1 with fail
  have hX0 : (w.alloc (.cells #[.int .i64 0, .int .i64 0, .int .i64 0, .int .i64 0, .int .i64 0] 51)).heap[w.heap.size]? = some (.cells (insCells ⟨0, 0, 0, 0, 0⟩) 51 (0, 0)) := heap_alloc_new w _
  have HBz : Hid (w.heap.size < (w.alloc (.cells #[.int .i64 0, .int .i64 0, .int .i64 0, .int .i64 0, .int .i64 0] 51)).heap.size) := Lib.hid (by simp)
  have C1 := Lib.hid c1
  have c0 := cell_later HB0 c0
  have c1 := cell_later HB0 c1
  have hot := ho.later HB0
  generalize w.alloc (.cells #[.int .i64 0, .int .i64 0, .int .i64 0, .int .i64 0, .int .i64 0] 51) = W0 at *
  have HON := Lib.hid (HON.out W0 hot)
  have x0 : W0.cell? ⟨w.heap.size, 0, none⟩ = some (.int .i64 0) := (Lib.cell_of_heap hX0 0).trans rfl
  have xf := Lib.frozen_of_heap hX0 0
  have hsl : (⟨(opdL (o : Int)).toArray⟩ : ByteArray).size = vs.length := hl.symm
  have g1 : ((n : Int) - 1 != (vs.length : Int)) = false := by rw [bne_eq_false_iff_eq]; omega
  generalize hnb : nameB (o : Int) = nb at *
  generalize hops : (⟨(opdL (o : Int)).toArray⟩ : ByteArray) = ops at *
  have HL := Lib.hid hl
  have HN1 := Lib.hid hn
  have hn3 : vs.length ≤ 3 := by omega
  have hn4 : (n : Int) ≤ 4 := by omega
  have hn5 : 1 ≤ (n : Int) := by omega
  clear hot hl hn hon hnb ho
  go_upto_region 5 with (go_at_call 84; (with_reducible refine HON.out.mono ?_); rintro e W1 ⟨rfl, rfl⟩)
  have hX2 : (W1.setCell ⟨w.heap.size, 0, none⟩ (.int .i64 (o : Int))).heap[w.heap.size]? = some (.cells (insCells (rdI (o : Int) vs 0).1) 51 (0, 0)) := heap_setCell_same W1 w.heap.size 0 (insCells ⟨0, 0, 0, 0, 0⟩) 51 (.int .i64 (o : Int)) hX0
  have hB2 : Below w.heap.size w (W1.setCell ⟨w.heap.size, 0, none⟩ (.int .i64 (o : Int))) := HB0.setCell (p := ⟨w.heap.size, 0, none⟩) (Nat.le_refl _) _
  have hZ2 : (W1.setCell ⟨w.heap.size, 0, none⟩ (.int .i64 (o : Int))).heap.size = W1.heap.size := by simp
  have c1 := cell_later hB2 C1.out
  have HB2s := Lib.hid (show w.heap.size < (W1.setCell ⟨w.heap.size, 0, none⟩ (.int .i64 (o : Int))).heap.size by rw [hZ2]; exact HBz.out)
  clear hX0 HB0 x0 xf c0 HON HBz g1 hZ2
  generalize W1.setCell ⟨w.heap.size, 0, none⟩ (.int .i64 (o : Int)) = W2 at *
  have hIt : (W2.iter ops 0).heap[W2.heap.size]? = some (.stringIter ops 0) := World.iter_heap W2 _ 0
  have hAI : Below W2.heap.size W2 (W2.iter ops 0) := Below.alloc (Below.refl _ _) (Nat.le_refl _) (.stringIter ops 0)
  have hX3 := heap_later hAI hX2
  have hB3 := hB2.trans (hAI.mono hB2.size)
  go_wp2_with fail
  clear c1 hX2 hB2 hAI
  generalize W2.iter ops 0 = W3 at *
  generalize W2.heap.size = I at *
  have HI0 : Hid (w.heap.size < I) := HB2s
  clear HB2s
  go_loopw [3] (fun v wr => ∃ k : Nat, k ≤ vs.length ∧ v = .string (rdI (o : Int) vs k).2 ∧ wr.heap[w.heap.size]? = some (.cells (insCells (rdI (o : Int) vs k).1) 51 (0, 0)) ∧ wr.heap[I]? = some (.stringIter ops k) ∧ Below w.heap.size w wr) (fun _ wx => vs.length - wx.iterPos I)
  case atStart => exact ⟨0, by omega, rfl, hX3, hIt, hB3⟩
  clear hX3 hIt hB3
  obtain ⟨k, hk, rfl, hX, hit, hw⟩ := hrel
  by_cases hlt : k < vs.length
  · have hl := HL.out
    have hk3 : k < (opdL (o : Int)).length := by omega
    have HM := Lib.hid (HO5.out _ (List.getElem_mem hk3))
    have hNX : (Instr.next (.pointer (some ⟨I, 0, none⟩)) true 0).run Tryd.prog wr = .ok (.tuple #[.bool true, .int .i64 k, .int .i32 ((opdL (o : Int))[k].toNat : Int)]) (wr.iterAt I ops (k + 1)) := by
      have h1 := Lib.run_next_ascii_at (P := Tryd.prog) wr I ops k 0 hit (by omega) (by
        have h1 : ops[k]'(by omega) = (opdL (o : Int))[k] := by subst hops; rfl
        rw [h1]
        rcases HM.out with h | h | h | h | h <;> rw [h] <;> decide)
      have h2 : ops[k]'(by omega) = (opdL (o : Int))[k] := by subst hops; rfl
      rw [h2] at h1
      exact h1
    have HIT2 := Lib.hid (Lib.iterAt_heap wr I ops k (k + 1) hit)
    have HIP := Lib.hid (iterPos_of hit)
    have hX2 := (Lib.iterAt_other wr I w.heap.size ops (k + 1) (by have := HI0.out; omega)).trans hX
    have hw2 := Lib.below_iterAt hw (Nat.le_of_lt HI0.out) ops (k + 1)
    have HN := Lib.hid (rdI_next (o : Int) vs hl hk3)
    have hok2 := hok k hlt hk3
    have hsz := hs _ (List.getElem_mem hlt)
    have ck := cell_later hw2 (HVC.out k hlt)
    have i1 : 0 ≤ (k : Int) := by omega
    have i2 : (k : Int) + 1 < (n : Int) := by have := HN1.out; omega
    generalize wr.iterAt I ops (k + 1) = W4 at *
    generalize (opdL (o : Int))[k] = q at *
    generalize vs[k] = v at *
    generalize rdI (o : Int) vs k = y at *
    have HX2 := Lib.hid hX2
    have HW2 := Lib.hid hw2
    have hs4 := hw2.size
    clear hit hX hw hok hs hl hX2 hw2 hops
    by_cases hq : q = 76
    · subst hq
      have e76 : ((76 : UInt8).toNat : Int) = 76 := rfl
      have hlab : labB v = true := hok2
      have HL2 := Lib.hid (asm_isLabel v W4 hsz)
      rw [hlab] at HL2
      rw [rdO_lab] at HN
      simp only [e76] at hNX
      clear hok2 hlab
      go_wp2_with (go_at_call 68; (with_reducible refine HL2.out.mono ?_); rintro e W5 ⟨rfl, hb5⟩)
      have HIT5 := Lib.hid (heap_later hb5 HIT2.out)
      refine ⟨⟨k + 1, by omega, by rw [HN.out], by rw [HN.out]; exact heap_later hb5 HX2.out, HIT5.out, HW2.out.trans (hb5.mono hs4)⟩, ?_⟩
      rw [iterPos_of HIT5.out, HIP.out]
      omega
    · have n1 : ((q.toNat : Int) == 76) = false := by rw [beq_eq_false_iff_ne]; intro h; exact hq (UInt8.toNat_inj.1 (by have : (76 : UInt8).toNat = 76 := rfl; omega))
      have hqc : q = 65 ∨ q = 66 ∨ q = 67 ∨ q = 73 := by
        rcases HM.out with h | h | h | h | h
        · exact .inl h
        · exact .inr (.inl h)
        · exact .inr (.inr (.inl h))
        · exact .inr (.inr (.inr h))
        · exact absurd h hq
      have HQC := Lib.hid hqc
      rw [rdO_num _ _ hq] at HN
      have HF2 := Lib.hid (fun W => asm_field w.heap.size q W)
      have HO2 := Lib.hid (fun W => asm_operandOf q v W hsz)
      rw [opdR_ok hq hok2] at HO2
      generalize opdN q v = z at *
      obtain ⟨u0, hu0⟩ := insCells_at y.1 hqc
      have HU0 := Lib.hid hu0
      have HSC := Lib.hid (setC_cells y.1 z hqc)
      generalize (q.toNat : Int) = qn at *
      clear hok2 hqc hu0 hq HM
      go_upto_region 11 with fail
      go_wp2_with (first
        | (go_at_call 46; (with_reducible refine (HF2.out _).mono ?_); rintro e W5 ⟨rfl, rfl⟩)
        | (go_at_call 85; (with_reducible refine (HO2.out _).mono ?_); rintro e W6 ⟨rfl, hb6⟩; have hX6 := heap_later hb6 HX2.out; have x6 := (Lib.cell_of_heap hX6 (offC q)).trans HU0.out; have f6 := Lib.frozen_of_heap hX6 (offC q)))
      have hX7 := heap_setCell_same W6 w.heap.size (offC q) _ _ (.int .i64 z) hX6
      rw [HSC.out] at hX7
      have hit7 := (heap_setCell_other W6 ⟨w.heap.size, offC q, none⟩ I (.int .i64 z) (by have := HI0.out; show I ≠ w.heap.size; omega)).trans (heap_later hb6 HIT2.out)
      refine ⟨⟨k + 1, by omega, by rw [HN.out], by rw [HN.out]; exact hX7, hit7, (HW2.out.trans (hb6.mono hs4)).setCell (p := ⟨w.heap.size, offC q, none⟩) (Nat.le_refl _) _⟩, ?_⟩
      rw [iterPos_of hit7, HIP.out]
      omega
  · obtain rfl : k = vs.length := by omega
    have hNE : (Instr.next (.pointer (some ⟨I, 0, none⟩)) true 0).run Tryd.prog wr = .ok (.tuple #[.bool false]) wr := Lib.run_next_end_at wr I ops vs.length 0 hit (by omega)
    generalize hy : rdI (o : Int) vs vs.length = y at *
    have HY := Lib.hid hy
    have x0 : wr.cell? ⟨w.heap.size, 0, none⟩ = some (.int .i64 y.1.op) := (Lib.cell_of_heap hX 0).trans rfl
    have x1 : wr.cell? ⟨w.heap.size, 1, none⟩ = some (.int .i64 y.1.a) := (Lib.cell_of_heap hX 1).trans rfl
    have x2 : wr.cell? ⟨w.heap.size, 2, none⟩ = some (.int .i64 y.1.b) := (Lib.cell_of_heap hX 2).trans rfl
    have x3 : wr.cell? ⟨w.heap.size, 3, none⟩ = some (.int .i64 y.1.c) := (Lib.cell_of_heap hX 3).trans rfl
    have x4 : wr.cell? ⟨w.heap.size, 4, none⟩ = some (.int .i64 y.1.imm) := (Lib.cell_of_heap hX 4).trans rfl
    have f0 := Lib.frozen_of_heap hX 0
    have f1 := Lib.frozen_of_heap hX 1
    have f2 := Lib.frozen_of_heap hX 2
    have f3 := Lib.frozen_of_heap hX 3
    have f4 := Lib.frozen_of_heap hX 4
    have hX5 := heap_setCell_same _ _ 4 _ _ (.int .i64 y.1.imm) (heap_setCell_same _ _ 3 _ _ (.int .i64 y.1.c) (heap_setCell_same _ _ 2 _ _ (.int .i64 y.1.b) (heap_setCell_same _ _ 1 _ _ (.int .i64 y.1.a) (heap_setCell_same _ _ 0 _ _ (.int .i64 y.1.op) hX))))
    have HX := Lib.hid hX5
    have hB5 := ((((hw.setCell (p := ⟨w.heap.size, 0, none⟩) (Nat.le_refl _) (.int .i64 y.1.op)).setCell (p := ⟨w.heap.size, 1, none⟩) (Nat.le_refl _) (.int .i64 y.1.a)).setCell (p := ⟨w.heap.size, 2, none⟩) (Nat.le_refl _) (.int .i64 y.1.b)).setCell (p := ⟨w.heap.size, 3, none⟩) (Nat.le_refl _) (.int .i64 y.1.c)).setCell (p := ⟨w.heap.size, 4, none⟩) (Nat.le_refl _) (.int .i64 y.1.imm)
    have HW := Lib.hid hB5
    clear hX hX5 hw hB5 hit hok hs hops hy
    go_wp2
    generalize ((((wr.setCell ⟨w.heap.size, 0, none⟩ (.int .i64 y.1.op)).setCell ⟨w.heap.size, 1, none⟩ (.int .i64 y.1.a)).setCell ⟨w.heap.size, 2, none⟩ (.int .i64 y.1.b)).setCell ⟨w.heap.size, 3, none⟩ (.int .i64 y.1.c)).setCell ⟨w.heap.size, 4, none⟩ (.int .i64 y.1.imm) = WW at *
    have z0 : WW.cell? ⟨w.heap.size, 0, none⟩ = some (.int .i64 y.1.op) := (Lib.cell_of_heap HX.out 0).trans rfl
    have z1 : WW.cell? ⟨w.heap.size, 1, none⟩ = some (.int .i64 y.1.a) := (Lib.cell_of_heap HX.out 1).trans rfl
    have z2 : WW.cell? ⟨w.heap.size, 2, none⟩ = some (.int .i64 y.1.b) := (Lib.cell_of_heap HX.out 2).trans rfl
    have z3 : WW.cell? ⟨w.heap.size, 3, none⟩ = some (.int .i64 y.1.c) := (Lib.cell_of_heap HX.out 3).trans rfl
    have z4 : WW.cell? ⟨w.heap.size, 4, none⟩ = some (.int .i64 y.1.imm) := (Lib.cell_of_heap HX.out 4).trans rfl
    refine bodyPost_ret (v := .tuple #[insV y.1, .string y.2, .bool true]) (by simp [results, Tryd.results70, go_sem, z0, z1, z2, z3, z4, insV]) rfl ⟨by rw [HY.out], HW.out⟩
end Go.Proofs.YthajndgljfbifaaDoor
namespace Go.Proofs.YthajndgljfbifaaDoor
open Go.RowKit Go.Maps
set_option maxRecDepth 100000

/-- A label as a key. -/
def KL (s : ByteArray) : Lit := .string s.data.toList

theorem KL_inj {a b : ByteArray} (h : KL a = KL b) : a = b := by
  unfold KL at h
  injection h with h
  exact bytes_ext h

/-- The map has these labels and no other ones. -/
def LabM (w : World) (b n : Nat) (f : ByteArray → Option Nat) : Prop :=
  ∃ D : DataW Unit, w.ownsMap Tryd.prog 9 (plainElem Tryd.prog 3) b n D ∧ ∀ s, (f s = none → Maps.has D (KL s) = false) ∧ ∀ k, f s = some k → Maps.has D (KL s) = true ∧ ∀ zd, D.atKey (KL s) zd = .lit (.int .i64 (k : Int))

theorem LabM.made (w : World) : LabM (w.alloc (.map #[] 0)) w.heap.size 0 (fun _ => none) :=
  ⟨_, World.ownsMap_made w Tryd.prog 9 (plainElem Tryd.prog 3), fun _ => ⟨fun _ => rfl, fun _ h => by cases h⟩⟩

theorem LabM.kept {w w' : World} {b n : Nat} {f : ByteArray → Option Nat} {r : Option Nat} (h : LabM w b n f) (hg : w.grownBy w' r) (hne : some b ≠ r) : LabM w' b n f := by
  obtain ⟨D, h1, h2⟩ := h
  exact ⟨D, h1.kept hg hne, h2⟩

theorem LabM.later {w w' : World} {b n : Nat} {f : ByteArray → Option Nat} (h : LabM w b n f) (hb : Below w.heap.size w w') : LabM w' b n f := h.kept (grownBy_below hb rfl none) (by simp)

theorem LabM.heap {w : World} {b n : Nat} {f : ByteArray → Option Nat} (h : LabM w b n f) : ∃ es c, w.heap[b]? = some (.map es c) := by
  obtain ⟨D, ⟨es, c, hb, _⟩, _⟩ := h
  exact ⟨es, c, hb⟩

theorem zero_int7 (w : World) : (zeroValue 3).run Tryd.prog w = .ok (.int .i64 0) w := by
  obtain ⟨i0, hi, hz0, _, _⟩ := info_parts info_int7
  simp [zeroValue, typeInfo, hi, hz0]

theorem key_str (s : ByteArray) (hs : s.size ≤ 1000000) : Go.keyOf Tryd.prog 9 (.string s) = some (KL s) :=
  WideMaps.keyOf_string_mk Tryd.underlying9 (by unfold maxLen; omega)

theorem elem_int7 (k : Nat) (hk : k < 1000) : plainElem (H := Unit) Tryd.prog 3 (.int .i64 (k : Int)) = some (.lit (.int .i64 (k : Int)), []) :=
  plainElem_int Tryd.underlying3 (by simp [Lit.wf, IntKind.min, IntKind.max, IntKind.signed, IntKind.bits]; omega)

theorem LabM.look {w : World} {b n : Nat} {f : ByteArray → Option Nat} (h : LabM w b n f) (s : ByteArray) (hs : s.size ≤ 1000000) :
    (Instr.lookup 74 (.map (some b)) (.string s) true).run Tryd.prog w = .ok (.tuple #[.int .i64 (((f s).getD 0 : Nat) : Int), .bool (f s).isSome]) w := by
  obtain ⟨D, h1, h2⟩ := h
  obtain ⟨v, ps, hrun, hv⟩ := h1.look_ok (Maps.string_keyed Tryd.underlying9) Tryd.underlying74 (zero_int7 w) (elem_int7 0 (by omega)) (key_str s hs)
  cases hf : f s with
  | none =>
    have h3 := (h2 s).1 hf
    rw [Maps.atKey_of_not_has h3] at hv
    obtain ⟨a, rfl, he, _⟩ := plainElem_int_inv Tryd.underlying3 hv
    simp only [Prod.mk.injEq, DataW.lit.injEq, Lit.int.injEq, true_and] at he
    rw [h3, ← he.1] at hrun
    exact hrun
  | some k =>
    obtain ⟨h3, h4⟩ := (h2 s).2 k hf
    rw [h4] at hv
    obtain ⟨a, rfl, he, _⟩ := plainElem_int_inv Tryd.underlying3 hv
    simp only [Prod.mk.injEq, DataW.lit.injEq, Lit.int.injEq, true_and] at he
    rw [h3, ← he.1] at hrun
    exact hrun

/-- One label more. -/
def addL (f : ByteArray → Option Nat) (s : ByteArray) (k : Nat) : ByteArray → Option Nat := fun q => if q = s then some k else f q

theorem LabM.put {w : World} {b n : Nat} {f : ByteArray → Option Nat} (h : LabM w b n f) (hn : n < 100000) (s : ByteArray) (hs : s.size ≤ 1000000) (k : Nat) (hk : k < 1000) :
    ∃ w', (Instr.mapUpdate 74 (.map (some b)) (.string s) (.int .i64 (k : Int))).run Tryd.prog w = .ok () w' ∧ LabM w' b (n + 1) (addL f s k) ∧ w.grownBy w' (some b) := by
  obtain ⟨D, h1, h2⟩ := h
  obtain ⟨w', hrun, h3, hg⟩ := h1.update (Maps.string_keyed Tryd.underlying9) Tryd.underlying74 (by unfold maxLen; omega) (key_str s hs) (elem_int7 k hk)
  refine ⟨w', hrun, ⟨_, h3, fun q => ?_⟩, hg⟩
  unfold addL
  by_cases e : q = s
  · subst e
    rw [if_pos rfl]
    refine ⟨fun h => (by cases h), fun j hj => ?_⟩
    obtain rfl : k = j := by simpa using hj
    have hkl : WideAt.IsKeyLit (KL q) := by unfold KL; trivial
    exact ⟨Maps.has_put_same h1.isMap hkl _, fun zd => Maps.atKey_put_same h1.isMap hkl _ _⟩
  · rw [if_neg e]
    have hne : KL q ≠ KL s := fun h => e (KL_inj h)
    rw [Maps.has_put_other hne]
    exact ⟨(h2 q).1, fun j hj => ⟨((h2 q).2 j hj).1, fun zd => by rw [Maps.atKey_put_other hne]; exact ((h2 q).2 j hj).2 zd⟩⟩

theorem LabM.len0 {w : World} {b : Nat} {f : ByteArray → Option Nat} (h : LabM w b 0 f) (ty : TypeId) : (Builtin.len_ #[74] ty #[.map (some b)]).run Tryd.prog w = .ok (.int .i64 0) w := by
  obtain ⟨D, h1, _⟩ := h
  have h3 := h1.len Tryd.underlying74 ty
  have h4 := h1.size_le
  rw [show Maps.size D = 0 by omega] at h3
  exact h3
end Go.Proofs.YthajndgljfbifaaDoor
namespace Go.Proofs.YthajndgljfbifaaDoor
open Go.RowKit
set_option maxRecDepth 100000

theorem grown_set7 (w : World) (b i : Nat) (v : Value) : w.grownBy (w.setCell ⟨b, i, none⟩ v) (some b) :=
  ⟨rfl, rfl, rfl, by simp [World.setCell], fun k _ hk => heap_setCell_other w ⟨b, i, none⟩ k v (fun e => hk (by rw [e]))⟩

theorem own_heap {w : World} {base : Nat} {e : TypeId} {size : Nat} {v : Value} {n : Nat} {xs : List Value} (h : w.ownsRow base e size v n xs) {g : Nat} (hg : v.ownBlock = some g) : ∃ cur, w.heap[g]? = some (.cells cur e (0, 0)) := by
  rcases h.2 with ⟨rfl, _⟩ | ⟨g', cap, cur, rfl, _, hh, _⟩
  · simp [Value.ownBlock] at hg
  · have : g' = g := by simpa [Value.ownBlock] using hg
    subst this
    exact ⟨cur, hh⟩

/-- Rows of different types are apart. -/
theorem own_apart {w : World} {b1 b2 : Nat} {e1 e2 : TypeId} {s1 s2 : Nat} {v1 v2 : Value} {n1 n2 : Nat} {x1 x2 : List Value} (h1 : w.ownsRow b1 e1 s1 v1 n1 x1) (h2 : w.ownsRow b2 e2 s2 v2 n2 x2) (hne : e1 ≠ e2) : v1.ownBlock = none ∨ v1.ownBlock ≠ v2.ownBlock := by
  cases hv : v1.ownBlock with
  | none => exact .inl rfl
  | some g =>
    refine .inr fun he => ?_
    obtain ⟨c1, k1⟩ := own_heap h1 hv
    obtain ⟨c2, k2⟩ := own_heap h2 he.symm
    rw [k1] at k2
    simp only [Option.some.injEq, Obj.cells.injEq] at k2
    exact hne k2.2.1

/-- A block of another type is no row of it. -/
theorem own_not {w : World} {base : Nat} {e t : TypeId} {size : Nat} {v : Value} {n : Nat} {xs : List Value} (h : w.ownsRow base e size v n xs) {g : Nat} {cs : Array Value} (hg : w.heap[g]? = some (.cells cs t (0, 0))) (hne : t ≠ e) : v.ownBlock ≠ some g := by
  intro hv
  obtain ⟨c1, k1⟩ := own_heap h hv
  rw [hg] at k1
  simp only [Option.some.injEq, Obj.cells.injEq] at k1
  exact hne k1.2.1

theorem own_notmap {w : World} {base : Nat} {e : TypeId} {size : Nat} {v : Value} {n : Nat} {xs : List Value} (h : w.ownsRow base e size v n xs) {g : Nat} {es : Array MapEntry} {c : Nat} (hg : w.heap[g]? = some (.map es c)) : v.ownBlock ≠ some g := by
  intro hv
  obtain ⟨c1, k1⟩ := own_heap h hv
  rw [hg] at k1
  cases k1

theorem own_set {w : World} {base : Nat} {e t : TypeId} {size : Nat} {v : Value} {n : Nat} {xs : List Value} (h : w.ownsRow base e size v n xs) {g : Nat} {cs : Array Value} (hg : w.heap[g]? = some (.cells cs t (0, 0))) (hne : t ≠ e) (i : Nat) (u : Value) : (w.setCell ⟨g, i, none⟩ u).ownsRow base e size v n xs :=
  h.kept (grown_set7 w g i u) (.inr (own_not h hg hne))

def codeCells (C : List Ins) : List Value := C.flatMap fun x => (insCells x).toList
def juCells (J : List (Nat × Nat × ByteArray)) : List Value := J.flatMap fun j => [.int .i64 (j.1 : Int), .int .i64 (j.2.1 : Int), .string j.2.2]
def szCells (S : List Nat) : List Value := S.map fun n : Nat => .int .i64 (n : Int)

/-- The data of the regions. -/
def DatL (w : World) (L : List (List Nat)) (cs : List Value) : Prop :=
  ∀ i (h : i < L.length), ∃ (g : Nat) (cur : Array Value), cs[i]? = some (.slice (some ⟨g, 0, none⟩) L[i].length L[i].length) ∧ w.heap[g]? = some (.cells cur 81 (0, 0)) ∧ ∀ j (h2 : j < L[i].length), cur[j]? = some (.int .u16 (L[i][j] : Int))

theorem DatL.keep {w w' : World} {L : List (List Nat)} {cs : List Value} (h : DatL w L cs) (hk : ∀ (g : Nat) (cur : Array Value), w.heap[g]? = some (.cells cur 81 (0, 0)) → w'.heap[g]? = some (.cells cur 81 (0, 0))) : DatL w' L cs := by
  intro i hi
  obtain ⟨g, cur, h1, h2, h3⟩ := h i hi
  exact ⟨g, cur, h1, hk g cur h2, h3⟩

/-- What has been read: behind the pointer to block b. -/
structure RdAt (w : World) (B b mb nl : Nat) (f : ByteArray → Option Nat) (C : List Ins) (S : List Nat) (L : List (List Nat)) (J : List (Nat × Nat × ByteArray)) (vc vs vd vj : Value) : Prop where
  hb : B ≤ b
  hm : B ≤ mb
  box : w.heap[b]? = some (.cells #[vc, vs, vd, .map (some mb), vj] 77 (0, 0))
  code : w.ownsRow B 51 5 vc C.length (codeCells C)
  sizes : w.ownsRow B 3 1 vs S.length (szCells S)
  data : ∃ cs, w.ownsRow B 46 1 vd L.length cs ∧ DatL w L cs
  jumps : w.ownsRow B 103 3 vj J.length (juCells J)
  map : LabM w mb nl f

section
variable {w w' : World} {B b mb nl : Nat} {f : ByteArray → Option Nat} {C : List Ins} {S : List Nat} {L : List (List Nat)} {J : List (Nat × Nat × ByteArray)} {vc vs vd vj : Value}

theorem RdAt.later (h : RdAt w B b mb nl f C S L J vc vs vd vj) (hb : Below w.heap.size w w') : RdAt w' B b mb nl f C S L J vc vs vd vj := by
  obtain ⟨cs, d1, d2⟩ := h.data
  exact ⟨h.hb, h.hm, heap_later hb h.box, own_later7 h.code hb, own_later7 h.sizes hb, ⟨cs, own_later7 d1 hb, d2.keep fun g cur hg => heap_later hb hg⟩, own_later7 h.jumps hb, h.map.later hb⟩

/-- A row of bytes below the box's type is kept by what grows a row of another type. -/
theorem heap_grown {w w' : World} {base : Nat} {e t : TypeId} {size : Nat} {v : Value} {n : Nat} {xs : List Value} (h : w.ownsRow base e size v n xs) (hg : w.grownBy w' v.ownBlock) {g : Nat} {cs : Array Value} (hh : w.heap[g]? = some (.cells cs t (0, 0))) (hne : t ≠ e) : w'.heap[g]? = some (.cells cs t (0, 0)) :=
  (hg.block g (Array.getElem?_eq_some_iff.1 hh).1 (fun e1 => own_not h hh hne e1.symm)).trans hh

theorem heap_set {w : World} {b g : Nat} {cs cb : Array Value} {t tb : TypeId} (hb : w.heap[b]? = some (.cells cb tb (0, 0))) (hh : w.heap[g]? = some (.cells cs t (0, 0))) (hne : t ≠ tb) (i : Nat) (u : Value) : (w.setCell ⟨b, i, none⟩ u).heap[g]? = some (.cells cs t (0, 0)) :=
  (heap_setCell_other w ⟨b, i, none⟩ g u (fun e => by
    have e2 : g = b := e
    rw [e2, hb] at hh
    simp only [Option.some.injEq, Obj.cells.injEq] at hh
    exact hne hh.2.1.symm)).trans hh

theorem RdAt.grow_code (h : RdAt w B b mb nl f C S L J vc vs vd vj) {C' : List Ins} {v' : Value} (hg : w.grownBy w' vc.ownBlock) (ho : w'.ownsRow B 51 5 v' C'.length (codeCells C')) : RdAt (w'.setCell ⟨b, 0, none⟩ v') B b mb nl f C' S L J v' vs vd vj := by
  obtain ⟨cs, d1, d2⟩ := h.data
  have hbx := heap_grown h.code hg h.box (by decide)
  obtain ⟨es, c, hmh⟩ := h.map.heap
  refine ⟨h.hb, h.hm, heap_setCell_same _ b 0 _ _ v' hbx, own_set ho hbx (by decide) _ _, own_set (h.sizes.kept hg (own_apart h.sizes h.code (by decide))) hbx (by decide) _ _, ⟨cs, own_set (d1.kept hg (own_apart d1 h.code (by decide))) hbx (by decide) _ _, ?_⟩, own_set (h.jumps.kept hg (own_apart h.jumps h.code (by decide))) hbx (by decide) _ _, ?_⟩
  · exact d2.keep fun g cur hh => heap_set hbx (heap_grown h.code hg hh (by decide)) (by decide) _ _
  · refine (h.map.kept hg (fun e1 => own_notmap h.code hmh e1.symm)).kept (grown_set7 _ b 0 v') (fun e1 => ?_)
    have e2 : mb = b := Option.some.inj e1
    rw [e2, h.box] at hmh
    cases hmh

theorem RdAt.grow_sizes (h : RdAt w B b mb nl f C S L J vc vs vd vj) {S' : List Nat} {v' : Value} (hg : w.grownBy w' vs.ownBlock) (ho : w'.ownsRow B 3 1 v' S'.length (szCells S')) : RdAt (w'.setCell ⟨b, 1, none⟩ v') B b mb nl f C S' L J vc v' vd vj := by
  obtain ⟨cs, d1, d2⟩ := h.data
  have hbx := heap_grown h.sizes hg h.box (by decide)
  obtain ⟨es, c, hmh⟩ := h.map.heap
  refine ⟨h.hb, h.hm, heap_setCell_same _ b 1 _ _ v' hbx, own_set (h.code.kept hg (own_apart h.code h.sizes (by decide))) hbx (by decide) _ _, own_set ho hbx (by decide) _ _, ⟨cs, own_set (d1.kept hg (own_apart d1 h.sizes (by decide))) hbx (by decide) _ _, ?_⟩, own_set (h.jumps.kept hg (own_apart h.jumps h.sizes (by decide))) hbx (by decide) _ _, ?_⟩
  · exact d2.keep fun g cur hh => heap_set hbx (heap_grown h.sizes hg hh (by decide)) (by decide) _ _
  · refine (h.map.kept hg (fun e1 => own_notmap h.sizes hmh e1.symm)).kept (grown_set7 _ b 1 v') (fun e1 => ?_)
    have e2 : mb = b := Option.some.inj e1
    rw [e2, h.box] at hmh
    cases hmh

theorem RdAt.grow_data (h : RdAt w B b mb nl f C S L J vc vs vd vj) {cs : List Value} (d1 : w.ownsRow B 46 1 vd L.length cs) {L' : List (List Nat)} {v' : Value} {cs' : List Value} (hg : w.grownBy w' vd.ownBlock) (ho : w'.ownsRow B 46 1 v' L'.length cs') (hd : DatL w L' cs') : RdAt (w'.setCell ⟨b, 2, none⟩ v') B b mb nl f C S L' J vc vs v' vj := by
  have hbx := heap_grown d1 hg h.box (by decide)
  obtain ⟨es, c, hmh⟩ := h.map.heap
  refine ⟨h.hb, h.hm, heap_setCell_same _ b 2 _ _ v' hbx, own_set (h.code.kept hg (own_apart h.code d1 (by decide))) hbx (by decide) _ _, own_set (h.sizes.kept hg (own_apart h.sizes d1 (by decide))) hbx (by decide) _ _, ⟨cs', own_set ho hbx (by decide) _ _, ?_⟩, own_set (h.jumps.kept hg (own_apart h.jumps d1 (by decide))) hbx (by decide) _ _, ?_⟩
  · exact hd.keep fun g cur hh => heap_set hbx (heap_grown d1 hg hh (by decide)) (by decide) _ _
  · refine (h.map.kept hg (fun e1 => own_notmap d1 hmh e1.symm)).kept (grown_set7 _ b 2 v') (fun e1 => ?_)
    have e2 : mb = b := Option.some.inj e1
    rw [e2, h.box] at hmh
    cases hmh

theorem RdAt.grow_jumps (h : RdAt w B b mb nl f C S L J vc vs vd vj) {J' : List (Nat × Nat × ByteArray)} {v' : Value} (hg : w.grownBy w' vj.ownBlock) (ho : w'.ownsRow B 103 3 v' J'.length (juCells J')) : RdAt (w'.setCell ⟨b, 4, none⟩ v') B b mb nl f C S L J' vc vs vd v' := by
  obtain ⟨cs, d1, d2⟩ := h.data
  have hbx := heap_grown h.jumps hg h.box (by decide)
  obtain ⟨es, c, hmh⟩ := h.map.heap
  refine ⟨h.hb, h.hm, heap_setCell_same _ b 4 _ _ v' hbx, own_set (h.code.kept hg (own_apart h.code h.jumps (by decide))) hbx (by decide) _ _, own_set (h.sizes.kept hg (own_apart h.sizes h.jumps (by decide))) hbx (by decide) _ _, ⟨cs, own_set (d1.kept hg (own_apart d1 h.jumps (by decide))) hbx (by decide) _ _, ?_⟩, own_set ho hbx (by decide) _ _, ?_⟩
  · exact d2.keep fun g cur hh => heap_set hbx (heap_grown h.jumps hg hh (by decide)) (by decide) _ _
  · refine (h.map.kept hg (fun e1 => own_notmap h.jumps hmh e1.symm)).kept (grown_set7 _ b 4 v') (fun e1 => ?_)
    have e2 : mb = b := Option.some.inj e1
    rw [e2, h.box] at hmh
    cases hmh

/-- One label more. -/
theorem RdAt.label (h : RdAt w B b mb nl f C S L J vc vs vd vj) {f' : ByteArray → Option Nat} {nl' : Nat} (hg : w.grownBy w' (some mb)) (hm : LabM w' mb nl' f') : RdAt w' B b mb nl' f' C S L J vc vs vd vj := by
  obtain ⟨cs, d1, d2⟩ := h.data
  obtain ⟨es, c, hmh⟩ := h.map.heap
  have key : ∀ (g : Nat) (cs : Array Value) (t : TypeId), w.heap[g]? = some (.cells cs t (0, 0)) → w'.heap[g]? = some (.cells cs t (0, 0)) := fun g cs t hh =>
    (hg.block g (Array.getElem?_eq_some_iff.1 hh).1 (fun e1 => by
      have e2 : g = mb := Option.some.inj e1
      rw [e2, hmh] at hh
      cases hh)).trans hh
  exact ⟨h.hb, h.hm, key _ _ _ h.box, h.code.kept hg (.inr (own_notmap h.code hmh)), h.sizes.kept hg (.inr (own_notmap h.sizes hmh)), ⟨cs, d1.kept hg (.inr (own_notmap d1 hmh)), d2.keep fun g cur hh => key _ _ _ hh⟩, h.jumps.kept hg (.inr (own_notmap h.jumps hmh)), hm⟩

/-- The box's cells. -/
theorem RdAt.cells (h : RdAt w B b mb nl f C S L J vc vs vd vj) : w.cell? ⟨b, 0, none⟩ = some vc ∧ w.cell? ⟨b, 1, none⟩ = some vs ∧ w.cell? ⟨b, 2, none⟩ = some vd ∧ w.cell? ⟨b, 3, none⟩ = some (.map (some mb)) ∧ w.cell? ⟨b, 4, none⟩ = some vj ∧ ∀ i, w.frozen? ⟨b, i, none⟩ = false :=
  ⟨(Lib.cell_of_heap h.box 0).trans rfl, (Lib.cell_of_heap h.box 1).trans rfl, (Lib.cell_of_heap h.box 2).trans rfl, (Lib.cell_of_heap h.box 3).trans rfl, (Lib.cell_of_heap h.box 4).trans rfl, fun i => Lib.frozen_of_heap h.box i⟩

theorem own_form0 {w : World} {base : Nat} {e : TypeId} {size : Nat} {v : Value} {n : Nat} {xs : List Value} (h : w.ownsRow base e size v n xs) : ∃ a cap, v = .slice a n cap := by
  rcases h.2 with ⟨rfl, rfl⟩ | ⟨g', cap, cur, rfl, _⟩
  · exact ⟨_, _, rfl⟩
  · exact ⟨_, _, rfl⟩
end
end Go.Proofs.YthajndgljfbifaaDoor
namespace Go.Proofs.YthajndgljfbifaaDoor
open Go.RowKit
set_option maxRecDepth 100000

/-- What has been read lies behind the pointer to block b. -/
def Reads (w : World) (B b mb nl : Nat) (f : ByteArray → Option Nat) (C : List Ins) (S : List Nat) (L : List (List Nat)) (J : List (Nat × Nat × ByteArray)) : Prop :=
  ∃ vc vs vd vj, RdAt w B b mb nl f C S L J vc vs vd vj

set_option maxHeartbeats 1000000 in
theorem asm_addLabel (B b mb nl : Nat) (f : ByteArray → Option Nat) (C : List Ins) (S : List Nat) (L : List (List Nat)) (J : List (Nat × Nat × ByteArray)) (s : ByteArray) (w : World) (h : Reads w B b mb nl f C S L J) (hBw : B ≤ w.heap.size) (hs : s.size ≤ 1000000) (hl : labB s = true) (hf : f s = none) (hnl : nl < 100000) (hC : C.length < 1000) :
    Calls Tryd.prog 53 #[.pointer (some ⟨b, 0, none⟩), .string s] w fun e w' => e = .returned (.int .i64 0) ∧ Reads w' B b mb (nl + 1) (addL f s C.length) C S L J ∧ Below B w w' := by
  obtain ⟨vc, vs, vd, vj, h⟩ := h
  obtain ⟨ac, cc, rfl⟩ := own_form0 h.code
  have hlk := h.map.look s hs
  rw [hf] at hlk
  obtain ⟨p0, p1, p2, p3, p4, _⟩ := h.cells
  have HI := Lib.hid (asm_isLabel s w hs)
  rw [hl] at HI
  have H := Lib.hid h
  clear h hl hf
  go_enter Tryd.func53, Tryd.ntmps53
  go_upto_region 4 with (go_at_call 68; (with_reducible refine HI.out.mono ?_); rintro e w1 ⟨rfl, hb1⟩)
  have h1 := H.out.later hb1
  have hdr : Below w1.heap.size w1 w1.drew := Below.drew (Below.refl _ _)
  have h2 := h1.later hdr
  obtain ⟨w2, hput, hm2, hg2⟩ := h2.map.put hnl s hs C.length hC
  have h3 := Lib.hid (h2.label hg2 hm2)
  have HB := Lib.hid (((hb1.mono hBw).trans (hdr.mono (Nat.le_trans hBw hb1.size))).grown hg2 (Nat.le_trans hBw hb1.size) (fun k hk => by cases hk; exact h1.hm))
  obtain ⟨p0, p1, p2, p3, p4, _⟩ := h1.cells
  clear hm2 hg2 h1 h2 hdr hb1 hlk
  go_region
  all_goals (go_wp2; go_ret; exact ⟨rfl, ⟨_, _, _, _, h3.out⟩, HB.out⟩)

theorem info_words7 : (Tryd.prog.info? 46).map (fun i => (i.zero, i.size, i.bytes)) = some (some (.slice none 0 0), 1, 24) := by kernel_rfl
theorem info_u167 : (Tryd.prog.info? 81).map (fun i => (i.zero, i.size, i.bytes)) = some (some (.int .u16 0), 1, 2) := by kernel_rfl

def valsTo (vs : List Nat) (k : Nat) : List Value := (vs.take k).map (fun v : Nat => Value.int .u16 (v : Int)) ++ List.replicate (vs.length - k) (.int .u16 0)

theorem valsTo_set (vs : List Nat) {k : Nat} (h : k < vs.length) : (valsTo vs k).set k (.int .u16 (vs[k] : Int)) = valsTo vs (k + 1) := by
  unfold valsTo
  have hl : ((vs.take k).map (fun v : Nat => Value.int .u16 (v : Int))).length = k := by simp; omega
  rw [List.set_append_right _ _ (by omega), hl, Nat.sub_self, show vs.length - k = (vs.length - (k + 1)) + 1 by omega, List.replicate_succ, List.set_cons_zero, List.take_succ_eq_append_getElem h]
  simp only [List.map_append, List.map_cons, List.map_nil, List.append_assoc, List.cons_append, List.nil_append]

theorem valsTo_zero (vs : List Nat) : (madeCells #[Value.int .u16 0] vs.length).toList = valsTo vs 0 := by
  have h := made_rows [.int .u16 0] vs.length
  rw [List.length_singleton, Nat.mul_one] at h
  rw [h]
  unfold valsTo
  simp [List.flatten_replicate_singleton]

theorem DatL.snoc {w : World} {L : List (List Nat)} {cs : List Value} (h : DatL w L cs) (hl : cs.length = L.length) {vs : List Nat} {g : Nat} {cur : Array Value} (hg : w.heap[g]? = some (.cells cur 81 (0, 0))) (hc : ∀ j (h2 : j < vs.length), cur[j]? = some (.int .u16 (vs[j] : Int))) : DatL w (L ++ [vs]) (cs ++ [.slice (some ⟨g, 0, none⟩) vs.length vs.length]) := by
  intro i hi
  by_cases e : i < L.length
  · obtain ⟨g', cur', h1, h2, h3⟩ := h i e
    refine ⟨g', cur', ?_, h2, ?_⟩
    · rw [List.getElem?_append_left (by omega), h1]
      simp [List.getElem_append_left e]
    · intro j hj
      have e1 : (L ++ [vs])[i] = L[i] := List.getElem_append_left e
      simp only [e1] at hj ⊢
      exact h3 j hj
  · have e2 : i = L.length := by simp at hi; omega
    subst e2
    have e1 : (L ++ [vs])[L.length]'hi = vs := by simp
    refine ⟨g, cur, ?_, hg, ?_⟩
    · rw [List.getElem?_append_right (by omega), hl, Nat.sub_self, e1]
      rfl
    · intro j hj
      simp only [e1] at hj ⊢
      exact hc j hj

set_option maxHeartbeats 4000000 in
theorem asm_addRegion (B b mb : Nat) (f : ByteArray → Option Nat) (S : List Nat) (L : List (List Nat)) (J : List (Nat × Nat × ByteArray)) (wb woff : Nat) (ws : List ByteArray) (n nw cw : Nat) (vs : List Nat) (w : World) (h : Reads w B b mb 0 f [] S L J) (hBw : B ≤ w.heap.size) (hc : StrsAt w wb woff ws) (hs : ∀ x ∈ ws, x.size ≤ 1000000)
    (hok : ∀ x ∈ ws, numOk x = true) (hnw : nw = ws.length) (hlen : ws.length = vs.length + 1) (hn0 : ∀ (h : 0 < ws.length), numV ws[0] = (n : Int)) (hvs : ∀ k (h : k < vs.length) (h2 : k + 1 < ws.length), numV ws[k + 1] = (vs[k] : Int)) (hS : S.length < 4) (hn1 : 1 ≤ n) (hn2 : n ≤ 32) (hvl : vs.length ≤ n) (hv6 : ∀ v ∈ vs, v < 65536) (hL : L.length ≤ 4) :
    Calls Tryd.prog 54 #[.pointer (some ⟨b, 0, none⟩), .slice (some ⟨wb, woff, none⟩) nw cw] w fun e w' => e = .returned (.int .i64 0) ∧ Reads w' B b mb 0 f [] (S ++ [n]) (L ++ [vs]) J ∧ Below B w w' := by
  obtain ⟨vc, vss, vd, vj, h⟩ := h
  obtain ⟨ac, cc, rfl⟩ := own_form0 h.code
  obtain ⟨a2, c2, rfl⟩ := own_form0 h.sizes
  subst hnw
  have HN := Lib.hid (asm_numbersOf wb woff ws cw w hc (by omega) hs hok)
  obtain ⟨p0, p1, p2, p3, p4, _⟩ := h.cells
  have H := Lib.hid h
  have g1 : ((ws.length : Int) == 0) = false := by rw [beq_eq_false_iff_ne]; omega
  have HLEN := Lib.hid hlen
  have hwl : ws.length ≤ 33 := by omega
  have hwl0 : 0 < ws.length := by omega
  clear h hc hs hok hlen
  go_enter Tryd.func54, Tryd.ntmps54
  go_upto_region 2 with (go_at_call 69; (with_reducible refine HN.out.mono ?_); rintro e w1 ⟨rfl, hcl, hb1⟩)
  have h1 := H.out.later hb1
  obtain ⟨p0, p1, p2, p3, p4, _⟩ := h1.cells
  have hlen0 := h1.map.len0 3
  go_upto_region 4 with fail
  have c0 := hcl 0 hwl0
  rw [hn0 hwl0] at c0
  have hl1 : vs.length ≤ 32 := by omega
  have HCL := Lib.hid (fun k (h : k < vs.length) => by
    have h2 := HLEN.out
    have h3 := hcl (k + 1) (by omega)
    rw [hvs k h (by omega)] at h3
    exact h3)
  clear hcl hn0 hvs hlen0 HN
  go_cut [7, 8, 1, 5, 12, 13, 14, 15, 20, 21] (fun v7 v8 _ _ _ _ _ _ _ _ wx => v7 = .int .i64 (n : Int) ∧ (∃ ad cap, v8 = .slice ad vs.length cap ∧ (vs.length = 0 ∨ ad = some ⟨w.heap.size, 1, none⟩)) ∧ Below w1.heap.size w1 wx)
  case first =>
    by_cases hv0 : vs.length = 0
    · have hw1 : ws.length = 1 := by have := HLEN.out; omega
      have HV0 := Lib.hid hv0
      rw [hw1]
      go_region
      all_goals (go_wp2_with fail; go_meet; exact ⟨rfl, ⟨_, 0, by rw [HV0.out], .inl HV0.out⟩, Below.drew (Below.refl _ _)⟩)
    · have hw1 : ¬ (ws.length = 1) := by have := HLEN.out; omega
      have e2 : ws.length - 1 = vs.length := by have := HLEN.out; omega
      have hw2 : (1 : Int) ≤ (ws.length : Int) := by omega
      go_region
      all_goals (go_wp2_with fail; go_meet; exact ⟨rfl, ⟨_, _, rfl, .inr rfl⟩, Below.drew (Below.refl _ _)⟩)
  case rest =>
    obtain ⟨rfl, ⟨ad, cap, rfl, had⟩, hwc⟩ := hcut
    have h2 := h1.later hwc
    obtain ⟨p0, p1, p2, p3, p4, _⟩ := h2.cells
    have g2 : ((S.length : Int) == 4) = false := by rw [beq_eq_false_iff_ne]; omega
    have g3 : ¬ (n : Int) < 1 := by omega
    have g4 : ¬ 32 < (n : Int) := by omega
    have g5 : ¬ (n : Int) < (vs.length : Int) := by omega
    have HB2 := Lib.hid ((hb1.mono hBw).trans (hwc.mono (Nat.le_trans hBw hb1.size)))
    have hBc : B ≤ wc.heap.size := Nat.le_trans hBw HB2.out.size
    have hgc : w.heap.size < w1.heap.size ∨ vs.length = 0 := by
      by_cases e : vs.length = 0
      · exact .inr e
      · exact .inl (World.block_lt_of_cell? _ _ c0)
    have HC2 := Lib.hid (fun k (h : k < vs.length) => cell_later hwc (HCL.out k h))
    have H2 := Lib.hid h2
    have HAD := Lib.hid had
    obtain ⟨i0, hi, hz0, hz1, hz2⟩ := info_parts info_u167
    clear hb1 hwc h1 h2 HCL c0 had
    go_upto_region 8 with (first
      | (at_make; refine wpList_make_full _ rfl _ _ 46 rfl wc.heap.size 81 i0 (.int .u16 0) 1 Tryd.underlying46 hi hz0 hz1 .i64 .i64 _ _ vs.length rfl rfl rfl rfl ?m1 ?m2 ?m3 ?_))
    case m1 => first | (rw [hz2]; omega) | omega
    case m2 => unfold maxLen; omega
    intro W3 hown hg3
    rw [valsTo_zero] at hown
    have hb3 : Below wc.heap.size wc W3 := (Below.refl _ _).grown hg3 (Nat.le_refl _) (fun k hk => by cases hk)
    clear hg3 p0 p1 p2 p3 p4 g2 g3 g4 g5
    go_wp2_with fail
    go_loopw [72] (fun c wr => ∃ j : Nat, j ≤ vs.length ∧ c = .int .i64 j ∧ wr.ownsRow wc.heap.size 81 1 (.slice (some ⟨wc.heap.size, 0, none⟩) vs.length vs.length) vs.length (valsTo vs j) ∧ Below wc.heap.size wc wr) (fun c _ => vs.length - (intOf c).toNat)
    case atStart => exact ⟨0, by omega, rfl, hown, hb3⟩
    clear hown hb3
    obtain ⟨j, hj, rfl, hown, hw⟩ := hrel
    by_cases hlt : j < vs.length
    · obtain rfl : ad = some ⟨w.heap.size, 1, none⟩ := by
        rcases HAD.out with e | e
        · omega
        · exact e
      have c0 := cell_later hw (HC2.out j hlt)
      rw [Nat.add_comm j 1] at c0
      have hv := hv6 _ (List.getElem_mem hlt)
      have i1 : (j : Int) < (vs.length : Int) := by omega
      have i2 : 0 ≤ (j : Int) := by omega
      have HST := Lib.hid (valsTo_set vs hlt)
      generalize vs[j] = v at *
      have k1 : (v : Int) < 65536 := by omega
      have k2 : ¬ 65535 < (v : Int) := by omega
      have k3 : 0 ≤ (v : Int) := by omega
      obtain ⟨u0, hu0⟩ : ∃ u, (valsTo vs j)[j]? = some u := ⟨_, List.getElem?_eq_getElem (by unfold valsTo; simp; omega)⟩
      have d0 := (hown.cellAt j (by omega)).trans hu0
      have fr := hown.frozenAt j
      have hst := hown.stored j (.int .u16 (v : Int))
      rw [HST.out] at hst
      have HO2 := Lib.hid hst.1
      have HB6 : Hid (Below wc.heap.size wc (wr.setCell ⟨wc.heap.size, j, none⟩ (.int .u16 (v : Int)))) := Lib.hid (hw.grown hst.2 hw.size (fun k hk => by cases hk; exact Nat.le_refl _))
      clear hst hown HST hw hv hu0 HC2 hv6
      go_wp2_with fail
      refine ⟨⟨j + 1, by omega, by go_num, HO2.out, HB6.out⟩, ?_⟩
      simp [intOf]
      omega
    · obtain rfl : j = vs.length := by omega
      have h3 := H2.out.later hw
      obtain ⟨cur, hcur, hcv⟩ : ∃ cur, wr.heap[wc.heap.size]? = some (.cells cur 81 (0, 0)) ∧ ∀ j (h2 : j < vs.length), cur[j]? = some (.int .u16 (vs[j] : Int)) := by
        rcases hown.2 with ⟨h', _⟩ | ⟨g', cap', cur, h', _, hg', _⟩
        · simp at h'
        · simp only [Value.slice.injEq, Option.some.injEq, Addr.mk.injEq, and_true, true_and] at h'
          obtain ⟨rfl, _⟩ := h'
          refine ⟨cur, hg', fun j hj => ?_⟩
          have h1 := hown.cellAt j (by omega)
          rw [Lib.cell_of_heap hg'] at h1
          rw [h1]
          unfold valsTo
          rw [List.take_length, Nat.sub_self, List.replicate_zero, List.append_nil, List.getElem?_map, List.getElem?_eq_getElem hj, Option.map_some]
      have HB3 := Lib.hid (HB2.out.trans (hw.mono hBc))
      have hBr : B ≤ wr.heap.size := Nat.le_trans hBc hw.size
      clear hown hw hlt H2 HB2 HC2
      obtain ⟨j0, hj, hj0, hj1, hj2⟩ := info_parts info_int7
      obtain ⟨k0, hk, hk0, hk1, hk2⟩ := info_parts info_words7
      have hA := Below.alloc (Below.refl wr.heap.size wr) (Nat.le_refl _) (.cells #[.int .i64 (n : Int)] 3)
      have hAB := Below.alloc (Below.refl B wr) hBr (.cells #[.int .i64 (n : Int)] 3)
      have h4 := h3.later hA
      have hcur4 := heap_later hA hcur
      obtain ⟨p0, p1, p2, p3, p4, _⟩ := h3.cells
      clear hA
      go_upto_region 16 with (at_builtin; refine wpList_append_own _ rfl (.tmp 90) (.tmp 92) 22 rfl B 3 j0 (.int .i64 0) 1 8 Tryd.underlying22 hj hj0 hj1 hj2 rfl (by decide) _ _ _ rfl h4.sizes ⟨wr.heap.size, 0, none⟩ 1 1 [.int .i64 (n : Int)] rfl rfl ?s1 ?s2 ?s3 ?s4 ?s5 ?_)
      case s1 => exact World.news_of_block (cs := #[.int .i64 (n : Int)]) (t := 3) (fr := (0, 0)) (heap_alloc_new wr _)
      case s2 => simp [Value.oneCell']
      case s3 => unfold maxLen; omega
      case s4 => omega
      case s5 => simp; omega
      intro v' w4 hown4 hgrow _h3
      obtain ⟨gs, cps, rfl, _, _⟩ := hown4.form (by omega)
      have hbx4 := heap_grown h4.sizes hgrow h4.box (by decide)
      have q1 : w4.cell? ⟨b, 1, none⟩ = some (.slice a2 S.length c2) := (Lib.cell_of_heap hbx4 1).trans rfl
      have f1 := Lib.frozen_of_heap hbx4 1
      have hszc : szCells (S ++ [n]) = szCells S ++ [.int .i64 (n : Int)] := by unfold szCells; rw [List.map_append]; rfl
      have hszl : (S ++ [n]).length = S.length + 1 := by simp
      rw [← hszc] at hown4
      have h5 := h4.grow_sizes (S' := S ++ [n]) hgrow (by rw [hszl]; exact hown4)
      have hcur5 := heap_set hbx4 (heap_grown h4.sizes hgrow hcur4 (by decide)) (by decide) 1 (.slice (some ⟨gs, 0, none⟩) (S.length + 1) cps)
      have HB5 := Lib.hid (HB3.out.trans ((hAB.grown hgrow (by simp; omega) (fun k hk => (h4.sizes.lt k hk).1)).setCell (p := ⟨b, 1, none⟩) h4.hb (.slice (some ⟨gs, 0, none⟩) (S.length + 1) cps)))
      have hs5 : B ≤ (w4.setCell ⟨b, 1, none⟩ (.slice (some ⟨gs, 0, none⟩) (S.length + 1) cps)).heap.size := Nat.le_trans hBw HB5.out.size
      have H5 := Lib.hid h5
      have HC5 := Lib.hid hcur5
      clear h3 h4 hcur hcur4 hgrow hown4 _h3 hbx4 h5 hcur5 hAB p0 p1 p2 p3 p4 hszc hszl
      go_upto_region 16 with fail
      generalize w4.setCell ⟨b, 1, none⟩ (.slice (some ⟨gs, 0, none⟩) (S.length + 1) cps) = W5 at *
      have hA := Below.alloc (Below.refl W5.heap.size W5) (Nat.le_refl _) (.cells #[.slice (some ⟨wc.heap.size, 0, none⟩) vs.length vs.length] 46)
      have hAB := Below.alloc (Below.refl B W5) hs5 (.cells #[.slice (some ⟨wc.heap.size, 0, none⟩) vs.length vs.length] 46)
      have h6 := H5.out.later hA
      have hcur6 := heap_later hA HC5.out
      obtain ⟨p0, p1, p2, p3, p4, _⟩ := H5.out.cells
      obtain ⟨ds, d1, d2⟩ := h6.data
      have hdl : ds.length = L.length := by have := d1.1; omega
      clear hA
      go_upto_region 17 with (at_builtin; refine wpList_append_own _ rfl (.tmp 102) (.tmp 104) 24 rfl B 46 k0 (.slice none 0 0) 1 24 Tryd.underlying24 hk hk0 hk1 hk2 rfl (by decide) _ _ _ rfl d1 ⟨W5.heap.size, 0, none⟩ 1 1 [.slice (some ⟨wc.heap.size, 0, none⟩) vs.length vs.length] rfl rfl ?d1 ?d2 ?d3 ?d4 ?d5 ?_)
      case d1 => exact World.news_of_block (cs := #[.slice (some ⟨wc.heap.size, 0, none⟩) vs.length vs.length]) (t := 46) (fr := (0, 0)) (heap_alloc_new W5 _)
      case d2 => simp [Value.oneCell']
      case d3 => unfold maxLen; omega
      case d4 => omega
      case d5 => simp; omega
      intro v2 w6 hown6 hgrow _h3
      obtain ⟨gd, cpd, rfl, _, _⟩ := hown6.form (by omega)
      have hbx6 := heap_grown d1 hgrow h6.box (by decide)
      have q2 : w6.cell? ⟨b, 2, none⟩ = some vd := (Lib.cell_of_heap hbx6 2).trans rfl
      have f2 := Lib.frozen_of_heap hbx6 2
      have hll : (L ++ [vs]).length = L.length + 1 := by simp
      have h7 := Lib.hid (h6.grow_data d1 (L' := L ++ [vs]) hgrow (by rw [hll]; exact hown6) (d2.snoc hdl hcur6 hcv))
      have HB7 := Lib.hid (HB5.out.trans ((hAB.grown hgrow (by simp; omega) (fun k hk => (d1.lt k hk).1)).setCell (p := ⟨b, 2, none⟩) h6.hb (.slice (some ⟨gd, 0, none⟩) (L.length + 1) cpd)))
      clear h6 hcur6 hgrow hown6 _h3 hbx6 d1 d2 hAB p0 p1 p2 p3 p4 hll H5 HC5
      go_wp2
      go_ret
      exact ⟨rfl, ⟨_, _, _, _, h7.out⟩, HB7.out⟩
end Go.Proofs.YthajndgljfbifaaDoor
