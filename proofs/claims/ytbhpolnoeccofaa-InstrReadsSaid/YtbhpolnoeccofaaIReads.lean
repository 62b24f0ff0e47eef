/-
  InstrReads: for every bytes, every list of ints and every two ints the law returns true.
-/
import Derived.Test.YtbhpolnoeccofaaIc7
import Derived.Laws.AppendOwnNone
import Derived.Deep.AppendLies
import Derived.Deep.RegionHeldLaw
import Derived.Deep.DeepCutAuto
namespace Go.Proofs.Ytbhpolnoeccofaa.instrReadsLaw
open Go.RowKit Go.ChangeShapes Go.WideShapes Go.ChangeAt
set_option maxRecDepth 100000

/-- A value that is a slice of bytes. -/
def BytesS (w : World) (v : Value) : Prop := ∃ a l cap, v = .slice a l.length cap ∧ NatsAt .u8 w a l ∧ (∀ n ∈ l, n < 256) ∧ l.length ≤ 1000

theorem BytesS.later {w w' : World} {v : Value} (h : BytesS w v) (hb : Below w.heap.size w w') : BytesS w' v := by
  obtain ⟨a, l, cap, hv, hn, hl, hs⟩ := h
  exact ⟨a, l, cap, hv, hn.later hb, hl, hs⟩

/-- A table of five of them. -/
def Five (w : World) (T : Nat) : Prop := ∀ k, k < 5 → ∃ v, w.cell? ⟨T, k, none⟩ = some v ∧ BytesS w v

theorem Five.later {w w' : World} {T : Nat} (h : Five w T) (hb : Below w.heap.size w w') : Five w' T := fun k hk => by
  obtain ⟨v, h1, h2⟩ := h k hk
  exact ⟨v, cell_later hb h1, h2.later hb⟩

theorem five_new {w : World} {v0 v1 v2 v3 v4 : Value} (t : TypeId) (h0 : BytesS w v0) (h1 : BytesS w v1) (h2 : BytesS w v2) (h3 : BytesS w v3) (h4 : BytesS w v4) :
    Five (w.alloc (.cells #[v0, v1, v2, v3, v4] t)) w.heap.size := by
  have hA := Below.alloc (Below.refl w.heap.size w) (Nat.le_refl _) (.cells #[v0, v1, v2, v3, v4] t)
  have hN := Blk.new (W := w) #[v0, v1, v2, v3, v4] t
  intro k hk
  rcases (by omega : k = 0 ∨ k = 1 ∨ k = 2 ∨ k = 3 ∨ k = 4) with rfl | rfl | rfl | rfl | rfl
  · exact ⟨_, (hN 0 (by simp)).1, h0.later hA⟩
  · exact ⟨_, (hN 1 (by simp)).1, h1.later hA⟩
  · exact ⟨_, (hN 2 (by simp)).1, h2.later hA⟩
  · exact ⟨_, (hN 3 (by simp)).1, h3.later hA⟩
  · exact ⟨_, (hN 4 (by simp)).1, h4.later hA⟩

theorem bytes_own {w : World} {B : Nat} {v : Value} {n : Nat} {l : List Nat} (h : w.ownsRow B 5 1 v n (u8s l)) (h0 : 0 < l.length) (hl : ∀ n ∈ l, n < 256) (hs : l.length ≤ 1000) : BytesS w v := by
  obtain ⟨g, cap, hv, _, _, _⟩ := own_bytes h h0
  exact ⟨_, l, cap, hv, own_nats h hv, hl, hs⟩

/-- The first bytes of a block. -/
theorem bytes_take {w : World} {B : Nat} {l : List Nat} (h : Blk w B (u8s l)) (k cap : Nat) (hk : k ≤ l.length) (hl : ∀ n ∈ l, n < 256) (hs : l.length ≤ 1000) : BytesS w (.slice (some ⟨B, 0, none⟩) k cap) := by
  have hlen : (l.take k).length = k := by rw [List.length_take]; omega
  refine ⟨_, l.take k, cap, by rw [hlen], ?_, fun n hn => hl n (List.mem_of_mem_take hn), by omega⟩
  refine .inr ⟨B, 0, rfl, fun i hi => ?_⟩
  have hi2 : i < l.length := by omega
  have := (h i (by rw [length_u8s]; exact hi2)).1
  rw [Nat.zero_add, this, List.getElem_take]
  simp [u8s]

/-- A byte behind the others. -/
theorem last8 {w : World} {B : Nat} {l : List Nat} {y g cap : Nat} (h : w.ownsRow B 5 1 (.slice (some ⟨g, 0, none⟩) (6 + 1) cap) (6 + 1) (u8s l ++ [.int .u8 (y : Int)])) (hl : ∀ n ∈ l, n < 256) (h6 : l.length = 6) (hy : y < 256) :
    BytesS w (.slice (some ⟨g, 0, none⟩) 7 cap) := by
  have h2 : w.ownsRow B 5 1 (.slice (some ⟨g, 0, none⟩) (6 + 1) cap) (6 + 1) (u8s (l ++ [y])) := by simpa [u8s] using h
  exact bytes_own h2 (by simp) (fun n hn => by
    rcases List.mem_append.1 hn with hn | hn
    · exact hl n hn
    · have : n = y := by simpa using hn
      omega) (by simp; omega)

set_option maxHeartbeats 2000000 in
theorem core (ar : Option Addr) (raw : List Nat) (cr : Nat) (a : Option Addr) (xs : List Int) (ca : Nat) (at_ by_ : Int) (w : World) (hr : NatsAt .u8 w ar raw) (hr2 : ∀ n ∈ raw, n < 256) (hrl : raw.length ≤ 40)
    (ha : IntsAt .i64 w a xs) (hx : GoodInts xs) (h1 : -9223372036854775808 ≤ at_) (h2 : at_ ≤ 9223372036854775807) (h3 : -9223372036854775808 ≤ by_) (h4 : by_ ≤ 9223372036854775807) :
    Calls Try.prog 4 #[.slice ar raw.length cr, .slice a xs.length ca, .int .i64 at_, .int .i64 by_] w fun e w' => e = .returned (.bool true) ∧ Below w.heap.size w w' := by
  have HN1 := Lib.hid (new_in a xs ca w ha hx)
  have HI := Lib.hid (fun D W (h : Deck W D) => instr_in D W h)
  have HM := Lib.hid (fun W => make_Mod at_ 6 W (by omega) (by omega) h1 h2)
  have HM2 := Lib.hid (fun W => make_Mod by_ 6 W (by omega) (by omega) h3 h4)
  obtain ⟨m, hm⟩ : ∃ m : Nat, at_ % 6 = (m : Int) := ⟨(at_ % 6).toNat, by omega⟩
  obtain ⟨k, hk⟩ : ∃ k : Nat, by_ % 6 = (k : Int) := ⟨(by_ % 6).toNat, by omega⟩
  obtain ⟨y, hy⟩ : ∃ y : Nat, by_ % 256 = (y : Int) := ⟨(by_ % 256).toNat, by omega⟩
  have hm6 : m < 6 := by omega
  have hk6 : k < 6 := by omega
  have hy6 : y < 256 := by omega
  have hw : IntKind.u8.wrap by_ = (y : Int) := by rw [IntKind.wrap_u8]; exact hy
  rw [hm] at HM
  rw [hk] at HM2
  have i1 : ¬ 40 < (raw.length : Int) := by omega
  have BR : BytesS w (.slice ar raw.length cr) := ⟨ar, raw, cr, rfl, hr, hr2, by omega⟩
  clear ha hx h1 h2 h3 h4 hm hk hr hr2 hrl
  go_enter Try.func4, Try.ntmps4
  go_wp2_with fail
  refine HN1.out.mono ?_
  rintro e w1 ⟨rfl, hd1, hb1⟩
  go_wp2_with fail
  refine (HI.out _ _ hd1).mono ?_
  rintro e w2 ⟨x, rfl, hx, hd2, hg2⟩
  have hB2 : Below w.heap.size w w2 := hb1.grown hg2 hb1.size (fun k hk => by cases hk; omega)
  clear HN1 hd1 hb1 hd2 hg2 HI
  have hvx := vin_of hx
  have HE1 := Lib.hid (fun W => ref06_Encode x W hvx)
  unfold insV at HE1
  unfold insV
  clear hx
  go_wp2_with fail
  refine (HE1.out _).mono ?_
  rintro e w4 ⟨Ba, hBa, rfl, hba, hb4⟩
  have hB4 := hB2.trans (hb4.mono hB2.size)
  have hB4s := hB4.size
  have hBa4 := World.block_lt_of_cell? _ _ (hba 0 (by rw [length_u8s]; show 0 < 6; omega)).1
  clear hb4 hB2 HE1
  have hlen : (encB x).length = 6 := rfl
  have hlt := Lib.hid (encB_lt x hvx)
  obtain ⟨i0, hi, hz0, hz1, hz2⟩ := info_parts info_u8
  have hnw := Lib.hid (blk_news hba)
  have hone := Lib.hid (u8s_one (encB x))
  have hnl : (u8s (encB x)).length = 6 * 1 := rfl
  go_upto_region 4 with fail
  go_wp2_with (at_builtin; refine wpList_append_own _ rfl _ _ 30 rfl w4.heap.size 5 i0 (.int .u8 0) 1 1 Try.underlying30 hi hz0 hz1 hz2 rfl (by decide) _ 0 [] rfl (World.ownsRow_nil _ _ _ _) ⟨Ba, 0, none⟩ 6 6 (u8s (encB x)) rfl hnl hnw.out hone.out (by unfold maxLen; omega) (by omega) (Nat.le_refl _) ?_)
  intro v5 w5 hown5 hg5 h5
  obtain ⟨g, cap, hv5, hgB, h66, hcap⟩ := own_bytes hown5 (by rw [hlen]; omega)
  rw [hlen] at hv5
  subst hv5
  have hB5 := hB4.grown hg5 hB4.size (fun k hk => by simp [Value.ownBlock] at hk)
  have hb5 : Below w4.heap.size w4 w5 := (Below.refl _ _).grown hg5 (Nat.le_refl _) (fun k hk => by simp [Value.ownBlock] at hk)
  have A5 := hba.later hb5
  clear hnw hba h5 hg5 hB4 h66 hb5
  rw [hlen] at hcap
  have hml : m < (encB x).length := by rw [hlen]; exact hm6
  have hfr := hown5.frozenAt m
  have hcell := hown5.cellAt m (by omega)
  have hst := Lib.hid (hown5.stored m (.int .u8 (y : Int)))
  rw [u8s_set] at hst
  rw [show (u8s (encB x))[m]? = some (.int .u8 ((encB x)[m] : Int)) by unfold u8s; rw [List.getElem?_map, List.getElem?_eq_getElem hml]; rfl] at hcell
  have j1 : 0 ≤ (m : Int) := by omega
  have j2 : (m : Int) < 6 := by omega
  generalize hee : (encB x)[m] = ee at *
  clear hee hml
  have HL := Lib.hid hlen
  clear hlen
  go_wp2_with fail
  refine (HM.out _).mono ?_
  rintro e w6 ⟨rfl, hw6⟩
  subst hw6
  go_upto_region 6 with fail
  have hst := hst.out
  have hB4z : w.heap.size ≤ w4.heap.size := hB4s
  have hB6 := hB5.grown hst.2 hB5.size (fun k hk => by cases hk; omega)
  have A6 := A5.kept hst.2 (by simp; omega)
  have hsl : ((encB x).set m y).length = 6 := by rw [List.length_set]; exact HL.out
  have BC6 : BytesS (w5.setCell ⟨g, m, none⟩ (.int .u8 (y : Int))) (.slice (some ⟨g, 0, none⟩) 6 cap) := bytes_own hst.1 (by omega) (fun n hn => by
    rcases List.mem_or_eq_of_mem_set hn with hn | rfl
    · exact hlt.out n hn
    · exact hy6) (by omega)
  have BR6 := BR.later hB6
  clear hst hown5 hB5 A5 hfr hcell hB4s hB4z hgB hBa4 hcap BR hsl j1 j2 hm6 HM
  generalize w5.setCell ⟨g, m, none⟩ (.int .u8 (y : Int)) = W6 at *
  have BB6 := bytes_take A6 6 6 (by rw [HL.out]; omega) hlt.out (by rw [HL.out]; omega)
  have BK6 := bytes_take A6 k 6 (by rw [HL.out]; omega) hlt.out (by rw [HL.out]; omega)
  have hnw := Lib.hid (fun W (h : Below W6.heap.size W6 W) => blk_news (A6.later h))
  have j1 : 0 ≤ (k : Int) := by omega
  have j2 : (k : Int) ≤ 6 := by omega
  have hnil : Hid (∀ k, (Value.slice none 0 0).ownBlock = some k → W6.heap.size ≤ k) := Lib.hid (fun k hk => by simp [Value.ownBlock] at hk)
  have hbk : Hid (∀ b, some b ≠ (Value.slice none 0 0).ownBlock) := Lib.hid (fun b => by simp [Value.ownBlock])
  have HF := Lib.hid (And.intro BR6 (And.intro BB6 (And.intro BC6 BK6)))
  clear BR6 BB6 BC6 BK6 A6
  go_cut [52, 53, 54] (fun v l c wx => ∃ T, v = .slice (some ⟨T, 0, none⟩) 5 5 ∧ l = .int .i64 5 ∧ c = .int .i64 0 ∧ Five wx T ∧ Below w.heap.size w wx)
  case first =>
    go_region_held_law (fun W => Below W6.heap.size W6 W)
      (first
        | exact Below.refl _ _
        | exact (Below.refl _ _).drew
        | assumption
        | exact Below.grown (by assumption) hg7 (Below.size (by assumption)) hnil.out
        | exact Below.alloc (by assumption) (Below.size (by assumption)) _)
      (first
        | (go_simp; go_at_call 19; (with_reducible refine (HM2.out _).mono ?_); rintro e w' ⟨rfl, rfl⟩; dsimp only)
        | (refine step_append_lies _ rfl (.const (.slice none 0 0)) (.tmp 46) 30 rfl W6.heap.size 5 i0 (.int .u8 0) 1 1 Try.underlying30 hi hz0 hz1 hz2 rfl (by decide) _ 0 [] rfl (World.ownsRow_nil _ _ _ _) ⟨Ba, 0, none⟩ 6 6 (u8s (encB x)) rfl hnl (hnw.out _ (by assumption)) hone.out (by decide) (by unfold maxLen; omega) (by omega) (Below.size (by assumption)) _ rfl ?_; intro g7 cap7 w7 hown7 hg7 hat7 hlt7)
        | (refine step_append_lies _ rfl (.tmp 47) (.tmp 50) 30 rfl W6.heap.size 5 i0 (.int .u8 0) 1 1 Try.underlying30 hi hz0 hz1 hz2 rfl (by decide) _ 6 (u8s (encB x)) rfl ((hown7.alloc _).drew) ⟨w7.heap.size, 0, none⟩ 1 1 [.int .u8 (y : Int)] rfl rfl (World.news_of_block (cs := #[.int .u8 (y : Int)]) (t := 5) (fr := (0, 0)) (heap_alloc_new w7 _)) (by simp [Value.oneCell']) (by decide) (by unfold maxLen; omega) (by omega) (Below.size (by assumption)) _ rfl ?_; intro g8 cap8 w8 hown8 hg8 hat8 hlt8; have hb8 := Below.grown (by assumption) hg8 (Below.size (by assumption)) (fun k hk => (hown7.lt k hk).1); have h8 := last8 hown8 hlt.out HL.out hy6; clear hg8 hat8 hlt8 hown8 hown7 hg7 hat7 hlt7)
        | (refine step_append_lies _ rfl (.tmp 47) (.tmp 50) 30 rfl W6.heap.size 5 i0 (.int .u8 0) 1 1 Try.underlying30 hi hz0 hz1 hz2 rfl (by decide) _ 6 (u8s (encB x)) rfl hown7.drew ⟨W6.heap.size, 0, none⟩ 1 1 [.int .u8 (y : Int)] rfl rfl (blk_news (((Blk.new (W := W6) #[.int .u8 (y : Int)] 5).later (Below.refl _ _).drew).kept hg7 (hbk.out _))) (by simp [Value.oneCell']) (by decide) (by unfold maxLen; omega) (by omega) (Below.size (by assumption)) _ rfl ?_; intro g8 cap8 w8 hown8 hg8 hat8 hlt8; have hb8 := Below.grown (by assumption) hg8 (Below.size (by assumption)) (fun k hk => (hown7.lt k hk).1); have h8 := last8 hown8 hlt.out HL.out hy6; clear hg8 hat8 hlt8 hown8 hown7 hg7 hat7 hlt7))
    all_goals
      obtain ⟨f0, f1, f2, f3⟩ := HF.out
      have F5 := Lib.hid (five_new 30 (f0.later hb8) (f1.later hb8) (f2.later hb8) (f3.later hb8) h8)
      have HB := Lib.hid (fun o => hB6.trans ((hb8.alloc hb8.size o).mono hB6.size))
      clear f0 f1 f2 f3 hb8 h8
      go_wp2_with fail
      go_meet
      exact ⟨_, rfl, rfl, rfl, F5.out, HB.out _⟩
  case rest =>
    obtain ⟨T, rfl, rfl, rfl, h5, hB7⟩ := hcut
    have H5 := Lib.hid h5
    clear h5 HF hnw hone hi hz0 hz1 hz2 hnl hlt HL hnil hbk HM2 hB6
    go_wp2_with fail
    go_loopw [54] (fun c wr => ∃ k : Nat, k ≤ 5 ∧ c = .int .i64 k ∧ Below wc.heap.size wc wr) (fun c _ => 5 - (intOf c).toNat)
    case atStart => exact ⟨0, by omega, rfl, Below.refl _ _⟩
    case round =>
      obtain ⟨k, hk, rfl, hw⟩ := hrel
      have hBr := hB7.trans (hw.mono hB7.size)
      by_cases hlt : k < 5
      · obtain ⟨v, c0, a5, l5, cap5, rfl, hn, hl, hs⟩ := H5.out k hlt
        have c0 := cell_later hw c0
        have hn := hn.later hw
        have i1 : (k : Int) < 5 := by omega
        have i2 : 0 ≤ (k : Int) := by omega
        have HD1 := Lib.hid (instr_Decode a5 l5 cap5 wr (by omega) hn hl)
        have HD2 := Lib.hid (fun W (h : Below wr.heap.size wr W) => ref06_Decode a5 l5 cap5 W (by omega) (hn.later h) hl)
        unfold GivesDec insV at HD1 HD2
        generalize decX l5 = z at *
        generalize decE l5 = ez at *
        have HNE := neq_ins z z
        rw [(sameI_iff z z).2 rfl] at HNE
        go_wp2_with fail
        refine HD1.out.mono ?_
        rintro e W8 ⟨rfl, hb8⟩
        have hA8 := hb8.alloc hb8.size (.cells #[.int .i64 z.op, .int .i64 z.a, .int .i64 z.b, .int .i64 z.c, .int .i64 z.imm] 23)
        have V8 := InsBox.new W8 z
        clear HD1 hb8
        go_upto_region 10 with fail
        generalize W8.alloc (.cells #[.int .i64 z.op, .int .i64 z.a, .int .i64 z.b, .int .i64 z.c, .int .i64 z.imm] 23) = W9 at *
        generalize W8.heap.size = V at *
        go_wp2_with fail
        refine (HD2.out _ hA8).mono ?_
        rintro e W10 ⟨rfl, hb10⟩
        have hA10 := Below.alloc (Below.refl W10.heap.size W10) (Nat.le_refl _) (.cells #[.int .i64 z.op, .int .i64 z.a, .int .i64 z.b, .int .i64 z.c, .int .i64 z.imm] 23)
        have U10 := InsBox.new W10 z
        have V10 := (V8.later hb10).later hA10
        have hbb := hb10.trans (hA10.mono hb10.size)
        have hB11 := hA8.trans (hbb.mono hA8.size)
        clear HD2 V8 hb10 hA10 hbb hA8
        go_upto_region 11 with fail
        generalize W10.alloc (.cells #[.int .i64 z.op, .int .i64 z.a, .int .i64 z.b, .int .i64 z.c, .int .i64 z.imm] 23) = W11 at *
        generalize W10.heap.size = U at *
        obtain ⟨e0, e1, e2, e3, e4, _⟩ := ins_cells V10
        obtain ⟨f0, f1, f2, f3, f4, _⟩ := ins_cells U10
        have HR := Lib.hid (hw.trans (hB11.mono hw.size))
        clear V10 U10 hB11
        go_wp2
        go_roundw
        case rel => exact ⟨k + 1, by omega, by go_num, HR.out⟩
        case measure => simp [intOf]; omega
      · obtain rfl : k = 5 := by omega
        have HB := Lib.hid hBr
        clear hBr
        go_wp2_with (go_at_call 21; (with_reducible refine (law06_awake _).mono ?_); rintro e w' ⟨rfl, hb9⟩)
        go_ret
        exact ⟨rfl, HB.out.trans (hb9.mono HB.out.size)⟩

theorem long (ar : Option Addr) (raw : List Nat) (cr : Nat) (a : Option Addr) (n ca : Nat) (at_ by_ : Int) (w : World) (h : 40 < raw.length) :
    Calls Try.prog 4 #[.slice ar raw.length cr, .slice a n ca, .int .i64 at_, .int .i64 by_] w fun e w' => e = .returned (.bool true) ∧ Below w.heap.size w w' := by
  have i1 : 40 < (raw.length : Int) := by omega
  go_enter Try.func4, Try.ntmps4
  go_wp2_with (go_at_call 21; (with_reducible refine (law06_awake _).mono ?_); rintro e w' ⟨rfl, hb9⟩)
  go_ret
  exact ⟨rfl, hb9⟩

theorem walk {H : Type} (enc : TypeId × Value → H) (W : World) (base : Nat) (v0 : Value) (d0 : DataW H) (p0 : List MemPlace) (o0 : Value.okWide Try.prog W .any base 30 v0) (h0 : DataW.Trod enc Try.prog W 0 (fun _ => true) true 30 v0 d0 p0)
    (v1 : Value) (d1 : DataW H) (p1 : List MemPlace) (o1 : Value.okWide Try.prog W .any base 24 v1) (h1 : DataW.Trod enc Try.prog W 0 (fun _ => true) true 24 v1 d1 p1)
    (v2 : Value) (d2 : DataW H) (p2 : List MemPlace) (o2 : Value.okWide Try.prog W .any base 3 v2) (h2 : DataW.Trod enc Try.prog W 0 (fun _ => true) true 3 v2 d2 p2)
    (v3 : Value) (d3 : DataW H) (p3 : List MemPlace) (o3 : Value.okWide Try.prog W .any base 3 v3) (h3 : DataW.Trod enc Try.prog W 0 (fun _ => true) true 3 v3 d3 p3) :
    Calls Try.prog 4 #[v0, v1, v2, v3] W fun e w' => e = .returned (.bool true) ∧ Below W.heap.size W w' := by
  obtain ⟨ar, raw, cr, rfl, hr, hr2, _⟩ := open_bytes o0 h0
  obtain ⟨a, xs, ca, rfl, ha, hx, hl⟩ := open_nums Try.underlying24 Try.underlying3 (by kernel_rfl) o1 h1
  obtain ⟨i, rfl, rfl, rfl, w2⟩ := open_int Try.underlying3 o2 h2
  obtain ⟨j, rfl, rfl, rfl, w3⟩ := open_int Try.underlying3 o3 h3
  by_cases h40 : 40 < raw.length
  · exact long ar raw cr a xs.length ca i j W h40
  · exact core ar raw cr a xs ca i j W hr hr2 (by omega) ha ⟨fun x hx2 => int_of (hx x hx2), by unfold maxLen at hl; exact hl⟩ (int_of w2).1 (int_of w2).2 (int_of w3).1 (int_of w3).2
end Go.Proofs.Ytbhpolnoeccofaa.instrReadsLaw
