/-
  The bytes of a program; append of a list of numbers.
  Contract of the program's Encode.
-/
import Derived.Test.YthajndgljfbifaaChk8
import Derived.Test.YthajndgljfbifaaIc3
import Derived.Test.YthajndgljfbifaaLists2
import Derived.Deep.AppendLies
namespace Go.Proofs.Ythajndgljfbifaa
open Go.RowKit
set_option maxRecDepth 100000

/-- The bytes of regions. -/
def regB : List Int → List (List Nat) → List Nat
  | n :: s, l :: L => n.toNat :: l.length :: (bytesOf l ++ regB s L)
  | _, _ => []

/-- The bytes of a program. -/
def encP (C : List Ins) (s : List Int) (L : List (List Nat)) : List Nat := s.length :: (regB s L ++ C.length :: C.flatMap encB)

/-- What Encode returns of them: nothing where there is an error. -/
def encV (C : List Ins) (s : List Int) (L : List (List Nat)) : List Nat := if chkE C s L = 0 then encP C s L else []

theorem regB_next : ∀ (s : List Int) (L : List (List Nat)) (k : Nat) (h : k < s.length) (h2 : k < L.length), regB (s.take (k + 1)) (L.take (k + 1)) = regB (s.take k) (L.take k) ++ (s[k].toNat :: L[k].length :: bytesOf L[k])
  | [], _, _, h, _ => by simp at h
  | _ :: _, [], _, _, h => by simp at h
  | n :: s, l :: L, 0, _, _ => by simp [regB]
  | n :: s, l :: L, k + 1, h, h2 => by
    have ih := regB_next s L k (by simpa using h) (by simpa using h2)
    simp only [List.take_succ_cons, regB, List.getElem_cons_succ] at ih ⊢
    rw [ih]
    simp

theorem regB_length : ∀ (s : List Int) (L : List (List Nat)) (m : Nat), (∀ l ∈ L, l.length ≤ m) → (regB s L).length ≤ s.length * (2 * m + 2)
  | [], _, m, _ => by simp [regB]
  | _ :: _, [], m, _ => by simp [regB]
  | n :: s, l :: L, m, h => by
    have h1 := regB_length s L m (fun x hx => h x (by simp [hx]))
    have h2 := h l (by simp)
    simp only [regB, List.length_cons, List.length_append, length_bytesOf, Nat.add_mul]
    omega

theorem flat_enc_length : ∀ C : List Ins, (C.flatMap encB).length = 6 * C.length
  | [] => rfl
  | x :: C => by
    rw [List.flatMap_cons, List.length_append, flat_enc_length C]
    simp [encB]; omega

theorem flat_enc_next (C : List Ins) {k : Nat} (h : k < C.length) : (C.take (k + 1)).flatMap encB = (C.take k).flatMap encB ++ encB C[k] := by
  rw [List.take_succ_eq_append_getElem h, List.flatMap_append]
  simp

theorem own_later8 {w w' : World} {base : Nat} {e : TypeId} {size : Nat} {v : Value} {n : Nat} {xs : List Value} (h : w.ownsRow base e size v n xs) (hb : Below w.heap.size w w') : w'.ownsRow base e size v n xs :=
  h.kept (grownBy_below hb rfl none) (by
    by_cases hn : v.ownBlock = none
    · exact .inl hn
    · exact .inr hn)

theorem _root_.Go.World.ownsRow.cap_le {w : World} {base : Nat} {e : TypeId} {size n m c : Nat} {a : Option Addr} {xs : List Value} (h : w.ownsRow base e size (.slice a m c) n xs) : m ≤ c := by
  rcases h.2 with ⟨h', _⟩ | ⟨g', cap', cur, h', _, hg, hnc, _⟩
  · simp only [Value.slice.injEq] at h'
    omega
  · simp only [Value.slice.injEq] at h'
    omega

theorem blk_news8 {W : World} {B : Nat} {l : List Value} (h : Blk W B l) : ∀ j u, l[j]? = some u → W.cell? ((⟨B, 0, none⟩ : Addr).add j) = some u := fun j u hj => by
  obtain ⟨h1, rfl⟩ := List.getElem?_eq_some_iff.1 hj
  have e : (⟨B, 0, none⟩ : Addr).add j = ⟨B, j, none⟩ := by unfold Addr.add; split <;> simp_all
  rw [e]; exact (h j h1).1

/-- The call returns bytes in new memory and an error number. -/
def GivesBytes (l : List Nat) (k : Int) (w : World) (e : Ending) (w' : World) : Prop :=
  ∃ a cap, e = .returned (.tuple #[.slice a l.length cap, .int .i64 k]) ∧ l.length ≤ cap ∧ NatsAt .u8 w' a l ∧ Below w.heap.size w w'

theorem run_append_nil8 {P : Program} {w : World} (base : Nat) (t ty e : TypeId) (i : TypeInfo) (size : Nat) (ht : P.underlying t = some (.slice e)) (hi : P.info? e = some i)
    (v : Value) (n : Nat) (xs : List Value) (hown : w.ownsRow base e size v n xs) (c : Nat) : (Builtin.append_ #[t, t] ty #[v, .slice none 0 c]).run P w = .ok v w := by
  rcases hown.2 with ⟨rfl, rfl⟩ | ⟨g, cap, cur, rfl, _, _, hnc, _⟩
  · simp [Builtin.append_, run_underlying ht, sizeOf, typeInfo, hi, Builtin.lenOf, Builtin.firstCells]
  · simp [Builtin.append_, run_underlying ht, sizeOf, typeInfo, hi, Builtin.lenOf, Builtin.firstCells, hnc, storeCells]

theorem nats_news {k : IntKind} {w : World} {b off : Nat} {l : List Nat} (h : ∀ i (h : i < l.length), w.cell? ⟨b, off + i, none⟩ = some (.int k (l[i] : Int))) : ∀ j u, (l.map fun x : Nat => Value.int k (x : Int))[j]? = some u → w.cell? ((⟨b, off, none⟩ : Addr).add j) = some u := fun j u hu => by
  obtain ⟨h1, rfl⟩ := List.getElem?_eq_some_iff.1 hu
  rw [List.length_map] at h1
  have e : (⟨b, off, none⟩ : Addr).add j = ⟨b, off + j, none⟩ := by unfold Addr.add; split <;> simp_all
  rw [e, h j h1, List.getElem_map]

theorem wp_append_nats {P : Program} {w : World} {o : Oper} {a : Act} {K : Act → World → Prop} {Q : Exit → Act → World → Prop} (s x : Operand) (t : TypeId)
    (ho : o.op = .call { callee := .builtin .append, args := #[s, x], argTypes := #[t, t] })
    (base : Nat) (e : TypeId) (i : TypeInfo) (z : Value) (bytes : Nat) (ht : P.underlying t = some (.slice e)) (hi : P.info? e = some i) (hz : i.zero = some z)
    (hsize : i.size = 1) (hby : i.bytes = bytes) (hzs : z.cells.size = 1)
    (v : Value) (n : Nat) (xs : List Value) (hs : a.eval s = v) (hown : w.ownsRow base e 1 v n xs)
    (k : IntKind) (A : Option Addr) (l : List Nat) (m c : Nat) (hm : m = l.length) (hx : a.eval x = .slice A m c) (hA : NatsAt k w A l)
    (h63 : n + m ≤ maxLen) (hbytes : (n + m) * bytes ≤ 140737488355328) (hbase : base ≤ w.heap.size)
    (h : ∀ v' w', w'.ownsRow base e 1 v' (n + m) (xs ++ l.map fun x : Nat => Value.int k (x : Int)) → w.grownBy w' v.ownBlock → K (a.put o.dst v') w') : Oper.wp P o a w K Q := by
  subst hm
  cases A with
  | none =>
    have h0 : l = [] := by
      rcases hA with h0 | ⟨b, off, ha, _⟩
      · exact h0
      · cases ha
    subst h0
    have hrun := run_append_nil8 (P := P) (w := w) base t o.type e i 1 ht hi v n xs hown c
    unfold Oper.wp
    simp [execOp, ho, resolve, invoke, builtin, hs, hx, hrun, Result.andThen]
    exact h _ _ (by simpa using hown) (World.grownBy.refl w _)
  | some ad =>
    have hn : ∀ j u, (l.map fun x : Nat => Value.int k (x : Int))[j]? = some u → w.cell? (ad.add j) = some u := by
      rcases hA with h0 | ⟨b, off, ha, hc⟩
      · subst h0; intro j u hu; simp at hu
      · cases ha; exact nats_news hc
    exact wp_append_own w s x t ho base e i z 1 bytes ht hi hz hsize hby hzs (by omega) v n xs hs hown ad l.length c _ hx (by simp) hn (fun u hu => by obtain ⟨y, _, rfl⟩ := List.mem_map.1 hu; rfl) h63 hbytes hbase fun v' w' h2 h3 _ => h v' w' h2 h3

theorem wpList_append_nats {P : Program} {w : World} {ops : Array Oper} {rest : List Oper} {o : Oper} {a : Act} {Q : Exit → Act → World → Prop} (hgd : o.guard = none) (s x : Operand) (t : TypeId)
    (ho : o.op = .call { callee := .builtin .append, args := #[s, x], argTypes := #[t, t] })
    (base : Nat) (e : TypeId) (i : TypeInfo) (z : Value) (bytes : Nat) (ht : P.underlying t = some (.slice e)) (hi : P.info? e = some i) (hz : i.zero = some z)
    (hsize : i.size = 1) (hby : i.bytes = bytes) (hzs : z.cells.size = 1)
    (v : Value) (n : Nat) (xs : List Value) (hs : a.eval s = v) (hown : w.ownsRow base e 1 v n xs)
    (k : IntKind) (A : Option Addr) (l : List Nat) (m c : Nat) (hm : m = l.length) (hx : a.eval x = .slice A m c) (hA : NatsAt k w A l)
    (h63 : n + m ≤ maxLen) (hbytes : (n + m) * bytes ≤ 140737488355328) (hbase : base ≤ w.heap.size)
    (h : ∀ v' w', w'.ownsRow base e 1 v' (n + m) (xs ++ l.map fun x : Nat => Value.int k (x : Int)) → w.grownBy w' v.ownBlock → wpList P ops Q rest (a.put o.dst v') w') : wpList P ops Q (o :: rest) a w :=
  wpList_plain hgd fun _ hK => wp_append_nats s x t ho base e i z bytes ht hi hz hsize hby hzs v n xs hs hown k A l m c hm hx hA h63 hbytes hbase fun v' w' h2 h3 => hK _ _ (h v' w' h2 h3)

theorem step_append_nats {P : Program} {w : World} {ops : Array Oper} {o : Oper} {a : Act} {K : Act → World → Prop} {Q : Exit → Act → World → Prop} {E : Prop} (hgd : o.guard = none) (s x : Operand) (t : TypeId)
    (ho : o.op = .call { callee := .builtin .append, args := #[s, x], argTypes := #[t, t] })
    (base : Nat) (e : TypeId) (i : TypeInfo) (z : Value) (bytes : Nat) (ht : P.underlying t = some (.slice e)) (hi : P.info? e = some i) (hz : i.zero = some z)
    (hsize : i.size = 1) (hby : i.bytes = bytes) (hzs : z.cells.size = 1)
    (v : Value) (n : Nat) (xs : List Value) (hs : a.eval s = v) (hown : w.ownsRow base e 1 v n xs)
    (k : IntKind) (A : Option Addr) (l : List Nat) (m c : Nat) (hm : m = l.length) (hx : a.eval x = .slice A m c) (hA : NatsAt k w A l)
    (h63 : n + m ≤ maxLen) (hbytes : (n + m) * bytes ≤ 140737488355328) (hbase : base ≤ w.heap.size)
    (h : ∀ v' w', w'.ownsRow base e 1 v' (n + m) (xs ++ l.map fun x : Nat => Value.int k (x : Int)) → w.grownBy w' v.ownBlock → K (a.put o.dst v') w') :
    if Region.wanted o (yielded ops a.tmps) = true then Oper.wp P o a w K Q else E := by
  have hw : Region.wanted o (yielded ops a.tmps) = true := by simp [Region.wanted, hgd]
  rw [if_pos hw]
  exact wp_append_nats s x t ho base e i z bytes ht hi hz hsize hby hzs v n xs hs hown k A l m c hm hx hA h63 hbytes hbase h
end Go.Proofs.Ythajndgljfbifaa
namespace Go.Proofs.Ythajndgljfbifaa
open Go.RowKit
set_option maxRecDepth 100000

theorem good_lens {C : List Ins} {s : List Int} {L : List (List Nat)} (h : GoodPg C s L) : C.length ≤ 64 ∧ 1 ≤ s.length ∧ s.length ≤ 4 ∧ L.length = s.length ∧ (∀ i (h : i < s.length), 1 ≤ s[i] ∧ s[i] ≤ 32) ∧ ∀ i (h : i < L.length), L[i].length ≤ 32 := by
  have hv : 1 ≤ s.length ∧ s.length ≤ 4 ∧ ∀ x ∈ s, 1 ≤ x ∧ x ≤ 32 := of_decide_eq_true h.1
  have hl := h.2.1
  refine ⟨h.2.2.2.1, hv.1, hv.2.1, hl, fun i hi => hv.2.2 _ (List.getElem_mem hi), fun i hi => ?_⟩
  have h3 := h.2.2.2.2.1 i hi (by omega)
  have h4 := hv.2.2 s[i] (List.getElem_mem _)
  omega

theorem wrap_u8 (x : Int) (h0 : 0 ≤ x) (h1 : x < 256) : IntKind.u8.wrap x = x := by rw [IntKind.wrap_u8']; omega

/-- The bytes up to the k-th region. -/
def hd8 (s : List Int) (L : List (List Nat)) (k : Nat) : List Nat := s.length :: regB (s.take k) (L.take k)

/-- The bytes up to the k-th instruction. -/
def tl8 (C : List Ins) (s : List Int) (L : List (List Nat)) (k : Nat) : List Nat := s.length :: (regB s L ++ C.length :: (C.take k).flatMap encB)

def u8V (l : List Nat) : List Value := l.map fun x : Nat => Value.int .u8 (x : Int)

set_option maxHeartbeats 4000000 in
theorem program_Encode (ac a2 ad : Option Addr) (C : List Ins) (s : List Int) (L : List (List Nat)) (cc c2 cd : Nat) (w : World) (hc : CodeAt w ac C) (hs : IntsAt .i64 w a2 s) (hd : DatAt w ad L) (lc : C.length ≤ 1000000) (ls : s.length ≤ 1000000) (ld : L.length ≤ 1000000) (lr : ∀ l ∈ L, l.length ≤ 1000000) (hu : ∀ l ∈ L, ∀ v ∈ l, v < 65536) :
    Calls Try.prog 20 #[.agg #[.slice ac C.length cc, .slice a2 s.length c2, .slice ad L.length cd]] w (GivesBytes (encV C s L) (chkE C s L) w) := by
  have hB := Below.alloc (Below.refl w.heap.size w) (Nat.le_refl _) (.cells #[.slice ac C.length cc, .slice a2 s.length c2, .slice ad L.length cd] 26)
  have b0 := Blk.new (W := w) #[.slice ac C.length cc, .slice a2 s.length c2, .slice ad L.length cd] 26
  have hc0 := hc.later hB
  have hs0 := ints_later7 hs hB
  have hd0 := hd.later hB
  have HCk := Lib.hid (program_Check ac a2 ad C s L cc c2 cd _ hc0 hs0 hd0 lc ls ld lr)
  clear hc hs hd
  go_enter Try.func20, Try.ntmps20
  go_upto_region 1 with fail
  generalize w.alloc (.cells #[.slice ac C.length cc, .slice a2 s.length c2, .slice ad L.length cd] 26) = W0 at *
  have p0 := (b0 0 (by simp)).1
  have p1 := (b0 1 (by simp)).1
  have p2 := (b0 2 (by simp)).1
  by_cases hk : chkE C s L = 0
  case neg =>
    have HV : Hid (encV C s L = []) := Lib.hid (if_neg hk)
    have hne : (chkE C s L != 0) = true := by rw [bne_iff_ne]; exact hk
    clear hk
    go_wp2_with (go_at_call 15; (with_reducible refine HCk.out.mono ?_); rintro e w1 ⟨rfl, hb1⟩)
    go_ret2
    refine ⟨none, 0, ?_, ?_, ?_, hB.trans (hb1.mono hB.size)⟩
    · rw [HV.out]; rfl
    · rw [HV.out]; exact Nat.le_refl _
    · rw [HV.out]; exact .inl rfl
  case pos =>
  have hg := chk_good.1 hk
  have HV : Hid (encV C s L = encP C s L) := Lib.hid (if_pos hk)
  obtain ⟨l64, s1, s4, hln, hsz, hdl⟩ := good_lens hg
  have HSZ := Lib.hid hsz
  have HDL := Lib.hid hdl
  have HLN := Lib.hid hln
  have hvin : Hid (∀ i (h : i < C.length), vinB C[i] = true) := Lib.hid (fun i h => (hg.2.2.2.2.2 i h).1)
  obtain ⟨i0, hi, hz0, hz1, hz2⟩ := info_parts info_u8
  have HK := Lib.hid hk
  rw [hk] at HCk
  clear hk hg hsz hdl hln ls ld lr lc
  go_upto_region 4 with (go_at_call 15; (with_reducible refine HCk.out.mono ?_); rintro e w1 ⟨rfl, hb1⟩)
  have p0 := cell_later hb1 p0
  have p1 := cell_later hb1 p1
  have p2 := cell_later hb1 p2
  have hc1 := hc0.later hb1
  have hs1 := ints_later7 hs0 hb1
  have hd1 := hd0.later hb1
  have HB := Lib.hid (hB.trans (hb1.mono hB.size))
  have ws := wrap_u8 (s.length : Int) (by omega) (by omega)
  clear HCk hb1 hB b0 hc0 hs0 hd0
  go_upto_region 5 with fail
  have hown : (w1.alloc (.cells #[.int .u8 (s.length : Int)] 5)).ownsRow w1.heap.size 5 1 (.slice (some ⟨w1.heap.size, 0, none⟩) 1 1) (hd8 s L 0).length (u8V (hd8 s L 0)) :=
    World.ownsRow_lit w1 #[.int .u8 (s.length : Int)] 1 (Nat.le_refl _) (by decide) rfl
  have hA := Below.alloc (Below.refl w1.heap.size w1) (Nat.le_refl _) (.cells #[.int .u8 (s.length : Int)] 5)
  clear ws
  have q0 := cell_later hA p0
  have q1 := cell_later hA p1
  have q2 := cell_later hA p2
  generalize w1.alloc (.cells #[.int .u8 (s.length : Int)] 5) = W2 at *
  go_upto_region 6 with fail
  clear q0 q1 q2
  go_loopw [5, 25] (fun v c wr => ∃ k : Nat, k ≤ s.length ∧ c = .int .i64 k ∧ wr.ownsRow w1.heap.size 5 1 v (hd8 s L k).length (u8V (hd8 s L k)) ∧ Below w1.heap.size w1 wr) (fun _ c _ => s.length - (intOf c).toNat)
  case atStart => exact ⟨0, by omega, rfl, hown, hA⟩
  clear hown hA
  obtain ⟨k, hk, rfl, hownr, hw⟩ := hrel
  by_cases hlt : k < s.length
  · have hll : k < L.length := by have := HLN.out; omega
    obtain ⟨bs, os, rfl, hsc⟩ := hs1.some hlt
    obtain ⟨bd, od, rfl, hdc⟩ := hd1.some hll
    obtain ⟨a5, c5, q0, hna⟩ := hdc k hll
    have q1 := cell_later hw (hsc k hlt)
    have hz := HSZ.out k hlt
    have hdl := HDL.out k hll
    have HNx : Hid (hd8 s L (k + 1) = hd8 s L k ++ ([s[k].toNat, L[k].length] ++ bytesOf L[k])) := Lib.hid (by
      unfold hd8
      rw [regB_next s L k hlt hll]
      simp)
    have hlb : (hd8 s L k).length ≤ 400 := by
      have h1 := regB_length (s.take k) (L.take k) 32 (fun l hl => by
        obtain ⟨i, hi, rfl⟩ := List.getElem_of_mem (List.mem_of_mem_take hl)
        exact HDL.out i hi)
      have h2 : (s.take k).length ≤ 4 := by rw [List.length_take]; omega
      have h3 := Nat.mul_le_mul_right 66 h2
      show (regB (s.take k) (L.take k)).length + 1 ≤ 400
      omega
    have HBy := Lib.hid (fun W (h : NatsAt .u16 W a5 L[k]) => word_Bytes a5 L[k] c5 W (by omega) h (hu _ (List.getElem_mem hll)))
    have HC := Lib.hid (fun W (h : Below w1.heap.size w1 W) => And.intro (cell_later h p2) (And.intro (cell_later h q0) (hna.later h)))
    have p1 := cell_later hw p1
    have p2 := cell_later hw p2
    have q0 := cell_later hw q0
    generalize L[k] = l at *
    obtain ⟨n, hn⟩ := Int.eq_ofNat_of_zero_le (show 0 ≤ s[k] by omega)
    rw [hn] at q1 hz HNx
    rw [Int.toNat_natCast] at HNx
    have e1 := wrap_u8 (n : Int) (by omega) (by omega)
    have e2 := wrap_u8 (l.length : Int) (by omega) (by omega)
    have i1 : (k : Int) < (s.length : Int) := by omega
    have i2 : (k : Int) < (L.length : Int) := by omega
    have i3 : 0 ≤ (k : Int) := by omega
    have HW := Lib.hid hw
    clear hdc hsc hn hz hna hu hs1 hd1
    go_upto_region 9 with (at_builtin; refine wpList_append_own _ rfl (.tmp 30) (.tmp 40) 52 rfl w1.heap.size 5 i0 (.int .u8 0) 1 1 Try.underlying52 hi hz0 hz1 hz2 rfl (by decide) _ _ _ rfl (hownr.alloc _) ⟨wr.heap.size, 0, none⟩ 2 2 [.int .u8 (n : Int), .int .u8 (l.length : Int)] rfl rfl ?c1 ?c2 ?c3 ?c4 ?c5 ?_)
    case c1 => exact World.news_of_block (cs := #[.int .u8 (n : Int), .int .u8 (l.length : Int)]) (t := 5) (fr := (0, 0)) (heap_alloc_new wr _)
    case c2 => simp [Value.oneCell']
    case c3 => unfold maxLen; omega
    case c4 => omega
    case c5 => have := hw.size; simp; omega
    intro v2 w2 hown2 hgrow _h3
    have hw2 := (hw.alloc hw.size (.cells #[.int .u8 (n : Int), .int .u8 (l.length : Int)] 5)).grown hgrow (by have := hw.size; simp; omega) (fun j hj => (hownr.lt j hj).1)
    obtain ⟨p2, q0, hna⟩ := HC.out _ hw2
    have HBw := Lib.hid (HBy.out _ hna)
    clear hgrow _h3 hownr HW HC HBy hna hw e1 e2 p1 q1
    have hwl := hw2.size
    have HBL := Lib.hid (length_bytesOf l)
    go_wp2_with (first
      | (go_at_call 58; (with_reducible refine HBw.out.mono ?_); rintro e w3 ⟨a9, c9, rfl, hn9, hb9⟩; have hown3 := own_later8 hown2 hb9; have hw3 := hb9.size)
      | (at_builtin; refine wpList_append_nats rfl (.tmp 42) (.tmp 48) 52 rfl w1.heap.size 5 i0 (.int .u8 0) 1 Try.underlying52 hi hz0 hz1 hz2 rfl _ _ _ rfl hown3 .u8 a9 (bytesOf l) _ c9 rfl rfl hn9 ?d1 ?d2 ?d3 ?_))
    case d1 => have := HBL.out; unfold maxLen; omega
    case d2 => have := HBL.out; omega
    case d3 => omega
    intro v4 w4 hown4 hg4
    have HF := Lib.hid ((hw2.trans (hb9.mono hwl)).grown hg4 (by omega) (fun j hj => (hown3.lt j hj).1))
    have HO : Hid (w4.ownsRow w1.heap.size 5 1 v4 (hd8 s L (k + 1)).length (u8V (hd8 s L (k + 1)))) := Lib.hid (by
      rw [HNx.out]
      have e : (hd8 s L k ++ ([n, l.length] ++ bytesOf l)).length = (hd8 s L k).length + 2 + (bytesOf l).length := by simp; omega
      rw [e]
      have e2 : u8V (hd8 s L k ++ ([n, l.length] ++ bytesOf l)) = u8V (hd8 s L k) ++ .int .u8 (n : Int) :: .int .u8 (l.length : Int) :: (bytesOf l).map fun x : Nat => Value.int .u8 (x : Int) := by simp [u8V]
      rw [e2]
      exact hown4)
    clear hown4 hg4 hown3 hb9 hn9 hw2 HNx hown2
    go_wp2_with fail
    refine ⟨⟨k + 1, by omega, by go_num, HO.out, HF.out⟩, ?_⟩
    simp [intOf]
    omega
  · obtain rfl : k = s.length := by omega
    have htl : hd8 s L s.length = s.length :: regB s L := by
      unfold hd8
      rw [List.take_length, List.take_of_length_le (by have := HLN.out; omega)]
    have hlb : (hd8 s L s.length).length ≤ 400 := by
      rw [htl]
      have h1 := regB_length s L 32 (fun l hl => by
        obtain ⟨i, hi, rfl⟩ := List.getElem_of_mem hl
        exact HDL.out i hi)
      have h3 := Nat.mul_le_mul_right 66 s4
      show (regB s L).length + 1 ≤ 400
      omega
    have HTL : Hid (tl8 C s L 0 = hd8 s L s.length ++ [C.length]) := Lib.hid (by rw [htl]; simp [tl8])
    have HLB := Lib.hid hlb
    have HP0 := Lib.hid p0
    have p0 := cell_later hw p0
    have e1 := wrap_u8 (C.length : Int) (by omega) (by omega)
    clear htl hlt hs1 hd1 hu hlb
    generalize hd8 s L s.length = hh at *
    go_upto_region 12 with (at_builtin; refine wpList_append_own _ rfl (.tmp 51) (.tmp 56) 52 rfl w1.heap.size 5 i0 (.int .u8 0) 1 1 Try.underlying52 hi hz0 hz1 hz2 rfl (by decide) _ _ _ rfl (hownr.alloc _) ⟨wr.heap.size, 0, none⟩ 1 1 [.int .u8 (C.length : Int)] rfl rfl ?f1 ?f2 ?f3 ?f4 ?f5 ?_)
    case f1 => exact World.news_of_block (cs := #[.int .u8 (C.length : Int)]) (t := 5) (fr := (0, 0)) (heap_alloc_new wr _)
    case f2 => simp [Value.oneCell']
    case f3 => have := HLB.out; unfold maxLen; omega
    case f4 => have := HLB.out; omega
    case f5 => have := hw.size; simp; omega
    intro v2 w2 hown2 hgrow _h3
    have hw2 := (hw.alloc hw.size (.cells #[.int .u8 (C.length : Int)] 5)).grown hgrow (by have := hw.size; simp; omega) (fun j hj => (hownr.lt j hj).1)
    have hown5 : w2.ownsRow w1.heap.size 5 1 v2 (tl8 C s L 0).length (u8V (tl8 C s L 0)) := by
      rw [HTL.out]
      have e2 : u8V (hh ++ [C.length]) = u8V hh ++ [.int .u8 (C.length : Int)] := by simp [u8V]
      rw [e2, List.length_append]
      exact hown2
    have p0 := cell_later hw2 HP0.out
    clear hgrow _h3 hownr hw e1 hown2
    go_upto_region 13 with fail
    clear p0
    go_loopw [5, 61] (fun v c wr => ∃ j : Nat, j ≤ C.length ∧ c = .int .i64 j ∧ wr.ownsRow w1.heap.size 5 1 v (tl8 C s L j).length (u8V (tl8 C s L j)) ∧ Below w1.heap.size w1 wr) (fun _ c _ => C.length - (intOf c).toNat)
    case atStart => exact ⟨0, by omega, rfl, hown5, hw2⟩
    clear hown5 hw2
    obtain ⟨j, hj, rfl, hownr, hw⟩ := hrel
    by_cases hlt : j < C.length
    · obtain ⟨bc, oc, rfl, hcc⟩ := (hc1.later hw).some hlt
      obtain ⟨q0, q1, q2, q3, q4⟩ := hcc j hlt
      have HN : Hid (tl8 C s L (j + 1) = tl8 C s L j ++ encB C[j]) := Lib.hid (by
        unfold tl8
        rw [flat_enc_next C hlt]
        simp)
      have HEn := Lib.hid (fun W => instr_Encode C[j] W (hvin.out j hlt))
      have hlb : (tl8 C s L j).length ≤ 1000 := by
        have h1 := regB_length s L 32 (fun l hl => by
          obtain ⟨i, hi, rfl⟩ := List.getElem_of_mem hl
          exact HDL.out i hi)
        have h3 := Nat.mul_le_mul_right 66 s4
        have h4 := flat_enc_length (C.take j)
        rw [List.length_take] at h4
        show (regB s L ++ C.length :: (C.take j).flatMap encB).length + 1 ≤ 1000
        rw [List.length_append, List.length_cons]
        omega
      generalize C[j] = x at *
      clear hcc hc1
      have i1 : (j : Int) < (C.length : Int) := by omega
      have i2 : 0 ≤ (j : Int) := by omega
      obtain ⟨op, a, b, c, imm⟩ := x
      unfold insV at HEn
      simp only at HEn q0 q1 q2 q3 q4
      go_upto_region 15 with fail
      have e0 := (Blk.new (W := wr) #[.int .i64 op, .int .i64 a, .int .i64 b, .int .i64 c, .int .i64 imm] 66 0 (by simp)).1
      have e1 := (Blk.new (W := wr) #[.int .i64 op, .int .i64 a, .int .i64 b, .int .i64 c, .int .i64 imm] 66 1 (by simp)).1
      have e2 := (Blk.new (W := wr) #[.int .i64 op, .int .i64 a, .int .i64 b, .int .i64 c, .int .i64 imm] 66 2 (by simp)).1
      have e3 := (Blk.new (W := wr) #[.int .i64 op, .int .i64 a, .int .i64 b, .int .i64 c, .int .i64 imm] 66 3 (by simp)).1
      have e4 := (Blk.new (W := wr) #[.int .i64 op, .int .i64 a, .int .i64 b, .int .i64 c, .int .i64 imm] 66 4 (by simp)).1
      have hA5 := hw.alloc hw.size (.cells #[.int .i64 op, .int .i64 a, .int .i64 b, .int .i64 c, .int .i64 imm] 66)
      have own5 := hownr.alloc (.cells #[.int .i64 op, .int .i64 a, .int .i64 b, .int .i64 c, .int .i64 imm] 66)
      clear q0 q1 q2 q3 q4 hw hownr
      generalize wr.alloc (.cells #[.int .i64 op, .int .i64 a, .int .i64 b, .int .i64 c, .int .i64 imm] 66) = W5 at *
      generalize wr.heap.size = Z at *
      have hw5 := hA5.size
      go_wp2_with (first
        | (go_at_call 59; (with_reducible refine (HEn.out _).mono ?_); rintro e w6 ⟨B6, hB6, rfl, hk6, hb6⟩; have own6 := own_later8 own5 hb6; have hn6 := blk_news8 hk6; have hw6 := hb6.size)
        | (at_builtin; refine wpList_append_own _ rfl (.tmp 70) (.tmp 71) 52 rfl w1.heap.size 5 i0 (.int .u8 0) 1 1 Try.underlying52 hi hz0 hz1 hz2 rfl (by decide) _ _ _ rfl own6 ⟨B6, 0, none⟩ 6 6 (u8s (encB ⟨op, a, b, c, imm⟩)) rfl rfl hn6 ?g2 ?g3 ?g4 ?g5 ?_))
      case g2 => intro u hu; obtain ⟨y, _, rfl⟩ := List.mem_map.1 hu; rfl
      case g3 => unfold maxLen; omega
      case g4 => omega
      case g5 => omega
      intro v7 w7 hown7 hg7 _h7
      have HF := Lib.hid ((hA5.trans (hb6.mono hw5)).grown hg7 (by omega) (fun j hj => (own6.lt j hj).1))
      have HO : Hid (w7.ownsRow w1.heap.size 5 1 v7 (tl8 C s L (j + 1)).length (u8V (tl8 C s L (j + 1)))) := Lib.hid (by
        rw [HN.out, List.length_append]
        have e2 : u8V (tl8 C s L j ++ encB ⟨op, a, b, c, imm⟩) = u8V (tl8 C s L j) ++ u8s (encB ⟨op, a, b, c, imm⟩) := by simp [u8V, u8s]
        rw [e2]
        exact hown7)
      clear hown7 hg7 own6 hb6 hn6 hk6 own5 hA5 HN e0 e1 e2 e3 e4 _h7
      go_wp2_with fail
      refine ⟨⟨j + 1, by omega, by go_num, HO.out, HF.out⟩, ?_⟩
      simp [intOf]
      omega
    · obtain rfl : j = C.length := by omega
      have HEq : Hid (tl8 C s L C.length = encP C s L) := Lib.hid (by unfold tl8 encP; rw [List.take_length])
      rw [HEq.out, ← HV.out] at hownr
      obtain ⟨hnn, aR, cR, rfl, hna⟩ := NatsAt.of_row hownr
      have hcap : (encV C s L).length ≤ cR := hownr.cap_le
      have HF := Lib.hid (HB.out.trans (hw.mono HB.out.size))
      clear hownr hlt hc1 hw
      go_wp2_with fail
      go_ret2
      exact ⟨aR, cR, by rw [HK.out]; rfl, hcap, hna, HF.out⟩
end Go.Proofs.Ythajndgljfbifaa
