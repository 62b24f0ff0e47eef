/-
  Threads in memory; the threads at the beginning of a program.
  The threads at the beginning of a program: the program's.
-/
import Derived.Test.YthajndgljfbifaaRM1
import Derived.OwnWalk
import Derived.Test.YthajndgljfbifaaCells2
namespace Go.Proofs.Ythajndgljfbifaa
open Go.RowKit
set_option maxRecDepth 100000

/-- A thread. -/
structure Thr where
  st : Int
  regs : List (Nat × Nat)
  pc : Int
  count : Int
  handler : Int
  saved : Int
  trap : Int
  code : Nat

/-- A thread lies in memory at a place. -/
def ThrAt (w : World) (b o : Nat) (x : Thr) : Prop :=
  w.cell? ⟨b, o, none⟩ = some (.int .i64 x.st) ∧ (∃ a c, w.cell? ⟨b, o + 1, none⟩ = some (.slice a x.regs.length c) ∧ CellsAt w a x.regs) ∧ w.cell? ⟨b, o + 2, none⟩ = some (.int .i64 x.pc) ∧ w.cell? ⟨b, o + 3, none⟩ = some (.int .i64 x.count) ∧
    w.cell? ⟨b, o + 4, none⟩ = some (.int .i64 x.handler) ∧ w.cell? ⟨b, o + 5, none⟩ = some (.int .i64 x.saved) ∧ w.cell? ⟨b, o + 6, none⟩ = some (.int .i64 x.trap) ∧ w.cell? ⟨b, o + 7, none⟩ = some (.int .u16 (x.code : Int))

theorem ThrAt.later {w w' : World} {b o : Nat} {x : Thr} (h : ThrAt w b o x) (hb : Below w.heap.size w w') : ThrAt w' b o x := by
  obtain ⟨h0, ⟨a, c, h1, h2⟩, h3, h4, h5, h6, h7, h8⟩ := h
  exact ⟨cell_later hb h0, ⟨a, c, cell_later hb h1, h2.later hb⟩, cell_later hb h3, cell_later hb h4, cell_later hb h5, cell_later hb h6, cell_later hb h7, cell_later hb h8⟩

/-- Threads lie in memory from an address on. -/
def ThrsAt (w : World) (a : Option Addr) (ts : List Thr) : Prop :=
  ts = [] ∨ ∃ b off, a = some ⟨b, off, none⟩ ∧ ∀ i (h : i < ts.length), ThrAt w b (off + i * 8) ts[i]

theorem ThrsAt.later {w w' : World} {a : Option Addr} {ts : List Thr} (h : ThrsAt w a ts) (hb : Below w.heap.size w w') : ThrsAt w' a ts := by
  rcases h with h | ⟨b, off, ha, h⟩
  · exact .inl h
  · exact .inr ⟨b, off, ha, fun i hi => (h i hi).later hb⟩

theorem ThrsAt.some {w : World} {a : Option Addr} {ts : List Thr} (h : ThrsAt w a ts) {k : Nat} (hk : k < ts.length) :
    ∃ b off, a = some ⟨b, off, none⟩ ∧ ∀ i (h : i < ts.length), ThrAt w b (off + i * 8) ts[i] := by
  rcases h with rfl | h
  · simp at hk
  · exact h

/-- A thread that is free; the threads at the beginning. -/
def freeT (s : Int) : Thr := ⟨s, List.replicate 8 (0, 0), 0, 0, -1, -1, 0, 0⟩
def firstT : List Thr := [freeT 1, freeT 0, freeT 0, freeT 0]

theorem info_thread : (Try.prog.info? 86).map (fun i => (i.zero, i.size, i.bytes)) = some (some (.agg #[.int .i64 0, .slice none 0 0, .int .i64 0, .int .i64 0, .int .i64 0, .int .i64 0, .int .i64 0, .int .u16 0]), 8, 80) := by kernel_rfl

/-- The cells of threads; their registers' slices are values of their own. -/
def thrRow (x : Thr) (v : Value) : List Value := [.int .i64 x.st, v, .int .i64 x.pc, .int .i64 x.count, .int .i64 x.handler, .int .i64 x.saved, .int .i64 x.trap, .int .u16 (x.code : Int)]
def thrRows (ts : List Thr) (vs : List Value) : List (List Value) := List.zipWith thrRow ts vs

theorem wide_thr (ts : List Thr) (vs : List Value) : Wide 8 (thrRows ts vs) := by
  intro r hr
  unfold thrRows at hr
  obtain ⟨i, hi, rfl⟩ := List.getElem_of_mem hr
  simp [thrRow]

theorem length_thrRows (ts : List Thr) (vs : List Value) (h : vs.length = ts.length) : (thrRows ts vs).length = ts.length := by simp [thrRows, h]

/-- Registers, off a block. -/
def RegsOff (lo : Nat) (own : Option Nat) (w : World) (l : List (Nat × Nat)) (v : Value) : Prop :=
  ∃ b off c, v = .slice (some ⟨b, off, none⟩) l.length c ∧ own ≠ some b ∧ lo ≤ b ∧ CellsAt w (some ⟨b, off, none⟩) l ∧ 0 < l.length

theorem cells_kept8 {w w' : World} {b off : Nat} {l : List (Nat × Nat)} {r : Option Nat} (h : CellsAt w (Option.some ⟨b, off, none⟩) l) (hg : w.grownBy w' r) (hr : r ≠ Option.some b) : CellsAt w' (Option.some ⟨b, off, none⟩) l := by
  rcases h with h | ⟨b2, o2, ha, h⟩
  · exact .inl h
  · cases ha
    exact .inr ⟨_, _, rfl, fun i hi => ⟨hg.cell (h i hi).1 (fun e => hr e.symm), hg.cell (h i hi).2 (fun e => hr e.symm)⟩⟩

theorem RegsOff.kept {lo : Nat} {own r : Option Nat} {w w' : World} {l : List (Nat × Nat)} {v : Value} (h : RegsOff lo own w l v) (hg : w.grownBy w' r) (hr : r = own ∨ ∀ b, r = some b → b < lo) : RegsOff lo own w' l v := by
  obtain ⟨b, off, c, hv, h1, h4, h2, h3⟩ := h
  refine ⟨b, off, c, hv, h1, h4, cells_kept8 h2 hg ?_, h3⟩
  rcases hr with rfl | hr
  · exact h1
  · intro e
    have := hr b e
    omega

/-- Threads in blocks from lo on, their registers too. -/
def ThrsIn (lo : Nat) (w : World) (a : Option Addr) (ts : List Thr) : Prop :=
  ∃ b off, a = some ⟨b, off, none⟩ ∧ lo ≤ b ∧ ∀ i (h : i < ts.length), w.cell? ⟨b, off + i * 8, none⟩ = some (.int .i64 ts[i].st) ∧ (∃ rb ro c, w.cell? ⟨b, off + i * 8 + 1, none⟩ = some (.slice (some ⟨rb, ro, none⟩) ts[i].regs.length c) ∧ lo ≤ rb ∧ CellsAt w (some ⟨rb, ro, none⟩) ts[i].regs) ∧
    w.cell? ⟨b, off + i * 8 + 2, none⟩ = some (.int .i64 ts[i].pc) ∧ w.cell? ⟨b, off + i * 8 + 3, none⟩ = some (.int .i64 ts[i].count) ∧ w.cell? ⟨b, off + i * 8 + 4, none⟩ = some (.int .i64 ts[i].handler) ∧ w.cell? ⟨b, off + i * 8 + 5, none⟩ = some (.int .i64 ts[i].saved) ∧
    w.cell? ⟨b, off + i * 8 + 6, none⟩ = some (.int .i64 ts[i].trap) ∧ w.cell? ⟨b, off + i * 8 + 7, none⟩ = some (.int .u16 (ts[i].code : Int))

theorem ThrsIn.at {lo : Nat} {w : World} {a : Option Addr} {ts : List Thr} (h : ThrsIn lo w a ts) : ThrsAt w a ts := by
  obtain ⟨b, off, ha, _, h⟩ := h
  refine .inr ⟨b, off, ha, fun i hi => ?_⟩
  obtain ⟨h0, ⟨rb, ro, c, h1, _, h2⟩, h3⟩ := h i hi
  exact ⟨h0, ⟨_, c, h1, h2⟩, h3⟩

theorem ThrsIn.kept {lo : Nat} {w w' : World} {a : Option Addr} {ts : List Thr} {r : Option Nat} (h : ThrsIn lo w a ts) (hg : w.grownBy w' r) (hr : ∀ b, r = some b → b < lo) : ThrsIn lo w' a ts := by
  obtain ⟨b, off, ha, hb, h⟩ := h
  refine ⟨b, off, ha, hb, fun i hi => ?_⟩
  have hne : some b ≠ r := fun e => by have := hr b e.symm; omega
  obtain ⟨h0, ⟨rb, ro, c, h1, hrb, h2⟩, h3, h4, h5, h6, h7, h8⟩ := h i hi
  exact ⟨hg.cell h0 hne, ⟨rb, ro, c, hg.cell h1 hne, hrb, cells_kept8 h2 hg (fun e => by have := hr rb e; omega)⟩, hg.cell h3 hne, hg.cell h4 hne, hg.cell h5 hne, hg.cell h6 hne, hg.cell h7 hne, hg.cell h8 hne⟩

theorem ThrsIn.later {lo : Nat} {w w' : World} {a : Option Addr} {ts : List Thr} (h : ThrsIn lo w a ts) (hb : Below w.heap.size w w') : ThrsIn lo w' a ts := h.kept (grownBy_below hb rfl none) (fun b hb => by cases hb)

theorem ThrsIn.mono {lo lo' : Nat} {w : World} {a : Option Addr} {ts : List Thr} (h : ThrsIn lo w a ts) (hl : lo' ≤ lo) : ThrsIn lo' w a ts := by
  obtain ⟨b, off, ha, hb, h⟩ := h
  refine ⟨b, off, ha, by omega, fun i hi => ?_⟩
  obtain ⟨h0, ⟨rb, ro, c, h1, hrb, h2⟩, h3⟩ := h i hi
  exact ⟨h0, ⟨rb, ro, c, h1, by omega, h2⟩, h3⟩

/-- A row of threads of the call's own: at. -/
theorem thrs_of_own {w : World} {base g n cap : Nat} {ts : List Thr} {vs : List Value} {lo : Nat} {own : Option Nat} (h : w.ownsRow base 86 8 (.slice (some ⟨g, 0, none⟩) n cap) n (thrRows ts vs).flatten) (hl : vs.length = ts.length) (hlo : lo ≤ base)
    (hr : ∀ i (h1 : i < ts.length) (h2 : i < vs.length), RegsOff lo own w ts[i].regs vs[i]) : ThrsIn lo w (some ⟨g, 0, none⟩) ts ∧ n = ts.length := by
  have hn : n = ts.length := by
    have := h.1
    rw [length_flatten (wide_thr ts vs), length_thrRows _ _ hl] at this
    omega
  refine ⟨⟨g, 0, rfl, by have := (h.lt g rfl).1; omega, fun i hi => ?_⟩, hn⟩
  have hiv : i < vs.length := by omega
  have hc : ∀ j, j < 8 → w.cell? ⟨g, 0 + i * 8 + j, none⟩ = (thrRow ts[i] vs[i])[j]? := fun j hj => by
    have h1 := h.cellAt (i * 8 + j) (by omega)
    rw [flatten_at (wide_thr ts vs) i j (by rw [length_thrRows _ _ hl]; exact hi) hj] at h1
    rw [Nat.zero_add, h1]
    simp [thrRows]
  obtain ⟨b, off, c, hv, _, hb, h2, _⟩ := hr i hi hiv
  exact ⟨(hc 0 (by omega)).trans rfl, ⟨b, off, c, (hc 1 (by omega)).trans (by rw [hv]; rfl), hb, h2⟩, (hc 2 (by omega)).trans rfl, (hc 3 (by omega)).trans rfl, (hc 4 (by omega)).trans rfl, (hc 5 (by omega)).trans rfl, (hc 6 (by omega)).trans rfl, (hc 7 (by omega)).trans rfl⟩

/-- Eight cells of a row are set. -/
def put8 (g o : Nat) (w : World) (v0 v1 v2 v3 v4 v5 v6 v7 : Value) : World :=
  (((((((w.setCell ⟨g, o, none⟩ v0).setCell ⟨g, o + 1, none⟩ v1).setCell ⟨g, o + 2, none⟩ v2).setCell ⟨g, o + 3, none⟩ v3).setCell ⟨g, o + 4, none⟩ v4).setCell ⟨g, o + 5, none⟩ v5).setCell ⟨g, o + 6, none⟩ v6).setCell ⟨g, o + 7, none⟩ v7

theorem own_put8 {w : World} {base : Nat} {T : TypeId} {g n cap k : Nat} {rows : List (List Value)} (h : w.ownsRow base T 8 (.slice (some ⟨g, 0, none⟩) n cap) n rows.flatten) (hw : Wide 8 rows) (hk : k < rows.length) (v0 v1 v2 v3 v4 v5 v6 v7 : Value) :
    (put8 g (k * 8) w v0 v1 v2 v3 v4 v5 v6 v7).ownsRow base T 8 (.slice (some ⟨g, 0, none⟩) n cap) n (rows.set k [v0, v1, v2, v3, v4, v5, v6, v7]).flatten ∧ w.grownBy (put8 g (k * 8) w v0 v1 v2 v3 v4 v5 v6 v7) (some g) := by
  have h0 := h.stored (k * 8) v0
  have h1 := h0.1.stored (k * 8 + 1) v1
  have h2 := h1.1.stored (k * 8 + 2) v2
  have h3 := h2.1.stored (k * 8 + 3) v3
  have h4 := h3.1.stored (k * 8 + 4) v4
  have h5 := h4.1.stored (k * 8 + 5) v5
  have h6 := h5.1.stored (k * 8 + 6) v6
  have h7 := h6.1.stored (k * 8 + 7) v7
  refine ⟨?_, grownBy_trans (grownBy_trans (grownBy_trans (grownBy_trans (grownBy_trans (grownBy_trans (grownBy_trans h0.2 h1.2) h2.2) h3.2) h4.2) h5.2) h6.2) h7.2⟩
  have hset : ∀ (rs : List (List Value)) (j : Nat) (v : Value), Wide 8 rs → k < rs.length → j < 8 → ∃ rs', rs' = rs.set k ((rs.getD k []).set j v) ∧ rs.flatten.set (k * 8 + j) v = rs'.flatten ∧ Wide 8 rs' ∧ k < rs'.length := fun rs j v hw hk hj => by
    refine ⟨_, rfl, ?_, ?_, by simpa using hk⟩
    · rw [flatten_set hw k j v hk hj, List.getD_eq_getElem?_getD, List.getElem?_eq_getElem hk]; rfl
    · intro r hr
      rcases List.mem_or_eq_of_mem_set hr with hr | rfl
      · exact hw r hr
      · rw [List.length_set, List.getD_eq_getElem?_getD, List.getElem?_eq_getElem hk]
        exact hw _ (List.getElem_mem hk)
  obtain ⟨r0, e0, f0, w0, k0⟩ := hset rows 0 v0 hw hk (by omega)
  obtain ⟨r1, e1, f1, w1, k1⟩ := hset r0 1 v1 w0 k0 (by omega)
  obtain ⟨r2, e2, f2, w2, k2⟩ := hset r1 2 v2 w1 k1 (by omega)
  obtain ⟨r3, e3, f3, w3, k3⟩ := hset r2 3 v3 w2 k2 (by omega)
  obtain ⟨r4, e4, f4, w4, k4⟩ := hset r3 4 v4 w3 k3 (by omega)
  obtain ⟨r5, e5, f5, w5, k5⟩ := hset r4 5 v5 w4 k4 (by omega)
  obtain ⟨r6, e6, f6, w6, k6⟩ := hset r5 6 v6 w5 k5 (by omega)
  obtain ⟨r7, e7, f7, w7, k7⟩ := hset r6 7 v7 w6 k6 (by omega)
  have h8 := h7.1
  rw [Nat.add_zero] at f0
  rw [f0, f1, f2, f3, f4, f5, f6, f7] at h8
  have hg : ∀ (rs : List (List Value)) (r : List Value), k < rs.length → (rs.set k r).getD k [] = r := fun rs r hk => by
    rw [List.getD_eq_getElem?_getD, List.getElem?_set_self hk]; rfl
  have er : r7 = rows.set k [v0, v1, v2, v3, v4, v5, v6, v7] := by
    obtain ⟨x0, x1, x2, x3, x4, x5, x6, x7, hx⟩ : ∃ x0 x1 x2 x3 x4 x5 x6 x7, rows.getD k [] = [x0, x1, x2, x3, x4, x5, x6, x7] := by
      have hl : (rows.getD k []).length = 8 := by
        rw [List.getD_eq_getElem?_getD, List.getElem?_eq_getElem hk]
        exact hw _ (List.getElem_mem hk)
      match rows.getD k [], hl with
      | [x0, x1, x2, x3, x4, x5, x6, x7], _ => exact ⟨x0, x1, x2, x3, x4, x5, x6, x7, rfl⟩
    rw [hx] at e0
    rw [e0, hg _ _ hk, List.set_set] at e1
    rw [e1, hg _ _ hk, List.set_set] at e2
    rw [e2, hg _ _ hk, List.set_set] at e3
    rw [e3, hg _ _ hk, List.set_set] at e4
    rw [e4, hg _ _ hk, List.set_set] at e5
    rw [e5, hg _ _ hk, List.set_set] at e6
    rw [e6, hg _ _ hk, List.set_set] at e7
    rw [e7]
    rfl
  rw [← er]
  exact h8

def zeroThr : List Value := [.int .i64 0, .slice none 0 0, .int .i64 0, .int .i64 0, .int .i64 0, .int .i64 0, .int .i64 0, .int .u16 0]

/-- The first k threads are free, the others zero. -/
def thrTo (vs : List Value) : List (List Value) := thrRows (List.replicate vs.length (freeT 0)) vs ++ List.replicate (4 - vs.length) zeroThr

theorem wide_thrTo (vs : List Value) : Wide 8 (thrTo vs) := by
  intro r hr
  rcases List.mem_append.1 hr with hr | hr
  · exact wide_thr _ _ r hr
  · rw [(List.mem_replicate.1 hr).2]; rfl

theorem length_thrTo (vs : List Value) (h : vs.length ≤ 4) : (thrTo vs).length = 4 := by
  unfold thrTo
  rw [List.length_append, length_thrRows _ _ (by simp), List.length_replicate, List.length_replicate]
  omega

theorem thrTo_next (vs : List Value) (v : Value) (h : vs.length < 4) : (thrTo vs).set vs.length (thrRow (freeT 0) v) = thrTo (vs ++ [v]) := by
  unfold thrTo thrRows
  rw [List.set_append_right _ _ (by simp), List.length_zipWith, List.length_replicate, Nat.min_self, Nat.sub_self, show 4 - vs.length = (4 - (vs.length + 1)) + 1 by omega, List.replicate_succ, List.set_cons_zero, List.length_append, List.length_singleton, List.replicate_succ', List.zipWith_append (by simp)]
  simp
end Go.Proofs.Ythajndgljfbifaa
namespace Go.Proofs.Ythajndgljfbifaa
open Go.RowKit
set_option maxRecDepth 100000

theorem own_made4 : (madeCells #[Value.int .i64 0, .slice none 0 0, .int .i64 0, .int .i64 0, .int .i64 0, .int .i64 0, .int .i64 0, .int .u16 0] (4 * 8)).toList = (thrTo []).flatten := made_rows [.int .i64 0, .slice none 0 0, .int .i64 0, .int .i64 0, .int .i64 0, .int .i64 0, .int .i64 0, .int .u16 0] 4

theorem made_regs : (madeCells #[Value.int .u8 0, Value.int .u16 0] (8 * 2)).toList = (cellRows (List.replicate 8 (0, 0))).flatten := made_rows [.int .u8 0, .int .u16 0] 8

set_option maxHeartbeats 4000000 in
theorem program_firstThreads (w : World) : Calls Try.prog 52 #[] w fun e w' => ∃ ta tc, e = .returned (.slice ta 4 tc) ∧ 4 ≤ tc ∧ ThrsIn w.heap.size w' ta firstT ∧ Below w.heap.size w w' := by
  obtain ⟨i0, hi, hz0, hz1, hz2⟩ := info_parts info_thread
  obtain ⟨j0, hj, hy0, hy1, hy2⟩ := info_parts info_cell4
  go_enter Try.func52, Try.ntmps52
  go_upto_region 3 with (first
    | (at_make; refine wpList_make_full _ rfl _ _ 45 rfl w.heap.size 86 i0 _ 8 Try.underlying45 hi hz0 hz1 .i64 .i64 _ _ 4 rfl rfl rfl rfl ?c1 ?c2 ?c3 ?_))
  case c1 => rw [hz2]; omega
  case c2 => unfold maxLen; omega
  case c3 => exact Nat.le_refl _
  intro w1 hown hg
  have hown0 : w1.ownsRow w.heap.size 86 8 (.slice (some ⟨w.heap.size, 0, none⟩) 4 4) 4 (thrTo []).flatten := by rw [← own_made4]; exact hown
  have hb0 : Below w.heap.size w w1 := (Below.refl _ _).grown hg (Nat.le_refl _) (fun k hk => by cases hk)
  clear hown hg
  go_upto_region 3 with fail
  go_loopw [6] (fun c wr => ∃ vs : List Value, vs.length ≤ 4 ∧ c = .int .i64 (vs.length : Int) ∧ wr.ownsRow w.heap.size 86 8 (.slice (some ⟨w.heap.size, 0, none⟩) 4 4) 4 (thrTo vs).flatten ∧ (∀ v ∈ vs, RegsOff w.heap.size (some w.heap.size) wr (List.replicate 8 (0, 0)) v) ∧ Below w.heap.size w wr) (fun c _ => 4 - (intOf c).toNat)
  case atStart => exact ⟨[], by simp, rfl, hown0, by simp, hb0⟩
  clear hown0 hb0
  obtain ⟨vs, hk, rfl, hown, hregs, hb⟩ := hrel
  by_cases hlt : vs.length < 4
  · have i1 : (vs.length : Int) < 4 := by omega
    have i2 : 0 ≤ (vs.length : Int) := by omega
    have HRG := Lib.hid hregs
    have HBB := Lib.hid hb
    have hbs := hb.size
    clear hregs hb
    go_upto_region 6 with (first
      | (at_make; refine wpList_make_full _ rfl _ _ 41 rfl wr.heap.size 127 j0 _ 2 Try.underlying41 hj hy0 hy1 .i64 .i64 _ _ 8 rfl rfl rfl rfl ?d1 ?d2 ?d3 ?_))
    case d1 => rw [hy2]; omega
    case d2 => unfold maxLen; omega
    case d3 => exact Nat.le_refl _
    intro w2 hown2 hg2
    have hlt2 : w.heap.size < wr.heap.size := (hown.lt w.heap.size rfl).2
    have hb2 : Below wr.heap.size wr w2 := (Below.refl _ _).grown hg2 (Nat.le_refl _) (fun k hk => by cases hk)
    have hown5 : w2.ownsRow w.heap.size 86 8 (.slice (some ⟨w.heap.size, 0, none⟩) 4 4) 4 (thrTo vs).flatten := hown.kept (grownBy_below hb2 rfl none) (.inr (by simp [Value.ownBlock]))
    have hregs2 : w2.ownsRow wr.heap.size 127 2 (.slice (some ⟨wr.heap.size, 0, none⟩) 8 8) 8 (cellRows (List.replicate 8 (0, 0))).flatten := by rw [← made_regs]; exact hown2
    have hro : RegsOff w.heap.size (some w.heap.size) w2 (List.replicate 8 (0, 0)) (.slice (some ⟨wr.heap.size, 0, none⟩) 8 8) := by
      obtain ⟨_, a, cap, hv, hc, _⟩ := CellsAt.of_own hregs2
      simp only [List.length_replicate, Value.slice.injEq, true_and] at hv
      obtain ⟨rfl, rfl⟩ := hv
      exact ⟨_, _, 8, rfl, by simp; omega, by omega, hc, by simp⟩
    have hw8 := wide_thrTo vs
    have hl8 := length_thrTo vs hk
    have hcell : ∀ j, j < 8 → ∃ u, w2.cell? ⟨w.heap.size, vs.length * 8 + j, none⟩ = some u := fun j hj => by
      have hlt8 : vs.length * 8 + j < (thrTo vs).flatten.length := by rw [length_flatten hw8, hl8]; omega
      exact ⟨_, (hown5.cellAt (vs.length * 8 + j) (by omega)).trans (List.getElem?_eq_getElem hlt8)⟩
    have hfz : ∀ j, w2.frozen? ⟨w.heap.size, vs.length * 8 + j, none⟩ = false := fun j => hown5.frozenAt _
    obtain ⟨u0, c0⟩ := hcell 0 (by omega)
    obtain ⟨u1, c1⟩ := hcell 1 (by omega)
    obtain ⟨u2, c2⟩ := hcell 2 (by omega)
    obtain ⟨u3, c3⟩ := hcell 3 (by omega)
    obtain ⟨u4, c4⟩ := hcell 4 (by omega)
    obtain ⟨u5, c5⟩ := hcell 5 (by omega)
    obtain ⟨u6, c6⟩ := hcell 6 (by omega)
    obtain ⟨u7, c7⟩ := hcell 7 (by omega)
    have f0 := hfz 0
    have f1 := hfz 1
    have f2 := hfz 2
    have f3 := hfz 3
    have f4 := hfz 4
    have f5 := hfz 5
    have f6 := hfz 6
    have f7 := hfz 7
    rw [Nat.add_zero] at c0 f0
    have hput := own_put8 hown5 hw8 (by rw [hl8]; exact hlt) (.int .i64 0) (.slice (some ⟨wr.heap.size, 0, none⟩) 8 8) (.int .i64 0) (.int .i64 0) (.int .i64 (-1)) (.int .i64 (-1)) (.int .i64 0) (.int .u16 0)
    have hnext := thrTo_next vs (.slice (some ⟨wr.heap.size, 0, none⟩) 8 8) hlt
    have HP1 : Hid ((put8 w.heap.size (vs.length * 8) w2 (.int .i64 0) (.slice (some ⟨wr.heap.size, 0, none⟩) 8 8) (.int .i64 0) (.int .i64 0) (.int .i64 (-1)) (.int .i64 (-1)) (.int .i64 0) (.int .u16 0)).ownsRow w.heap.size 86 8 (.slice (some ⟨w.heap.size, 0, none⟩) 4 4) 4 (thrTo (vs ++ [.slice (some ⟨wr.heap.size, 0, none⟩) 8 8])).flatten) := Lib.hid (by
      rw [← hnext]; exact hput.1)
    have HP2 := Lib.hid hput.2
    have HP3 : Hid (∀ v ∈ vs ++ [.slice (some ⟨wr.heap.size, 0, none⟩) 8 8], RegsOff w.heap.size (some w.heap.size) (put8 w.heap.size (vs.length * 8) w2 (.int .i64 0) (.slice (some ⟨wr.heap.size, 0, none⟩) 8 8) (.int .i64 0) (.int .i64 0) (.int .i64 (-1)) (.int .i64 (-1)) (.int .i64 0) (.int .u16 0)) (List.replicate 8 (0, 0)) v) := Lib.hid (fun v hv => by
      rcases List.mem_append.1 hv with hv | hv
      · exact ((HRG.out v hv).kept (grownBy_below hb2 rfl none) (.inr (fun b hb => by cases hb))).kept hput.2 (.inl rfl)
      · rw [List.mem_singleton.1 hv]; exact hro.kept hput.2 (.inl rfl))
    have HP4 : Hid (Below w.heap.size w (put8 w.heap.size (vs.length * 8) w2 (.int .i64 0) (.slice (some ⟨wr.heap.size, 0, none⟩) 8 8) (.int .i64 0) (.int .i64 0) (.int .i64 (-1)) (.int .i64 (-1)) (.int .i64 0) (.int .u16 0))) := Lib.hid
      ((HBB.out.trans (hb2.mono hbs)).grown hput.2 (by have := hb2.size; omega) (fun j hj => by cases hj; exact Nat.le_refl _))
    clear hput hnext hcell hfz hw8 hl8 hro hregs2 hown5 hown2 hown HRG HBB hg2
    have l0 := World.block_lt_of_cell? _ _ c0
    go_wp2_with fail
    refine ⟨⟨vs ++ [Value.slice (some ⟨wr.heap.size, 0, none⟩) 8 8], by simp; omega, by rw [List.length_append]; go_num, HP1.out, HP3.out, HP4.out⟩, ?_⟩
    simp [intOf]
    omega
  · have h4 : vs.length = 4 := by omega
    obtain ⟨v0, v1, v2, v3, rfl⟩ : ∃ v0 v1 v2 v3, vs = [v0, v1, v2, v3] := by
      match vs, h4 with
      | [v0, v1, v2, v3], _ => exact ⟨v0, v1, v2, v3, rfl⟩
    have i1 : ¬ ((([v0, v1, v2, v3] : List Value).length : Nat) : Int) < 4 := by simp
    have hst := hown.stored 0 (.int .i64 1)
    have c0 := hown.cellAt 0 (by omega)
    have f0 := hown.frozenAt 0
    rw [show (thrTo [v0, v1, v2, v3]).flatten[0]? = some (.int .i64 0) by rfl] at c0
    have hset : (thrTo [v0, v1, v2, v3]).flatten.set 0 (.int .i64 1) = (thrRows firstT [v0, v1, v2, v3]).flatten := rfl
    rw [hset] at hst
    have hat := thrs_of_own (lo := w.heap.size) (own := some w.heap.size) hst.1 rfl (Nat.le_refl _) (fun i h1 h2 => by
      have hr : firstT[i].regs = List.replicate 8 (0, 0) := by
        have hi4 : i < 4 := h1
        rcases (show i = 0 ∨ i = 1 ∨ i = 2 ∨ i = 3 by omega) with rfl | rfl | rfl | rfl <;> rfl
      have hm := hregs _ (List.getElem_mem h2)
      have h9 := hm.kept hst.2 (.inl rfl)
      rw [← hr] at h9
      exact h9)
    have HAT := Lib.hid hat.1
    have HBB := Lib.hid (hb.grown hst.2 hb.size (fun j hj => by cases hj; exact Nat.le_refl _))
    clear hst hset hat hown hregs hb h4 hlt hk
    go_wp2_with fail
    go_ret
    exact ⟨_, 4, rfl, Nat.le_refl _, HAT.out, HBB.out⟩
end Go.Proofs.Ythajndgljfbifaa
