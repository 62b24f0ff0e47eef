/-
  What the laws about instructions draw: the deck and its instructions, as the walks ask for them; an instruction's box.
-/
import Derived.Test.YthajndgljfbifaaIc6
import Derived.Laws.StructEq
namespace Go.Proofs.Ythajndgljfbifaa
open Go.RowKit
set_option maxRecDepth 100000

theorem ints_later {k : IntKind} {w w' : World} {a : Option Addr} {xs : List Int} (h : IntsAt k w a xs) (hb : Below w.heap.size w w') : IntsAt k w' a xs := by
  rcases h with h | ⟨b, off, ha, hc⟩
  · exact .inl h
  · exact .inr ⟨b, off, ha, fun j hj => cell_later hb (hc j hj)⟩

/-- A list of ints that came in: all are in their range, and there are not too many. -/
def GoodInts (xs : List Int) : Prop := (∀ x ∈ xs, -9223372036854775808 ≤ x ∧ x ≤ 9223372036854775807) ∧ xs.length ≤ 9223372036854775807

theorem new_in (a : Option Addr) (xs : List Int) (cap : Nat) (W : World) (ha : IntsAt .i64 W a xs) (hx : GoodInts xs) :
    Calls Try.prog 11 #[.slice a xs.length cap] W fun e w' => e = .returned (.pointer (some ⟨W.heap.size, 0, none⟩)) ∧ Deck w' W.heap.size ∧ Below W.heap.size W w' :=
  make_New a xs cap W ha hx.1 hx.2

theorem instr_in (D : Nat) (W : World) (h : Deck W D) :
    Calls Try.prog 35 #[.pointer (some ⟨D, 0, none⟩), .int .i64 4, .int .i64 64] W (GivesIns 4 64 D W) :=
  deck_Instr D 4 64 W h (by omega) (by omega) (by omega) (by omega)

/-- An instruction in a block of its own. -/
def InsBox (w : World) (B : Nat) (x : Ins) : Prop := Blk w B (insRow x)

theorem InsBox.later {w w' : World} {B : Nat} {x : Ins} (h : InsBox w B x) (hb : Below w.heap.size w w') : InsBox w' B x := Blk.later h hb

theorem InsBox.new (w : World) (x : Ins) : InsBox (w.alloc (.cells #[.int .i64 x.op, .int .i64 x.a, .int .i64 x.b, .int .i64 x.c, .int .i64 x.imm] 66)) w.heap.size x := Blk.new (W := w) _ _

/-- Whether two instructions are the same. -/
def sameI (x y : Ins) : Bool := x.op == y.op && (x.a == y.a && (x.b == y.b && (x.c == y.c && x.imm == y.imm)))

theorem sameI_iff (x y : Ins) : sameI x y = true ↔ x = y := by
  obtain ⟨a, b, c, d, e⟩ := x
  obtain ⟨a', b', c', d', e'⟩ := y
  simp [sameI]

theorem str_same (x y : Ins) (hx : vinB x = true) (hy : vinB y = true) : ((strOf (encB x)).toList == (strOf (encB y)).toList) = sameI x y := by
  rw [Bool.eq_iff_iff, sameI_iff, beq_iff_eq]
  refine ⟨fun h => enc_inj x y hx hy (strOf_inj (encB_lt x hx) (encB_lt y hy) ?_), fun h => by rw [h]⟩
  rw [ByteArray.toList_eq, ByteArray.toList_eq] at h
  exact congrArg ByteArray.mk (Array.toList_inj.1 h)

theorem eql_ins (x y : Ins) (w : World) :
    (binOp .eql 66 (.agg #[.int .i64 x.op, .int .i64 x.a, .int .i64 x.b, .int .i64 x.c, .int .i64 x.imm]) (.agg #[.int .i64 y.op, .int .i64 y.a, .int .i64 y.b, .int .i64 y.c, .int .i64 y.imm])).run Try.prog w = .ok (.bool (sameI x y)) w := by
  unfold sameI
  obtain ⟨p0, h0⟩ : ∃ p, (x.op == y.op) = p := ⟨_, rfl⟩
  obtain ⟨p1, h1⟩ : ∃ p, (x.a == y.a) = p := ⟨_, rfl⟩
  obtain ⟨p2, h2⟩ : ∃ p, (x.b == y.b) = p := ⟨_, rfl⟩
  obtain ⟨p3, h3⟩ : ∃ p, (x.c == y.c) = p := ⟨_, rfl⟩
  obtain ⟨p4, h4⟩ : ∃ p, (x.imm == y.imm) = p := ⟨_, rfl⟩
  rw [h0, h1, h2, h3, h4]
  cases p0 <;> cases p1 <;> cases p2 <;> cases p3 <;> cases p4
  all_goals go_simp

theorem neq_ins (x y : Ins) (w : World) :
    (binOp .neq 66 (.agg #[.int .i64 x.op, .int .i64 x.a, .int .i64 x.b, .int .i64 x.c, .int .i64 x.imm]) (.agg #[.int .i64 y.op, .int .i64 y.a, .int .i64 y.b, .int .i64 y.c, .int .i64 y.imm])).run Try.prog w = .ok (.bool (!sameI x y)) w := by
  unfold sameI
  obtain ⟨p0, h0⟩ : ∃ p, (x.op == y.op) = p := ⟨_, rfl⟩
  obtain ⟨p1, h1⟩ : ∃ p, (x.a == y.a) = p := ⟨_, rfl⟩
  obtain ⟨p2, h2⟩ : ∃ p, (x.b == y.b) = p := ⟨_, rfl⟩
  obtain ⟨p3, h3⟩ : ∃ p, (x.c == y.c) = p := ⟨_, rfl⟩
  obtain ⟨p4, h4⟩ : ∃ p, (x.imm == y.imm) = p := ⟨_, rfl⟩
  rw [h0, h1, h2, h3, h4]
  cases p0 <;> cases p1 <;> cases p2 <;> cases p3 <;> cases p4
  all_goals go_simp

theorem vin_of {x : Ins} (h : InsIn 4 64 x) : vinB x = true := (vinB_iff x).2 h

/-- Bytes that the call owns. -/
theorem own_bytes {w : World} {B : Nat} {v : Value} {n : Nat} {l : List Nat} (h : w.ownsRow B 5 1 v n (u8s l)) (h0 : 0 < l.length) :
    ∃ g cap, v = .slice (some ⟨g, 0, none⟩) l.length cap ∧ B ≤ g ∧ n = l.length ∧ l.length ≤ cap := by
  have hn : n = l.length := by have := h.1; rw [length_u8s] at this; omega
  subst hn
  rcases h.2 with ⟨_, h1⟩ | ⟨g, cap, cur, hv, hb, _, hc, _⟩
  · omega
  · exact ⟨g, cap, hv, hb, rfl, hc⟩

theorem blk_news {w : World} {B : Nat} {l : List Value} (h : Blk w B l) : ∀ j u, l[j]? = some u → w.cell? ((⟨B, 0, none⟩ : Addr).add j) = some u := fun j u hj => by
  obtain ⟨hj1, hj2⟩ := List.getElem?_eq_some_iff.1 hj
  have := (h j hj1).1
  rw [hj2] at this
  rw [show (⟨B, 0, none⟩ : Addr).add j = ⟨B, j, none⟩ by unfold Addr.add; split <;> simp_all]
  exact this

theorem u8s_one (l : List Nat) : ∀ u ∈ u8s l, u.oneCell' = true := fun u hu => by
  simp [u8s] at hu
  obtain ⟨n, _, rfl⟩ := hu
  simp [Value.oneCell']

theorem u8s_set (l : List Nat) (i z : Nat) : (u8s l).set i (.int .u8 (z : Int)) = u8s (l.set i z) := by simp [u8s]

theorem own_nats {w : World} {B : Nat} {v : Value} {n : Nat} {l : List Nat} {g cap m : Nat} (h : w.ownsRow B 5 1 v n (u8s l)) (hv : v = .slice (some ⟨g, 0, none⟩) m cap) : NatsAt .u8 w (some ⟨g, 0, none⟩) l := by
  obtain ⟨_, a, c, h1, h2⟩ := NatsAt.of_row h
  rw [hv] at h1
  cases h1
  exact h2
end Go.Proofs.Ythajndgljfbifaa
