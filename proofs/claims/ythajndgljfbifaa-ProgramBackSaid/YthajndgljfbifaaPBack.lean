/-
  ProgramBack: for every list of ints the law returns true.
-/
import Derived.Test.YthajndgljfbifaaDec8
import Derived.Test.YthajndgljfbifaaAw8
import Derived.Test.YthajndgljfbifaaSame7
import Derived.Test.YthajndgljfbifaaOpenInts
namespace Go.Proofs.Ythajndgljfbifaa.programBackLaw
open Go.RowKit Go.ChangeShapes Go.WideShapes Go.ChangeAt
set_option maxRecDepth 100000

set_option maxHeartbeats 4000000 in
theorem core (a : Option Addr) (xs : List Int) (ca : Nat) (w : World) (ha : IntsAt .i64 w a xs) (hx : ∀ x ∈ xs, -9223372036854775808 ≤ x ∧ x ≤ 9223372036854775807) (hxl : xs.length ≤ 9223372036854775807) :
    Calls Try.prog 5 #[.slice a xs.length ca] w fun e w' => e = .returned (.bool true) ∧ Below w.heap.size w w' := by
  have HN1 := Lib.hid (make_New a xs ca w ha hx hxl)
  clear ha hx hxl
  go_enter Try.func5, Try.ntmps5
  go_wp2_with fail
  refine HN1.out.mono ?_
  rintro e w1 ⟨rfl, hd1, hb1⟩
  go_wp2_with fail
  refine (prog_in _ _ hd1).mono ?_
  rintro e w2 ⟨ac, a2, ad, cc, c2, cd, C, s, L, rfl, hg, hp2, hg2⟩
  have hB2 : Below w.heap.size w w2 := hb1.grown hg2 hb1.size (fun k hk => by cases hk; omega)
  clear HN1 hd1 hb1 hg2
  have X1 := Blk.new (W := w2) #[.slice ac C.length cc, .slice a2 s.length c2, .slice ad L.length cd] 26
  have hA1 := Below.alloc (Below.refl w2.heap.size w2) (Nat.le_refl _) (.cells #[.slice ac C.length cc, .slice a2 s.length c2, .slice ad L.length cd] 26)
  have P1 := hp2.later hA1
  have hB3 := hB2.trans (hA1.mono hB2.size)
  clear hA1 hB2 hp2
  go_upto_region 2 with fail
  generalize w2.alloc (.cells #[.slice ac C.length cc, .slice a2 s.length c2, .slice ad L.length cd] 26) = W3 at *
  generalize w2.heap.size = Z at *
  have hlen := hg.lens
  have hk0 := chk_good.2 hg.1
  have lc : C.length ≤ 1000000 := by omega
  have ls : s.length ≤ 1000000 := by omega
  have ld : L.length ≤ 1000000 := by omega
  have lr : ∀ l ∈ L, l.length ≤ 1000000 := fun l hl => by have := hlen.2.2.2 l hl; omega
  have HEn := Lib.hid (program_Encode ac a2 ad C s L cc c2 cd W3 P1.code P1.sizes P1.data lc ls ld lr hg.2)
  rw [hk0, show encV C s L = encP C s L from if_pos hk0] at HEn
  have HDe := Lib.hid (fun a' cap W hc ha' => program_DecodeEnc a' cap C s L W hg hc ha')
  have HSm := Lib.hid (fun W bc dc b2 d2 bd dd (hp : PgAt W ac a2 ad C s L) (hq : PgAt W bc b2 bd C s L) => ref07_Same ac a2 ad bc b2 bd C C s s L L cc c2 cd dc d2 dd W hp.code hp.sizes hp.data hq.code hq.sizes hq.data lc ls ld lr lr)
  have HCk := Lib.hid (fun W bc dc b2 d2 bd dd (hq : PgAt W bc b2 bd C s L) => program_Check bc b2 bd C s L dc d2 dd W hq.code hq.sizes hq.data lc ls ld lr)
  rw [hk0] at HCk
  have p0 := (X1 0 (by simp)).1
  have p1 := (X1 1 (by simp)).1
  have p2 := (X1 2 (by simp)).1
  clear hlen hk0 lc ls ld lr hg
  go_upto_region 3 with (go_at_call 20; (with_reducible refine HEn.out.mono ?_); rintro e w4 ⟨ba, bc, rfl, hbc, hba, hb4⟩)
  have hB4 := hB3.trans (hb4.mono hB3.size)
  have X4 := X1.later hb4
  have P4 := P1.later hb4
  have HD := Lib.hid (HDe.out ba bc w4 hbc hba)
  clear HDe HEn hb4 hB3 X1 P1 p0 p1 p2 hbc hba
  generalize (encP C s L).length = n at *
  go_wp2_with fail
  refine HD.out.mono ?_
  rintro e w5 ⟨hb5, qc, dc, q2, d2, qd, dd, rfl, hq5⟩
  have hA5 := Below.alloc (Below.refl w5.heap.size w5) (Nat.le_refl _) (.cells #[.slice qc C.length dc, .slice q2 s.length d2, .slice qd L.length dd] 26)
  have Y6 := Blk.new (W := w5) #[.slice qc C.length dc, .slice q2 s.length d2, .slice qd L.length dd] 26
  have hb6 := hb5.trans (hA5.mono hb5.size)
  have hB6 := hB4.trans (hb6.mono hB4.size)
  have X6 := X4.later hb6
  have P6 := P4.later hb6
  have Q6 := hq5.later hA5
  clear hA5 hb5 hb6 hq5 hB4 X4 P4 HD
  go_upto_region 4 with fail
  generalize w5.alloc (.cells #[.slice qc C.length dc, .slice q2 s.length d2, .slice qd L.length dd] 26) = W6 at *
  generalize w5.heap.size = V at *
  have HS := Lib.hid (HSm.out W6 qc dc q2 d2 qd dd P6 Q6)
  have p0 := (X6 0 (by simp)).1
  have p1 := (X6 1 (by simp)).1
  have p2 := (X6 2 (by simp)).1
  have q0 := (Y6 0 (by simp)).1
  have q1 := (Y6 1 (by simp)).1
  have q2 := (Y6 2 (by simp)).1
  go_wp2_with (first
    | (go_at_call 25; (with_reducible refine HS.out.mono ?_); rintro e w7 ⟨g, rfl, hgt, hb7⟩; obtain rfl := hgt.2 ⟨rfl, rfl, rfl⟩; have Y7 := Y6.later hb7; have y0 := (Y7 0 (by simp)).1; have y1 := (Y7 1 (by simp)).1; have y2 := (Y7 2 (by simp)).1; have Q7 := Q6.later hb7)
    | (go_at_call 15; (with_reducible refine (HCk.out _ _ _ _ _ _ _ Q7).mono ?_); rintro e w8 ⟨rfl, hb8⟩)
    | (go_at_call 10; (with_reducible refine (law08_awake _).mono ?_); rintro e w9 ⟨rfl, hb9⟩))
  go_ret
  have hb8' := hb7.trans (hb8.mono hb7.size)
  exact ⟨rfl, hB6.trans ((hb8'.trans (hb9.mono hb8'.size)).mono hB6.size)⟩

theorem walk {H : Type} (enc : TypeId × Value → H) (W : World) (base : Nat) (v0 : Value) (d0 : DataW H) (p0 : List MemPlace) (o0 : Value.okWide Try.prog W .any base 23 v0) (h0 : DataW.Trod enc Try.prog W 0 (fun _ => true) true 23 v0 d0 p0) :
    Calls Try.prog 5 #[v0] W fun e w' => e = .returned (.bool true) ∧ Below W.heap.size W w' := by
  obtain ⟨a, xs, ca, rfl, ha, hx, hl⟩ := open_nums Try.underlying23 Try.underlying3 (by kernel_rfl) o0 h0
  exact core a xs ca W ha (fun x hx2 => int_of (hx x hx2)) (by unfold maxLen at hl; exact hl)
end Go.Proofs.Ythajndgljfbifaa.programBackLaw
