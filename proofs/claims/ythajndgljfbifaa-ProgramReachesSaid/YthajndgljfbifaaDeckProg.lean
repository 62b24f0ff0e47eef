/-
  Contract of the deck: Program.
-/
import Derived.Test.YthajndgljfbifaaPrgS
import Derived.Test.YthajndgljfbifaaDeckPart
import Derived.Deep.AppendLies
import Derived.Deep.RegionLaw
import Derived.Deep.DeepCutAuto
import Derived.Deep.CutBlock
namespace Go.Proofs.Ythajndgljfbifaa
open Go.RowKit
set_option maxRecDepth 100000

theorem info_words : (Try.prog.info? 84).map (fun i => (i.zero, i.size, i.bytes)) = some (some (.slice none 0 0), 1, 24) := by kernel_rfl

set_option maxHeartbeats 8000000 in
set_option maxRecDepth 100000 in
theorem deck_Program (D : Nat) (w : World) (hd : Deck w D) :
    Calls Try.prog 12 #[.pointer (some ⟨D, 0, none⟩)] w (GivesProg D w) := by
  obtain ⟨i0, hi, hz0, hz1, hz2⟩ := info_parts info_words
  have hDl := hd.lt
  have hN := Lib.hid (fun m W (h : Deck W D) (h1 : 1 ≤ m) (h2 : m ≤ 4000000000) => deck_Next D m W h h1 h2)
  have hWs := Lib.hid (fun n W (h : Deck W D) (hn : n ≤ 1000000) => deck_Words D n W h hn)
  have hd0 := hd.kept (World.grownBy_alloc w (.cells #[.slice none 0 0, .slice none 0 0, .slice none 0 0] 26) none) (fun k hk => by cases hk)
  have G0 := World.grownBy_alloc w (.cells #[.slice none 0 0, .slice none 0 0, .slice none 0 0] 26) (some D)
  have b0 := Blk.new (W := w) #[.slice none 0 0, .slice none 0 0, .slice none 0 0] 26
  have hSz := Lib.hid (deck_Sizes D _ hd0)
  have hs0 : (w.alloc (.cells #[.slice none 0 0, .slice none 0 0, .slice none 0 0] 26)).heap.size = w.heap.size + 1 := by simp
  go_enter Try.func12, Try.ntmps12
  go_wp2_with fail
  refine hSz.out.mono ?_
  rintro e w1 ⟨a2, c2, s, rfl, hn1, hc2, hz, hd1, hg1⟩
  rw [hs0] at hn1
  have hw1 : w.heap.size + 1 ≤ w1.heap.size := by have := hg1.size; rw [hs0] at this; exact this
  have A1 := World.grownBy_alloc w1 (.cells #[.slice none 0 0, .slice a2 s.length c2, .slice none 0 0] 26)
  have K0 : PrS D w w1.heap.size a2 s c2 (.slice none 0 0) (.slice none 0 0) (w1.alloc (.cells #[.slice none 0 0, .slice a2 s.length c2, .slice none 0 0] 26)) :=
    ⟨hd1.kept (A1 none) (fun k hk => by cases hk), grownBy_trans (grownBy_trans G0 hg1) (A1 (some D)), (b0.kept hg1 (by simp; omega)).kept (A1 none) (by simp), Blk.new _ _, hn1.in.kept (A1 none) (fun k hk => by cases hk), hDl, by omega⟩
  clear A1 hd1 hg1 hd0 G0 b0 hSz hs0 hn1 hd
  go_upto_region 2 with fail
  generalize w1.alloc (.cells #[.slice none 0 0, .slice a2 s.length c2, .slice none 0 0] 26) = W0 at *
  generalize w1.heap.size = Pb at *
  obtain ⟨p0, p1, p2, f0, f2, hPl⟩ := K0.cells
  have hl4 := hz.2.1
  have HZ := Lib.hid hz
  go_wp2_with fail
  go_loopw [5, 15] (fun _ c wr => ∃ (k : Nat) (L : List (List Nat)) (data : Value), k ≤ s.length ∧ c = .int .i64 (k : Int) ∧ L.length = k ∧ (∀ i (h : i < L.length) (h2 : i < s.length), L[i].length ≤ s[i]) ∧ PrS D w Pb a2 s c2 (.slice none 0 0) data wr ∧ DatS Pb L data wr) (fun _ c _ => s.length - (intOf c).toNat)
  case atStart => exact ⟨0, [], _, by omega, rfl, rfl, (fun i h => by simp at h), K0, DatS.nil⟩
  case round =>
    clear K0 p0 p1 p2 f0 f2 hPl
    obtain ⟨k, L, data, hk, rfl, rfl, hfit, K, hD⟩ := hrel
    obtain ⟨p0, p1, p2, f0, f2, hPl⟩ := K.cells
    by_cases hlt : L.length < s.length
    · rcases K.sizes with h0 | ⟨b, off, rfl, hb1, hb2, hc⟩
      · rw [h0] at hlt; simp at hlt
      have c1 := hc L.length hlt
      clear hc
      have i1 : (L.length : Int) < ((s.length : Nat) : Int) := by omega
      have hy := (HZ.out.2.2 _ (List.getElem_mem hlt)).2
      have HFit := Lib.hid hfit
      clear hfit
      generalize hsk : s[L.length] = y at *
      have HSK := Lib.hid hsk
      clear hsk
      obtain ⟨rows, hrl, hown, hel⟩ := hD
      have Kd : PrS D w Pb (some ⟨b, off, none⟩) s c2 (.slice none 0 0) data wr.drew := K.draw (grownBy_drewN _ (some D) 1) (K.deck.kept (grownBy_drewN _ none 1) (fun k hk => by cases hk))
      obtain ⟨_, _, pd2, _, _, _⟩ := Kd.cells
      have owd : wr.drew.ownsRow (Pb + 1) 84 1 data L.length rows := hown.kept (grownBy_drewN wr none 1) (Classical.em _)
      have eld : ∀ i (h : i < L.length) (h2 : i < rows.length), WordsOff Pb data.ownBlock wr.drew L[i] rows[i] := fun i h1 h2 => (hel i h1 h2).kept (grownBy_drewN wr none 1) (.inr (fun b hb => by cases hb))
      have hDP : D ≤ Pb := by have := K.hD; have := K.hP; omega
      go_upto_region 5 with fail
      go_region_law (first
        | (refine step_append_lies _ (by rfl) _ _ _ (by rfl) (Pb + 1) 84 i0 _ 1 24 Try.underlying24 hi hz0 hz1 hz2 rfl (by omega) _ L.length _ (by rfl) own5 ⟨W5.heap.size, 0, none⟩ 1 1 [.slice a5 ws.length c5] (by rfl) (by rfl) (World.news_of_block (cs := #[.slice a5 ws.length c5]) (t := 84) (fr := (0, 0)) (heap_alloc_new W5 _)) (by simp [Value.oneCell']) (by omega) (by unfold maxLen; omega) (by omega) (by simp; omega) (W5.heap.size + 1) (by simp) ?_; intro gg cap6 W6 hown6 hg6 hat6 hlt6; have K6 := (K5.new (.cells #[.slice a5 ws.length c5] 84)).own hg6 (fun b hb => by have := (own5.lt b hb).1; omega); have p62 := K6.cells.2.2.1; have f62 := K6.cells.2.2.2.2.1)
        | (go_simp; go_at_call 39; (with_reducible refine (hWs.out y _ Kd.deck (by omega)).mono ?_); rintro e W5 ⟨a5, c5, ws, rfl, hws, hwc, hwl, hw6, hd5, hg5, _⟩; have K5 := Kd.draw hg5 hd5; have own5 := (owd.kept hg5 (by right; intro e; have := (owd.lt D e).1; omega)).alloc (.cells #[.slice a5 ws.length c5] 84); have hPl5 := K5.cells.2.2.2.2.2; have p52 := K5.cells.2.2.1; have f52 := K5.cells.2.2.2.2.1))
      all_goals
        have hP9 : PrS D w Pb (some ⟨b, off, none⟩) s c2 (.slice none 0 0) (.slice (some ⟨gg, 0, none⟩) (L.length + 1) cap6) (W6.setCell ⟨Pb, 2, none⟩ (.slice (some ⟨gg, 0, none⟩) (L.length + 1) cap6)) := K6.putData _
        have hwv : WordsOff Pb data.ownBlock (W5.alloc (.cells #[.slice a5 ws.length c5] 84)) ws (.slice a5 ws.length c5) := ⟨hw6, a5, c5, rfl, by
          rcases hws with h | ⟨b5, o5, ha5, hB5, hc5⟩
          · exact .inl h
          · refine .inr ⟨b5, o5, ha5, ?_, fun e => ?_, fun j hj => cell_later (Below.alloc (Below.refl _ _) (Nat.le_refl _) _) (hc5 j hj)⟩
            · have h1 : Pb < wr.heap.size := hPl
              have h2 : wr.heap.size ≤ b5 := hB5
              omega
            · have h1 : b5 < wr.heap.size := (hown.lt b5 e).2
              have h2 : wr.heap.size ≤ b5 := hB5
              omega⟩
        have hel5 : ∀ i (h : i < L.length) (h2 : i < rows.length), WordsOff Pb data.ownBlock (W5.alloc (.cells #[.slice a5 ws.length c5] 84)) L[i] rows[i] := fun i h1 h2 => ((eld i h1 h2).kept hg5 (.inr (fun b hb => by cases hb; exact hDP))).kept (World.grownBy_alloc W5 _ none) (.inr (fun b hb => by cases hb))
        have hD9 := (DatS.push (ws := ws) rfl hrl hel5 hwv hown6 hg6 (by simpa using hat6)).kept (grownBy_cell W6 Pb 2 (.slice (some ⟨gg, 0, none⟩) (L.length + 1) cap6)) (fun b hb => by cases hb; exact Nat.le_refl _)
        have HF : Hid (∀ i (h : i < (L ++ [ws]).length) (h2 : i < s.length), (L ++ [ws])[i].length ≤ s[i]) := Lib.hid (fun i h h2 => by
          by_cases e : i < L.length
          · rw [List.getElem_append_left e]; exact HFit.out i e h2
          · have hi : i = L.length := by simp at h; omega
            subst hi
            rw [List.getElem_append_right (Nat.le_refl _)]
            simp only [Nat.sub_self, List.getElem_cons_zero]
            have := HSK.out
            rw [this]; exact hwl)
        have HP9 := Lib.hid hP9
        have HD9 := Lib.hid hD9
        clear hP9 hD9 hel5 hwv K K5 K6 Kd owd own5 eld hown hel hown6 hg6 hat6 hlt6 hg5 hd5 hws p62 f62 p52 f52 hPl5
        go_wp2
        go_roundw
        case rel => exact ⟨L.length + 1, L ++ [ws], _, by omega, by go_num, by simp, HF.out, HP9.out, HD9.out⟩
        case measure => simp [intOf]; omega
    · obtain ⟨ad, cd, rfl, hDat, hcd⟩ := hD.done
      have HCD := Lib.hid hcd
      clear hcd
      obtain ⟨Cb, hCb⟩ : ∃ Cb, Cb = wr.heap.size := ⟨_, rfl⟩
      rw [← hCb] at hDat
      have hPC : Pb < Cb := by omega
      have hnl : ¬ ((L.length : Int) < ((s.length : Nat) : Int)) := by omega
      have hLs : Hid (L.length = s.length) := Lib.hid (by omega)
      have HFit := Lib.hid hfit
      have hC0 : CodS Cb s.length [] (.slice none 0 0) wr := ⟨World.ownsRow_nil _ _ _ _, by simp⟩
      obtain ⟨j0, hj1, hj2, hj3⟩ := info_parts info_instr
      have hDP : D ≤ Pb := by have := K.hD; have := K.hP; omega
      have hCw : Cb ≤ wr.heap.size := by omega
      have hPt : Hid (∀ (at_ : Nat) (W : World), Deck W D → NatsFrom (D + 1) .i64 W a2 s → at_ ≤ 62 → Calls Try.prog 40 #[.pointer (some ⟨D, 0, none⟩), .slice a2 s.length c2, .int .i64 ((at_ : Int) + 1), .int .i64 (at_ : Int)] W (GivesPart s.length at_ D W)) := Lib.hid (fun at_ W h hs hat => by
        have := deck_part D a2 s c2 at_ W h HZ.out hs hat
        rw [Int.natCast_add] at this
        exact this)
      clear hfit hD hlt hk p0 p1 p2 f0 f2 hCb
      go_wp2_with fail
      refine (hN.out 12 _ K.deck (by omega) (by omega)).mono ?_
      rintro e w2 ⟨q, hq, rfl, hd2, hg2⟩
      have K := K.draw hg2 hd2
      have hDat := hDat.kept hg2 (fun d hd => by cases hd; exact .inl hDP)
      have hC0 := hC0.kept hg2 (fun d hd => by cases hd; omega)
      have hCw := Nat.le_trans hCw hg2.size
      clear hg2 hd2
      go_wp2_with fail
      go_loopw [6, 7] (fun kv _ wr => ∃ (j : Nat) (C : List Ins) (code : Value), kv = .int .i64 (j : Int) ∧ j ≤ 12 ∧ C.length ≤ 62 ∧ PrS D w Pb a2 s c2 code (.slice ad L.length cd) wr ∧ DatC Pb Cb L ad wr ∧ CodS Cb s.length C code wr ∧ Cb ≤ wr.heap.size) (fun kv _ _ => (intOf kv).toNat)
      case atStart => exact ⟨q + 1, [], _, by go_num, by omega, by simp, K, hDat, hC0, hCw⟩
      case round =>
        clear K hDat hC0 hCw
        obtain ⟨j, C, code, rfl, hj12, hC62, K, hDat, hCod, hCw⟩ := hrel
        obtain ⟨ac, cc, rfl, hcc, _⟩ := hCod.form
        obtain ⟨p0, p1, p2, f0, f2, hPl⟩ := K.cells
        by_cases hj : 0 < j
        · have hj1' : ((j - 1 : Nat) : Int) = (j : Int) - 1 := by omega
          have hjm : j - 1 < j := by omega
          have hjm2 : j - 1 ≤ 12 := by omega
          have HJ := Lib.hid (And.intro hj1' (And.intro hjm hjm2))
          clear hj1' hjm hjm2
          go_wp2_with fail
          refine (hPt.out C.length wr K.deck (K.sizes.from (by have := K.hD; omega)) hC62).mono ?_
          rintro e W5 ⟨ax, cx, xs, rfl, hxr, hx1, hx6, hxi, hd5, hg5⟩
          have K := K.draw hg5 hd5
          have hDat := hDat.kept hg5 (fun d hd => by cases hd; exact .inl hDP)
          have hCod := hCod.kept hg5 (fun d hd => by cases hd; omega)
          have hCw := Nat.le_trans hCw hg5.size
          obtain ⟨p0, p1, p2, f0, f2, hPl⟩ := K.cells
          clear hd5 hg5
          by_cases hfit2 : C.length + xs.length ≤ 62
          · have g62 : (C.length : Int) + (xs.length : Int) ≤ 62 := by omega
            obtain ⟨bx, ox, rfl, _, _⟩ := hxr.some (i := 0) (by rw [length_insRows]; omega)
            have hnews := rows_news (by omega) (wide_ins xs) hxr
            have own5 := hCod.1
            go_wp2_with (first
              | (at_builtin; refine wpList_append_own _ rfl _ _ 22 rfl Cb 66 j0 (.agg #[.int .i64 0, .int .i64 0, .int .i64 0, .int .i64 0, .int .i64 0]) 5 40 Try.underlying22 hj1 hj2 hj3.1 hj3.2 rfl (by decide) _ _ _ rfl own5 ⟨bx, ox, none⟩ xs.length cx (insRows xs).flatten rfl (length_insFlat xs) ?c1 ?c2 ?c3 ?c4 ?c5 ?_))
            case c1 => exact hnews
            case c2 => exact insFlat_one xs
            case c3 => unfold maxLen; omega
            case c4 => omega
            case c5 => exact hCw
            intro v6 W6 hown6 hg6 _h6
            obtain ⟨a6, cc6, hv6, _, _⟩ := (CodS.push rfl hCod hxi hown6).form
            rw [List.length_append] at hv6
            subst hv6
            have hbl := own5.lt
            have K6 := (K.own hg6 (fun b hb => by have := (hbl b hb).1; omega)).putCode (.slice a6 (C.length + xs.length) cc6)
            have hDat6 := (hDat.kept hg6 (fun d hd => .inr (hbl d hd).1)).kept (grownBy_cell W6 Pb 0 (.slice a6 (C.length + xs.length) cc6)) (fun d hd => by cases hd; exact .inl (Nat.le_refl _))
            have hCod6 := (CodS.push rfl hCod hxi hown6).kept (grownBy_cell W6 Pb 0 (.slice a6 (C.length + xs.length) cc6)) (fun d hd => by cases hd; exact hPC)
            have hCw6 : Cb ≤ (W6.setCell ⟨Pb, 0, none⟩ (.slice a6 (C.length + xs.length) cc6)).heap.size := by have := hg6.size; simp [World.setCell]; omega
            have q0 := (K.own hg6 (fun b hb => by have := (hbl b hb).1; omega)).cells.1
            have qf := (K.own hg6 (fun b hb => by have := (hbl b hb).1; omega)).cells.2.2.2.1
            have R1 := Lib.hid K6
            have R2 := Lib.hid hDat6
            have R3 := Lib.hid hCod6
            have R4 := Lib.hid hCw6
            clear K K6 hDat hDat6 hCod hCod6 hown6 hg6 _h6 own5 hnews hxr p0 p1 p2 hCw6 hCw hbl
            go_wp2
            go_roundw
            case rel => exact ⟨j - 1, C ++ xs, _, by rw [HJ.out.1], HJ.out.2.2, by simp; omega, R1.out, R2.out, R3.out, R4.out⟩
            case measure => have := HJ.out.2.1; simp [intOf]; omega
          · have g62 : ¬ ((C.length : Int) + (xs.length : Int) ≤ 62) := by omega
            have R1 := Lib.hid K
            have R2 := Lib.hid hDat
            have R3 := Lib.hid hCod
            have R4 := Lib.hid hCw
            clear K hDat hCod hCw hxr
            go_wp2
            go_roundw
            case rel => exact ⟨j - 1, C, _, by rw [HJ.out.1], HJ.out.2.2, hC62, R1.out, R2.out, R3.out, R4.out⟩
            case measure => have := HJ.out.2.1; simp [intOf]; omega
        · obtain rfl : j = 0 := by omega
          have A : ProgA D w Pb a2 s c2 ad L cd Cb C (.slice ac C.length cc) wr := ⟨K, hDat, hCod, hCw, hPC⟩
          clear K hDat hCod hCw hPt hWs p0 p1 p2 f0 f2 hPl hj12
          go_wp2_with fail
          refine (hN.out 4 _ A.K.deck (by omega) (by omega)).mono ?_
          rintro e W2 ⟨z, hz4, rfl, hd2, hg2⟩
          have A := A.draw hg2 hd2
          clear hd2 hg2
          go_upto_block 4 with fail
          go_cut [60] (fun _ wx => ∃ C code, C.length ≤ 63 ∧ ProgA D w Pb a2 s c2 ad L cd Cb C code wx)
          case first =>
            by_cases h0 : z = 0
            · subst h0
              have Ad := A.drew
              obtain ⟨p0, p1, p2, f0, f2, hPl⟩ := Ad.K.cells
              have hwC : IntKind.i64.wrap ((C.length : Int) + 1) = (C.length : Int) + 1 := IntWalk.i64_in _ (by omega)
              clear A
              go_wp2_with fail
              go_region_law (first
                | (refine step_append_lies _ (by rfl) _ _ _ (by rfl) Cb 66 j0 _ 5 40 Try.underlying22 hj1 hj2 hj3.1 hj3.2 rfl (by omega) _ C.length _ (by rfl) own5 ⟨W5.heap.size, 0, none⟩ 1 1 [.int .i64 18, .int .i64 0, .int .i64 0, .int .i64 0, .int .i64 (u : Int)] (by rfl) (by rfl) (World.news_of_block (cs := #[.int .i64 18, .int .i64 0, .int .i64 0, .int .i64 0, .int .i64 (u : Int)]) (t := 66) (fr := (0, 0)) (heap_alloc_new W5 _)) (by simp [Value.oneCell']) (by omega) (by unfold maxLen; omega) (by omega) (by simp; omega) (W5.heap.size + 1) (by simp) ?_; intro gg cap6 W6 hown6 hg6 hat6 hlt6; have q0 := (A5.grow hg6).cells.1; have qf := (A5.grow hg6).cells.2.2.2.1)
                | (go_simp; go_at_call 36; (with_reducible refine (hN.out ((C.length : Int) + 1) _ Ad.K.deck (by omega) (by omega)).mono ?_); rintro e W5 ⟨u, hu, rfl, hd5, hg5⟩; have B5 := Ad.draw hg5 hd5; have A5 := B5.new (.cells #[.int .i64 18, .int .i64 0, .int .i64 0, .int .i64 0, .int .i64 (u : Int)] 66); have own5 := A5.cod.1; have hs5 := B5.size; have q5 := B5.K.cells.1; have q5b := A5.K.cells.1))
              all_goals
                have HA := Lib.hid (A5.push (xs := [⟨18, 0, 0, 0, (u : Int)⟩]) hg6 (all_one (ins_jmp (by omega) (by simp; omega))) rfl hown6)
                clear Ad A5 B5 own5 hown6 hg6 hat6 hlt6 hd5 hg5 p0 p1 p2 f0 f2 hPl q0 qf q5 q5b
                go_wp2
                go_meet
                exact ⟨_, _, by simp; omega, HA.out⟩
            · have g0 : ((z : Int) == 0) = false := by rw [beq_eq_false_iff_ne]; omega
              by_cases h1 : z = 1
              · subst h1
                have A5 := A.new (.cells #[.int .i64 24, .int .i64 0, .int .i64 0, .int .i64 0, .int .i64 0] 66)
                have own5 := A5.cod.1
                have hs5 := A.size
                obtain ⟨p0, p1, p2, f0, f2, hPl⟩ := A.K.cells
                go_wp2_with (first
                  | (at_builtin; refine wpList_append_own _ rfl _ _ 22 rfl Cb 66 j0 (.agg #[.int .i64 0, .int .i64 0, .int .i64 0, .int .i64 0, .int .i64 0]) 5 40 Try.underlying22 hj1 hj2 hj3.1 hj3.2 rfl (by decide) _ _ _ rfl own5 ⟨W2.heap.size, 0, none⟩ 1 1 [.int .i64 24, .int .i64 0, .int .i64 0, .int .i64 0, .int .i64 0] rfl rfl ?c1 ?c2 ?c3 ?c4 ?c5 ?_))
                case c1 => exact World.news_of_block (cs := #[.int .i64 24, .int .i64 0, .int .i64 0, .int .i64 0, .int .i64 0]) (t := 66) (fr := (0, 0)) (heap_alloc_new _ _)
                case c2 => simp [Value.oneCell']
                case c3 => unfold maxLen; omega
                case c4 => omega
                case c5 => simp; omega
                intro v6 W6 hown6 hg6 _h6
                obtain ⟨a6, cc6, hv6, _, _⟩ := (CodS.push (xs := [⟨24, 0, 0, 0, 0⟩]) rfl A5.cod (all_one ins_rti) hown6).form
                rw [List.length_append] at hv6
                subst hv6
                have HA := Lib.hid (A5.push (xs := [⟨24, 0, 0, 0, 0⟩]) hg6 (all_one ins_rti) rfl hown6)
                have q0 := (A5.grow hg6).cells.1
                have qf := (A5.grow hg6).cells.2.2.2.1
                clear A A5 own5 hown6 hg6 _h6 p0 p1 p2 f0 f2 hPl
                go_wp2
                go_meet
                exact ⟨_, _, by simp; omega, HA.out⟩
              · have g1 : ((z : Int) == 1) = false := by rw [beq_eq_false_iff_ne]; omega
                have HA := Lib.hid A
                clear A
                go_wp2
                go_meet
                exact ⟨_, _, by omega, HA.out⟩
          case rest =>
            obtain ⟨C, code, hC63, A⟩ := hcut
            obtain ⟨ac, cc, rfl, hcc, _⟩ := A.cod.form
            have Ad := A.drew
            obtain ⟨p0, p1, p2, f0, f2, hPl⟩ := Ad.K.cells
            have hLi : Hid (∀ r n W, Calls Try.prog 41 #[.int .i64 r, .int .i64 n] W fun e w' => e = .returned (.agg #[.int .i64 1, .int .i64 r, .int .i64 0, .int .i64 0, .int .i64 n]) ∧ Below W.heap.size W w') := Lib.hid make_li
            have hSys : Hid (∀ n W, Calls Try.prog 42 #[.int .i64 n] W fun e w' => e = .returned (.agg #[.int .i64 23, .int .i64 0, .int .i64 0, .int .i64 0, .int .i64 n]) ∧ Below W.heap.size W w') := Lib.hid make_sys
            clear A
            go_upto_region 18 with fail
            go_cut [83] (fun _ wx => ∃ C code, 2 ≤ C.length ∧ C.length ≤ 65 ∧ ProgA D w Pb a2 s c2 ad L cd Cb C code wx)
            case first =>
              go_region_law (first
                | (refine step_append_lies _ (by rfl) _ _ _ (by rfl) Cb 66 j0 _ 5 40 Try.underlying22 hj1 hj2 hj3.1 hj3.2 rfl (by omega) _ C.length _ (by rfl) own7 ⟨W7.heap.size, 0, none⟩ 2 2 [.int .i64 1, .int .i64 0, .int .i64 0, .int .i64 0, .int .i64 (u : Int), .int .i64 23, .int .i64 0, .int .i64 0, .int .i64 0, .int .i64 0] (by rfl) (by rfl) (World.news_of_block (cs := #[.int .i64 1, .int .i64 0, .int .i64 0, .int .i64 0, .int .i64 (u : Int), .int .i64 23, .int .i64 0, .int .i64 0, .int .i64 0, .int .i64 0]) (t := 66) (fr := (0, 0)) (heap_alloc_new W7 _)) (by simp [Value.oneCell']) (by omega) (by unfold maxLen; omega) (by omega) (by simp; omega) (W7.heap.size + 1) (by simp) ?_; intro gg cap8 W8 hown8 hg8 hat8 hlt8; have q0 := (A7.grow hg8).cells.1; have qf := (A7.grow hg8).cells.2.2.2.1)
                | (go_simp; go_at_call 36; (with_reducible refine (hN.out 9 _ Ad.K.deck (by omega) (by omega)).mono ?_); rintro e W5 ⟨u, hu, rfl, hd5, hg5⟩; have A5 := Ad.draw hg5 hd5; have q5 := A5.K.cells.1)
                | (go_simp; go_at_call 41; (with_reducible refine (hLi.out _ _ W5).mono ?_); rintro e W6 ⟨rfl, hb6⟩; have A6 := A5.later hb6; have q6 := A6.K.cells.1)
                | (go_simp; go_at_call 42; (with_reducible refine (hSys.out _ W6).mono ?_); rintro e W7 ⟨rfl, hb7⟩; have B7 := A6.later hb7; have A7 := B7.new (.cells #[.int .i64 1, .int .i64 0, .int .i64 0, .int .i64 0, .int .i64 (u : Int), .int .i64 23, .int .i64 0, .int .i64 0, .int .i64 0, .int .i64 0] 66); have own7 := A7.cod.1; have hs7 := B7.size; have q7 := B7.K.cells.1; have q7b := A7.K.cells.1))
              all_goals
                have HA := Lib.hid (A7.push (xs := [⟨1, 0, 0, 0, (u : Int)⟩, ⟨23, 0, 0, 0, 0⟩]) hg8 (all_cons (ins_li (by omega) (by omega)) (all_one (ins_sys (by omega)))) rfl hown8)
                clear Ad A5 A6 A7 B7 own7 hown8 hg8 hat8 hlt8 hd5 hg5 hb6 hb7 p0 p1 p2 f0 f2 hPl q0 qf q5 q6 q7 q7b
                go_wp2
                go_meet
                exact ⟨_, _, by simp, by simp; omega, HA.out⟩
            case rest =>
              obtain ⟨C, code, hC2, hC65, A⟩ := hcut
              clear Ad p0 p1 p2 f0 f2 hPl
              obtain ⟨ac, cc, rfl, hcc, _⟩ := A.cod.form
              obtain ⟨g, cap0, hv0, hgC, _⟩ := A.cod.1.form (by omega)
              simp only [Value.slice.injEq] at hv0
              obtain ⟨rfl, _, rfl⟩ := hv0
              obtain ⟨p0, p1, p2, f0, f2, hPl⟩ := A.K.cells
              go_upto_if 94 with fail
              go_cut [95] (fun _ wx => ∃ (C : List Ins), 1 ≤ C.length ∧ C.length ≤ 64 ∧ C.length ≤ cc ∧ PrS D w Pb a2 s c2 (.slice (some ⟨g, 0, none⟩) C.length cc) (.slice ad L.length cd) wx ∧ DatC Pb Cb L ad wx ∧ wx.ownsRow Cb 66 5 (.slice (some ⟨g, 0, none⟩) C.length cc) C.length (insRows C).flatten ∧ (∀ x ∈ C, InsIn s.length 65 x) ∧ Cb ≤ wx.heap.size)
              case first =>
                by_cases h64 : 64 < C.length
                · have hlen : (C.take 64).length = 64 := by rw [List.length_take]; omega
                  have h65 : C.length = 65 := by omega
                  have i64 : (64 : Int) ≤ (cc : Int) := by omega
                  have g64 : (64 : Int) < (C.length : Int) := by omega
                  have K6 := A.K.putCode (.slice (some ⟨g, 0, none⟩) 64 cc)
                  have D6 := A.dat.kept (grownBy_cell wc Pb 0 (.slice (some ⟨g, 0, none⟩) 64 cc)) (fun d hd => by cases hd; exact .inl (Nat.le_refl _))
                  have own6 := (ownsRow_take A.cod.1 (m := 64) (by omega) (by omega)).kept (grownBy_cell wc Pb 0 (.slice (some ⟨g, 0, none⟩) 64 cc)) (by right; intro e; have h1 := A.hPC; have e2 : g = Pb := Option.some.inj e; omega)
                  rw [← insRows_take] at own6
                  have hin6 : ∀ x ∈ C.take 64, InsIn s.length 65 x := fun x hx => (A.cod.2 x (List.mem_of_mem_take hx)).mono (by omega)
                  have hsz6 : Cb ≤ (wc.setCell ⟨Pb, 0, none⟩ (.slice (some ⟨g, 0, none⟩) 64 cc)).heap.size := by have := A.size; simp [World.setCell]; omega
                  have HA := Lib.hid (And.intro K6 (And.intro D6 (And.intro own6 (And.intro hin6 hsz6))))
                  clear A K6 D6 own6 hin6 hsz6 h65 h64
                  go_wp2
                  go_meet
                  obtain ⟨K6, D6, own6, hin6, hsz6⟩ := HA.out
                  exact ⟨C.take 64, by omega, by omega, by omega, by rw [hlen]; exact K6, D6, by rw [hlen]; exact own6, hin6, hsz6⟩
                · have HA := Lib.hid A
                  have g64 : ¬ (64 : Int) < (C.length : Int) := by omega
                  clear A
                  go_wp2
                  go_meet
                  exact ⟨C, by omega, by omega, hcc, HA.out.K, HA.out.dat, HA.out.cod.1, fun x hx => (HA.out.cod.2 x hx).mono (by omega), HA.out.size⟩
              case rest =>
                have hPC := A.hPC
                clear A p0 p1 p2 f0 f2 hPl hcc hC2 hC65
                obtain ⟨C1, h1, h64, hcc, K, hDat, hown, hin, hCw⟩ := hcut
                obtain ⟨n, hnC⟩ : ∃ n, n = C1.length := ⟨_, rfl⟩
                rw [← hnC] at h1 h64 hcc K hown
                have HnC := Lib.hid hnC
                clear hnC
                obtain ⟨p0, p1, p2, f0, f2, hPl⟩ := K.cells
                have hJ := Lib.hid (fun op W => (ref06_Jump op W).mono (fun e w' (h : _ ∧ W = w') => (⟨h.1, h.2.symm⟩ : _ ∧ w' = W)))
                go_wp2_with fail
                go_loopw [8, 102] (fun _ c wr => ∃ (k : Nat) (C : List Ins), k ≤ n ∧ c = .int .i64 (k : Int) ∧ C.length = n ∧ PrS D w Pb a2 s c2 (.slice (some ⟨g, 0, none⟩) n cc) (.slice ad L.length cd) wr ∧ DatC Pb Cb L ad wr ∧ wr.ownsRow Cb 66 5 (.slice (some ⟨g, 0, none⟩) n cc) n (insRows C).flatten ∧ (∀ i (h : i < C.length), InsIn s.length 65 C[i] ∧ (i < k → InsIn s.length n C[i])) ∧ Cb ≤ wr.heap.size) (fun _ c _ => n - (intOf c).toNat)
                case atStart => exact ⟨0, C1, by omega, rfl, HnC.out.symm, K, hDat, hown, (fun i h => ⟨hin _ (List.getElem_mem h), fun h => by omega⟩), hCw⟩
                case round =>
                  clear K hDat hown hin hCw p0 p1 p2 f0 f2 hPl
                  obtain ⟨k, C, hk, rfl, hCn, K, hDat, hown, hin, hCw⟩ := hrel
                  obtain ⟨p0, p1, p2, f0, f2, hPl⟩ := K.cells
                  by_cases hlt : k < n
                  · have hkC : k < C.length := by omega
                    have hx := (hin k hkC).1
                    have hb5 : k * 5 + 4 < n * 5 := by omega
                    have e0 := hown.cellAt (k * 5 + 0) (by omega)
                    have e4 := hown.cellAt (k * 5 + 4) (by omega)
                    rw [insRows_at C k 0 hkC (by omega)] at e0
                    rw [insRows_at C k 4 hkC (by omega)] at e4
                    replace e0 : wr.cell? ⟨g, k * 5, none⟩ = some (.int .i64 C[k].op) := e0
                    replace e4 : wr.cell? ⟨g, k * 5 + 4, none⟩ = some (.int .i64 C[k].imm) := e4
                    have fr4 := hown.frozenAt (k * 5 + 4)
                    have i1 : (k : Int) < (n : Int) := by omega
                    have i2 : 0 ≤ (k : Int) := by omega
                    have hop := hx.2.2.2.2.2.2.2.2.1
                    have himm : 0 ≤ C[k].imm ∧ C[k].imm ≤ 65535 := ⟨hx.2.2.2.2.2.2.2.2.1, hx.2.2.2.2.2.2.2.2.2.1⟩
                    have hgb := (hown.lt g rfl).1
                    have hset := insRows_set C k hkC ⟨C[k].op, C[k].a, C[k].b, C[k].c, 0⟩ rfl
                    have HIN := Lib.hid hin
                    have HX := Lib.hid hx
                    have HS := Lib.hid hset
                    clear hin hx hset hop
                    cases hjj : jumpB C[k].op with
                    | false =>
                      have HJ1 : Hid (∀ W, Calls Try.prog 43 #[.int .i64 C[k].op] W fun e w' => e = .returned (.bool false) ∧ w' = W) := Lib.hid (fun W => by have := hJ.out C[k].op W; rw [hjj] at this; exact this)
                      have HN : Hid (∀ i (h : i < C.length), InsIn s.length 65 C[i] ∧ (i < k + 1 → InsIn s.length n C[i])) := Lib.hid (fun i h => ⟨(HIN.out i h).1, fun h2 => by
                        by_cases e : i = k
                        · subst e; exact HX.out.nojump hjj
                        · exact (HIN.out i h).2 (by omega)⟩)
                      clear hJ HIN HX HS
                      go_wp2_with fail
                      go_quiet ((go_at_call 43; exact Calls.quiet_of_same (HJ1.out _)))
                      have R1 := Lib.hid (K.drewN nq)
                      have R2 := Lib.hid (hDat.kept (grownBy_drewN wr none nq) (fun d hd => by cases hd))
                      have R3 := Lib.hid (hown.kept (grownBy_drewN wr none nq) (Classical.em _))
                      clear K hDat hown e0 e4 fr4 p0 p1 p2 f0 f2
                      go_wp2
                      go_roundw
                      case rel => exact ⟨k + 1, C, by omega, by go_num, hCn, R1.out, R2.out, R3.out, HN.out, hCw⟩
                      case measure => simp [intOf]; omega
                    | true =>
                      have HJ1 : Hid (∀ W, Calls Try.prog 43 #[.int .i64 C[k].op] W fun e w' => e = .returned (.bool true) ∧ w' = W) := Lib.hid (fun W => by have := hJ.out C[k].op W; rw [hjj] at this; exact this)
                      by_cases him : (n : Int) ≤ C[k].imm
                      · have HN : Hid (∀ i (h : i < (C.set k ⟨C[k].op, C[k].a, C[k].b, C[k].c, 0⟩).length), InsIn s.length 65 (C.set k ⟨C[k].op, C[k].a, C[k].b, C[k].c, 0⟩)[i] ∧ (i < k + 1 → InsIn s.length n (C.set k ⟨C[k].op, C[k].a, C[k].b, C[k].c, 0⟩)[i])) := Lib.hid (fun i h => by
                          rw [List.length_set] at h
                          by_cases e : k = i
                          · subst e
                            rw [List.getElem_set_self]
                            exact ⟨HX.out.zero hjj (by omega), fun _ => HX.out.zero hjj (by omega)⟩
                          · rw [List.getElem_set_ne e]
                            exact ⟨(HIN.out i h).1, fun h2 => (HIN.out i h).2 (by omega)⟩)
                        clear hJ HIN HX
                        go_wp2_with fail
                        go_quiet ((go_at_call 43; exact Calls.quiet_of_same (HJ1.out _)))
                        have hst := (show (wr.drewN nq).ownsRow Cb 66 5 (.slice (some ⟨g, 0, none⟩) n cc) n (insRows C).flatten from hown.kept (grownBy_drewN wr none nq) (Classical.em _)).stored (k * 5 + 4) (.int .i64 0)
                        rw [HS.out] at hst
                        have hgg : ∀ b, some g = some b → Pb < b := fun b hb => by cases hb; omega
                        have R1 := Lib.hid ((K.drewN nq).own hst.2 hgg)
                        have R2 := Lib.hid ((hDat.kept (grownBy_drewN wr none nq) (fun d hd => by cases hd)).kept hst.2 (fun d hd => by cases hd; exact .inr hgb))
                        have R3 := Lib.hid hst.1
                        have R4 : Hid (Cb ≤ ((wr.drewN nq).setCell ⟨g, k * 5 + 4, none⟩ (.int .i64 0)).heap.size) := Lib.hid (Nat.le_trans hCw hst.2.size)
                        have p0 := (K.drewN nq).cells.1
                        have e4 : (wr.drewN nq).cell? ⟨g, k * 5 + 4, none⟩ = some (.int .i64 C[k].imm) := e4
                        have fr4 : (wr.drewN nq).frozen? ⟨g, k * 5 + 4, none⟩ = false := fr4
                        clear K hDat hown hst HS
                        go_wp2
                        go_roundw
                        case rel => exact ⟨k + 1, _, by omega, by go_num, by rw [List.length_set]; exact hCn, R1.out, R2.out, R3.out, HN.out, R4.out⟩
                        case measure => simp [intOf]; omega
                      · have HN : Hid (∀ i (h : i < C.length), InsIn s.length 65 C[i] ∧ (i < k + 1 → InsIn s.length n C[i])) := Lib.hid (fun i h => ⟨(HIN.out i h).1, fun h2 => by
                          by_cases e : i = k
                          · subst e; exact HX.out.jump (by omega)
                          · exact (HIN.out i h).2 (by omega)⟩)
                        clear hJ HIN HX HS
                        go_wp2_with fail
                        go_quiet ((go_at_call 43; exact Calls.quiet_of_same (HJ1.out _)))
                        have R1 := Lib.hid (K.drewN nq)
                        have R2 := Lib.hid (hDat.kept (grownBy_drewN wr none nq) (fun d hd => by cases hd))
                        have R3 := Lib.hid (hown.kept (grownBy_drewN wr none nq) (Classical.em _))
                        clear K hDat hown e0 e4 fr4 p0 p1 p2 f0 f2
                        go_wp2
                        go_roundw
                        case rel => exact ⟨k + 1, C, by omega, by go_num, hCn, R1.out, R2.out, R3.out, HN.out, hCw⟩
                        case measure => simp [intOf]; omega
                  · obtain rfl : k = n := by omega
                    obtain ⟨hb0, hb1, hb2⟩ : (∃ v, wr.cell? ⟨w.heap.size, 0, none⟩ = some v ∧ wr.frozen? ⟨w.heap.size, 0, none⟩ = false) ∧ (∃ v, wr.cell? ⟨w.heap.size, 1, none⟩ = some v ∧ wr.frozen? ⟨w.heap.size, 1, none⟩ = false) ∧ (∃ v, wr.cell? ⟨w.heap.size, 2, none⟩ = some v ∧ wr.frozen? ⟨w.heap.size, 2, none⟩ = false) :=
                      ⟨⟨_, K.res 0 (by simp)⟩, ⟨_, K.res 1 (by simp)⟩, ⟨_, K.res 2 (by simp)⟩⟩
                    obtain ⟨v0, k0, g0⟩ := hb0
                    obtain ⟨v1, k1, g1⟩ := hb1
                    obtain ⟨v2, k2, g2⟩ := hb2
                    have hPg : w.heap.size < Pb := K.hP
                    have hgb := (hown.lt g rfl).1
                    have hne : ∀ k, some w.heap.size = some k → D < k := fun k hk => by cases hk; exact hDl
                    have hlo : ∀ d, some w.heap.size = some d → d ≤ Pb ∨ Cb ≤ d := fun d hd => by cases hd; left; omega
                    have hCC := hCn
                    subst hCC
                    obtain ⟨hl0, ar, cr, hvr, hrow, hl1⟩ := RowsAt.of_row (by omega) (wide_ins C) hown
                    clear hl0 hl1
                    simp only [Value.slice.injEq] at hvr
                    obtain ⟨rfl, hlx, rfl⟩ := hvr
                    clear hlx
                    have hrow2 := ((hrow.kept (wide_ins C) (grownBy_cell wr w.heap.size 0 (.slice (some ⟨g, 0, none⟩) C.length cc)) (fun d hd => by cases hd; omega)).kept (wide_ins C) (grownBy_cell _ w.heap.size 1 (.slice a2 s.length c2)) (fun d hd => by cases hd; omega)).kept (wide_ins C) (grownBy_cell _ w.heap.size 2 (.slice ad L.length cd)) (fun d hd => by cases hd; omega)
                    have hsz2 := ((K.sizes.kept (grownBy_cell wr w.heap.size 0 (.slice (some ⟨g, 0, none⟩) C.length cc)) (fun d hd => by cases hd; left; omega)).kept (grownBy_cell _ w.heap.size 1 (.slice a2 s.length c2)) (fun d hd => by cases hd; left; omega)).kept (grownBy_cell _ w.heap.size 2 (.slice ad L.length cd)) (fun d hd => by cases hd; left; omega)
                    have hdt2 := ((hDat.kept (grownBy_cell wr w.heap.size 0 (.slice (some ⟨g, 0, none⟩) C.length cc)) hlo).kept (grownBy_cell _ w.heap.size 1 (.slice a2 s.length c2)) hlo).kept (grownBy_cell _ w.heap.size 2 (.slice ad L.length cd)) hlo
                    have hdk2 := ((K.deck.kept (grownBy_cell wr w.heap.size 0 (.slice (some ⟨g, 0, none⟩) C.length cc)) hne).kept (grownBy_cell _ w.heap.size 1 (.slice a2 s.length c2)) hne).kept (grownBy_cell _ w.heap.size 2 (.slice ad L.length cd)) hne
                    have hgr2 := grownBy_new (grownBy_new (grownBy_new K.grown (Nat.le_refl _) 0 (.slice (some ⟨g, 0, none⟩) C.length cc)) (Nat.le_refl _) 1 (.slice a2 s.length c2)) (Nat.le_refl _) 2 (.slice ad L.length cd)
                    have HG : Hid (GivesProg D w (.returned (.agg #[.slice (some ⟨g, 0, none⟩) C.length cc, .slice a2 s.length c2, .slice ad L.length cd])) (((wr.setCell ⟨w.heap.size, 0, none⟩ (.slice (some ⟨g, 0, none⟩) C.length cc)).setCell ⟨w.heap.size, 1, none⟩ (.slice a2 s.length c2)).setCell ⟨w.heap.size, 2, none⟩ (.slice ad L.length cd))) :=
                      Lib.hid ⟨_, _, C, _, _, s, _, _, L, Pb, Cb, rfl, HZ.out, hLs.out, HFit.out, h1, h64, hcc, hc2, (fun x hx => by obtain ⟨i, hi, rfl⟩ := List.getElem_of_mem hx; exact (hin i hi).2 (by omega)), hsz2.from (by omega), hrow2.mono (by omega), hdt2, by omega, hdk2, hgr2, HCD.out⟩
                    clear hrow hrow2 hsz2 hdt2 hdk2 hgr2 K hDat hown hin
                    go_wp2
                    refine bodyPost_ret (v := .agg #[.slice (some ⟨g, 0, none⟩) C.length cc, .slice a2 s.length c2, .slice ad L.length cd]) (by simp [results, Try.results12, go_sem, k0, k1, k2]) rfl HG.out
end Go.Proofs.Ythajndgljfbifaa
