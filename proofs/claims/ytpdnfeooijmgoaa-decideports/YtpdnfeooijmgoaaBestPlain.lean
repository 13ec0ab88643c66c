/- The walk over best.All; with BestSmall and BestPort all contracts of best. -/
import Derived.Test.YtpdnfeooijmgoaaBestPort
import Derived.Deep.DeepCutAuto
import Derived.Deep.LoopGhost
import Derived.WalkMore
namespace Go.Proofs.Ytpdnfeooijmgoaa
set_option maxRecDepth 100000
open Go.RowKit
set_option linter.unusedVariables false
set_option linter.unusedSimpArgs false

theorem info_int9 : (Try.prog.info? 3).map (fun i => (i.zero, i.size, i.bytes)) = some (some (.int .i64 0), 1, 8) := by kernel_rfl
set_option maxHeartbeats 4000000 in
theorem pall9_in (v : Value) (l : List Ch) (w : World) (ho : ∀ s ∈ l, s.s.ok) (hn : l.length ≤ 900) (h : ChsIn w v l) :
    Calls Try.prog 32 #[v] w fun e w' => e = .returned (.int .i64 (allN l)) ∧ Below w.heap.size w w' := by
  have HB := Lib.hid (Below.refl w.heap.size w)
  have CI := Lib.hid h
  have HO := Lib.hid ho
  obtain ⟨A, n, c, hv, hln, _⟩ := id h
  subst hv
  have HN := Lib.hid hln
  rw [hln] at hn
  clear h ho hln
  go_enter Try.func32, Try.ntmps32
  obtain ⟨B, hB⟩ : ∃ B, w.heap.size = B := ⟨_, rfl⟩
  have LBC : Hid (∀ g o, A = some ⟨g, o, none⟩ → 0 < n → g < B) := by rw [Hid, ← hB]; exact (CI.out).low
  have HWB := Lib.hid (show w.heap.size ≤ B by rw [← hB]; exact Nat.le_refl _)
  have OW : Hid (RowB w B 29 32 (yesS (l.take 0)).length (.slice none 0 0) (setsL8 (yesS (l.take 0)))) := RowB.nil (Nat.le_of_eq hB.symm)
  have OV : Hid (RowB w B 3 1 (yesN (l.take 0)).length (.slice none 0 0) (intsL (yesN (l.take 0)))) := RowB.nil (Nat.le_of_eq hB.symm)
  have XY : Hid (∀ b, (Value.slice none 0 0).ownBlock = some b → (Value.slice none 0 0).ownBlock ≠ some b) := fun b h => by simp [Value.ownBlock] at h
  clear hB
  go_wp2
  go_loopg [3, 4, 11] n (fun gh s q i v => ∃ (j : Nat) (x y : Value), j + gh = n ∧ x = s ∧ y = q ∧ i = .int .i64 j ∧ Hid (RowB v B 29 32 (yesS (l.take j)).length x (setsL8 (yesS (l.take j)))) ∧ Hid (RowB v B 3 1 (yesN (l.take j)).length y (intsL (yesN (l.take j)))) ∧ Hid (∀ b, x.ownBlock = some b → y.ownBlock ≠ some b) ∧ Hid (ChsIn v (.slice A n c) l) ∧ Hid (Below w.heap.size w v))
  case atStart => exact ⟨0, _, _, by omega, rfl, rfl, rfl, OW, OV, XY, CI, HB⟩
  case round =>
    clear CI HB OW OV XY
    obtain ⟨j, x, y, hj, hx, hy, rfl, OW, OV, XY, CI, HB⟩ := hrel
    subst hx
    subst hy
    cases gk with
    | zero =>
      have hd : decide ((j : Int) < (n : Int)) = false := decide_eq_false (by omega)
      obtain rfl : j = n := by omega
      rw [List.take_of_length_le (by rw [HN.out]; omega)] at OW OV
      have SI := Lib.hid (own_sets8 (OW.out).row)
      have NI := Lib.hid (OV.out).nums
      have HSO := Lib.hid (yesS_ok HO.out)
      have hsl := (yes_len l).1
      rw [HN.out] at hsl
      have HSL : Hid ((yesS l).length ≤ 1000000) := by rw [Hid]; omega
      clear OW OV XY CI hsl
      obtain ⟨A3, n3, c3, rfl, _⟩ := id NI.out
      rcases allN_yes l with ⟨h1, h2⟩ | ⟨k, m, h1, h2, h3⟩
      · have HF := Lib.hid h1
        have HX := Lib.hid h2
        clear h1 h2
        go_wp2_with fail
        refine (first7_in _ (yesS l) _ HSO.out HSL.out SI.out).mono ?_
        rintro e c1 ⟨rfl, hc1⟩
        replace SI := Lib.hid ((SI.out).keptB hc1)
        replace NI := Lib.hid ((NI.out).keptB hc1)
        replace HB := Lib.hid (bstep HB.out hc1)
        clear hc1
        rw [HF.out]
        go_wp2_with fail
        refine (ati9_no A3 n3 c3 (-1) _ (by decide)).mono ?_
        rintro e c1 ⟨rfl, hc1⟩
        replace HB := Lib.hid (bstep HB.out hc1)
        clear hc1
        go_wp2
        go_ret
        exact ⟨ret_int9 HX.out.symm, HB.out⟩
      · have HF := Lib.hid h1
        have HX := Lib.hid h3
        have HAK := Lib.hid h2
        have hkl := (List.getElem?_eq_some_iff.1 h2).1
        clear h1 h2 h3
        obtain ⟨g2, o2, hA2⟩ : ∃ g o, A3 = some ⟨g, o, none⟩ := by
          obtain ⟨_, _, _, h1, _, h3⟩ := NI.out
          cases h1
          obtain ⟨g, o, h4, _⟩ := h3 (by omega)
          exact ⟨g, o, h4⟩
        subst hA2
        clear hkl
        go_wp2_with fail
        refine (first7_in _ (yesS l) _ HSO.out HSL.out SI.out).mono ?_
        rintro e c1 ⟨rfl, hc1⟩
        replace SI := Lib.hid ((SI.out).keptB hc1)
        replace NI := Lib.hid ((NI.out).keptB hc1)
        replace HB := Lib.hid (bstep HB.out hc1)
        clear hc1
        rw [HF.out]
        go_wp2_with fail
        refine (ati9_yes g2 o2 n3 c3 k (yesN l) m _ HAK.out NI.out).mono ?_
        rintro e c1 ⟨rfl, hc1⟩
        replace HB := Lib.hid (bstep HB.out hc1)
        clear hc1
        go_wp2
        go_ret
        exact ⟨ret_int9 HX.out.symm, HB.out⟩
    | succ g1 =>
      have hlt : j < n := by omega
      have hd : decide ((j : Int) < (n : Int)) = true := decide_eq_true (by omega)
      obtain ⟨a, ha⟩ : ∃ a, l[j]? = some a := ⟨_, List.getElem?_eq_getElem (show j < l.length by rw [HN.out]; exact hlt)⟩
      have HA := Lib.hid ha
      have HK := Lib.hid hlt
      obtain ⟨g, o, hA⟩ : ∃ g o, A = some ⟨g, o, none⟩ := by
        obtain ⟨_, _, _, h1, _, h3⟩ := CI.out
        cases h1
        obtain ⟨g, o, h4, _⟩ := h3 (by omega)
        exact ⟨g, o, h4⟩
      subst hA
      have HS2 := Lib.hid (yesS_snoc ha)
      have HN2 := Lib.hid (yesN_snoc ha)
      have HSC : Hid ((yesS (l.take j)).length + 1 ≤ 1000000 ∧ (yesN (l.take j)).length + 1 ≤ 1000000) := by
        have h1 := yes_len (l.take j)
        rw [List.length_take] at h1
        rw [Hid]
        omega
      clear ha hlt
      go_upto_region 6 with (first | (refine big_fill rfl 47 _ _ rfl gK6 (chA a) rfl rfl K6.out (by kernel_rfl) (by kernel_rfl) (by kernel_rfl) ?_; intro vK60 nK6 htK6; replace K6 := Lib.hid nK6; replace OW := Lib.hid ((OW.out).touch htK6 OOWK6.out); replace OV := Lib.hid ((OV.out).touch htK6 OOVK6.out); replace CI := Lib.hid ((CI.out).touch htK6 OCIK6.out); replace HB := Lib.hid (btouch HB.out htK6 LK6.out); clear nK6 htK6; try simp only [Act.put, List.setIfInBounds_toArray, List.set_cons_zero, List.set_cons_succ]) | (refine big_alloc rfl 47 rfl (chA zeroCh) (by kernel_rfl) ?_; intro gK6 wK6 hlK6 nK6 hbK6; have K6 := Lib.hid nK6; have LK6 := Lib.hid (Nat.le_trans (HB.out).size hlK6); have OOWK6 := Lib.hid ((OW.out).off hlK6); have OOVK6 := Lib.hid ((OV.out).off hlK6); have OCIK6 := Lib.hid ((CI.out).off hlK6); replace OW := Lib.hid ((OW.out).keptB hbK6); replace OV := Lib.hid ((OV.out).keptB hbK6); replace CI := Lib.hid ((CI.out).keptB hbK6); replace HB := Lib.hid (bstep HB.out hbK6); clear hlK6 nK6 hbK6; try simp only [Act.put, List.setIfInBounds_toArray, List.set_cons_zero, List.set_cons_succ]) | (refine big_loadAt rfl 47 _ rfl g (o + j * 33) rfl (chA a) (ch_in CI.out HA.out) Try.underlying47 rfl (by kernel_rfl) ?_; try simp only [Act.put, List.setIfInBounds_toArray, List.set_cons_zero, List.set_cons_succ]) | (refine big_index rfl 34 _ _ rfl g o n c j 33 rfl rfl HK.out Try.underlying34 (by kernel_rfl) ?_; try simp only [Act.put, List.setIfInBounds_toArray, List.set_cons_zero, List.set_cons_succ]))
      have x32 := (K6.out).reads (i := 32) (x := .bool a.is) rfl
      cases hi : a.is
      · have HI := Lib.hid hi
        rw [hi] at x32
        rw [hi] at HS2 HN2
        clear hi
        go_wp2
        clear x32 K6
        go_roundg g1
        case measure => omega
        case rel => exact ⟨j + 1, _, _, by omega, rfl, rfl, by go_num, by rw [HS2.out]; simpa using OW, by rw [HN2.out]; simpa using OV, XY, CI, HB⟩
      · have HI := Lib.hid hi
        rw [hi] at x32
        rw [hi] at HS2 HN2
        clear hi
        go_upto_region 8 with (first | (refine big_append rfl _ _ 62 29 rfl (.agg (rsA zeroR)) 32 88 Try.underlying62 info_set9 rfl (by omega) (by omega) B rfl OW.out gK9 1 (setsL8 [a.s]) rfl rfl ((K9.out).range (by kernel_rfl)) (by kernel_rfl) (by omega) (HSC.out).1 ?_; intro X2 w9 ow9 hg9 hn9; have NE : Hid (∀ b, y.ownBlock = some b → x.ownBlock ≠ some b) := (fun b h1 h2 => (XY.out) b h2 h1); have XY2 : Hid (∀ b, X2.ownBlock = some b → y.ownBlock ≠ some b) := (fun b h1 h2 => by rcases hn9 b h1 with h3 | h3; exact (XY.out) b h3 h2; have h4 := ((OV.out).blocks b h2).2; omega); replace OV := Lib.hid ((OV.out).grown hg9 (NE.out)); replace CI := Lib.hid ((CI.out).grown hg9 (fun g2 o2 h2 h3 => (OW.out).ne ((LBC.out) g2 o2 h2 h3))); replace HB := Lib.hid ((OW.out).hb HWB.out HB.out hg9); replace OW := Lib.hid ow9; clear ow9 hg9 hn9 K9 NE XY; try simp only [Act.put, List.setIfInBounds_toArray, List.set_cons_zero, List.set_cons_succ]) | (refine big_slices rfl 62 29 1 _ rfl (rsA a.s) 32 Try.underlying62 rfl rfl rfl (of_decide_eq_true (by kernel_rfl)) (of_decide_eq_true (by kernel_rfl)) (by kernel_rfl) ?_; intro gK9 wK9 hlK9 nK9 hbK9; have K9 := Lib.hid nK9; replace OW := Lib.hid ((OW.out).keptB hbK9); replace OV := Lib.hid ((OV.out).keptB hbK9); replace CI := Lib.hid ((CI.out).keptB hbK9); replace HB := Lib.hid (bstep HB.out hbK9); clear hlK9 nK9 hbK9; try simp only [Act.put, List.setIfInBounds_toArray, List.set_cons_zero, List.set_cons_succ]) | (refine big_load rfl 29 _ rfl gK6 0 rfl K6.out [.int .i64 a.s.p1, .int .i64 a.s.p2, .int .i64 a.s.q1, .int .i64 a.s.q2, .int .i64 a.s.q3, .int .u8 a.s.gr.b0, .int .u8 a.s.gr.b1, .int .u8 a.s.gr.b2, .int .u8 a.s.gr.b3, .int .u8 a.s.gr.b4, .int .u8 a.s.gr.b5, .int .u8 a.s.gr.b6, .int .u8 a.s.gr.b7, .int .i64 a.s.st, .int .u8 a.s.sn.c.b0, .int .u8 a.s.sn.c.b1, .int .u8 a.s.sn.c.b2, .int .u8 a.s.sn.c.b3, .int .u8 a.s.sn.c.b4, .int .u8 a.s.sn.c.b5, .int .u8 a.s.sn.c.b6, .int .u8 a.s.sn.c.b7, .int .i64 a.s.sn.n, .int .u8 a.s.rc.c.b0, .int .u8 a.s.rc.c.b1, .int .u8 a.s.rc.c.b2, .int .u8 a.s.rc.c.b3, .int .u8 a.s.rc.c.b4, .int .u8 a.s.rc.c.b5, .int .u8 a.s.rc.c.b6, .int .u8 a.s.rc.c.b7, .int .i64 a.s.rc.n] rfl Try.underlying29 rfl (by kernel_rfl) ?_; try simp only [Act.put, List.setIfInBounds_toArray, List.set_cons_zero, List.set_cons_succ]))
        clear x32 K6
        go_wp2_with (first | (refine big_append rfl _ _ 31 3 rfl (.int .i64 0) 1 8 Try.underlying31 info_int9 rfl (by omega) (by omega) B rfl OV.out gK9 1 (intsL [(j : Int)]) rfl rfl ((K9.out).range (by kernel_rfl)) (by kernel_rfl) (by omega) (HSC.out).2 ?_; intro Y2 w9 ow9 hg9 hn9; have NE : Hid (∀ b, X2.ownBlock = some b → y.ownBlock ≠ some b) := XY2.out; have XY3 : Hid (∀ b, X2.ownBlock = some b → Y2.ownBlock ≠ some b) := (fun b h1 h2 => by rcases hn9 b h2 with h3 | h3; exact (XY2.out) b h1 h3; have h4 := ((OW.out).blocks b h1).2; omega); replace OW := Lib.hid ((OW.out).grown hg9 (NE.out)); replace CI := Lib.hid ((CI.out).grown hg9 (fun g2 o2 h2 h3 => (OV.out).ne ((LBC.out) g2 o2 h2 h3))); replace HB := Lib.hid ((OV.out).hb HWB.out HB.out hg9); replace OV := Lib.hid ow9; clear ow9 hg9 hn9 K9 NE XY2; try simp only [Act.put, List.setIfInBounds_toArray, List.set_cons_zero, List.set_cons_succ]) | (refine big_slices rfl 31 3 1 _ rfl (#[.int .i64 j]) 1 Try.underlying31 rfl rfl rfl (of_decide_eq_true (by kernel_rfl)) (of_decide_eq_true (by kernel_rfl)) (by kernel_rfl) ?_; intro gK9 wK9 hlK9 nK9 hbK9; have K9 := Lib.hid nK9; replace OW := Lib.hid ((OW.out).keptB hbK9); replace OV := Lib.hid ((OV.out).keptB hbK9); replace CI := Lib.hid ((CI.out).keptB hbK9); replace HB := Lib.hid (bstep HB.out hbK9); clear hlK9 nK9 hbK9; try simp only [Act.put, List.setIfInBounds_toArray, List.set_cons_zero, List.set_cons_succ]))
        go_roundg g1
        case measure => omega
        case rel => exact ⟨j + 1, X2, Y2, by omega, rfl, rfl, by go_num, by rw [HS2.out]; simpa [setsL8_append] using OW, by rw [HN2.out]; simpa [intsL_append] using OV, XY3, CI, HB⟩

end Go.Proofs.Ytpdnfeooijmgoaa
